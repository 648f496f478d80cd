import PyProof.Rows.All
import Wide.All
import OpenK.AllK
import Wide.FinOn
import PyProof.TwoTypes
import KE.KOpsOwn
import KE.KTupSum
import KE.KStar
import KE.GoesMore
import HandS.ForMost
import HandS.Star
import HandS.SlotsOwn
import HandS.ClsMeth
import HandS.Conv
import PyProof.ReprRoads
import PyProof.FitsInt
import HandS.EndBits
import HandS.Base
import HandS.Call
import HandS.Exc
import HandS.Lambda
import KE.KExcIs
import HandS.IsInst
import HandS.ExcField
import HandS.ExcIs
import HandS.ExcValue
import PyProof.CallFns
import PyProof.FactsAll.bool_1
import PyProof.FactsAll.bool_2
import HandS.ExcInit
import HandS.WordsExc
import HandS.Property
import KE.OsRunLaw
import KE.KCallOwn
import HandS.Text
import HandS.StrMore
import HandS.TupAny
import HandS.FStr
import HandS.MakeKwOnly
import HandS.MakeKw
import HandS.Codes
import HandS.Wide
import PySem.Challenge.RW_remadedays_k17_ties_made
set_option Elab.async false
set_option linter.all false
set_option maxRecDepth 100000
set_option maxHeartbeats 4000000
set_option Elab.async false
set_option linter.all false
set_option maxRecDepth 100000
set_option maxHeartbeats 4000000
namespace My
open PySem PySem.Spec PyProof.Rows L2
section
variable {X : Cx} {CX : CXT} {k : Nat} {f C : Addr} {fd : FuncData} {ps ks : List Str} {sp : Sp} {E : XK} {m : Str} {p pos apos : Pos} {e o fe : Expr} {es : List Expr} {kws : List Keyword} {te ta tf : TE} {t tk : TA}
variable {g : List Value → List Value → List Value} {gV : List V → List V → List V} {pl : Sem Bool} {mc : Value}
/-- C.m is a def of the class (or of one above it) -/
structure CFn (K : PySem.W.Frag) (C : Addr) (mc : Value) (m : Str) (f : Addr) : Prop where
  at_ : PySem.W.findCls K (.ref C) mc m = some (.val (.ref f))
  kp : PySem.W.keepIn K (.ref f) = true
def tCFn (C : Addr) (sp : Sp) (E : XK) (ta : TE) (t : TA) : TE := fun σ H Q => ta σ H fun x H1 => x = .ref C ∧ t σ H1 fun vs H2 => sp vs H2 Q E
theorem pe_cfn (he : PE X o ta) (r : ClX.CRead X.K C mc) (c : CFn X.K C mc m f) (F : FnR X.prog X.w X.K X.mg X.base CX k f sp) (hr : Room k X.A) (hx : Passes CX X E) (ha : PA X (e :: es) t)
    (hst : starEach (e :: es) X.env = (false, eval e X.env) :: starEach es X.env := by rfl) (hpl : (backTo pos (starEach es X.env)).any (·.1) = false := by rfl)
    (ht : eval (.Call (.Attribute o m apos) (e :: es) [] pos) X.env = (do
      let z ← eval o X.env
      standAt apos.atName
      let (fn, fst) ← holding [z] (getMethod z m pl)
      callWith pos fn fst (backTo pos (starEach (e :: es) X.env)) (backToKw pos (keywordEach [] X.env))) := by rfl) :
    PE X (.Call (.Attribute o m apos) (e :: es) [] pos) (tCFn C sp E ta t) := by
  refine ⟨fun pins s σ H Q I h => ?_⟩
  refine PySem.W.methodCall_KW (pl := pl) (thn (he.run pins s σ H _ I h) fun u s1 ⟨x, H1, I1, rx, ex, q⟩ => ?_) ht
  subst ex
  obtain rfl : u = Value.ref C := rx
  refine PySem.W.method_cls I1.kIn r.ga (PySem.W.cls_value I1.kIn r.rd c.at_ rfl ?_)
  refine PySem.W.callWith_K (first := []) (h₀ := X.base) I.ok.mod.kin c.kp (thn (ha.run pos pins _ σ H1 _ (I1.tok _) q) fun us s2 ⟨vs, H2, I2, rv, q2⟩ => ⟨I2.kIn, ?_⟩) hst hpl
  exact wpAny_call (run_fnR (us := us) (vs := vs) F hr hx I2 rv q2)
end
end My
set_option Elab.async false
set_option linter.all false
set_option maxRecDepth 100000
set_option maxHeartbeats 4000000
namespace My
open PySem PySem.Spec PyProof.Rows L2
structure FnG (P : Program) (w : World) (K : PySem.W.Frag) (mg : Str → Option Value) (base : Heap) (CX : CXT) (k : Nat) (f : Addr) (fd : FuncData) (ps : List Str) (sp : Sp) : Prop where
  len : ∀ vs H Q E, sp vs H Q E → vs.length = ps.length
  run : ∀ (A : Around) (outer : List Env) (s : Shared) (H : Hp) (args : Args) (us : List Value) (vs : List V) (Q : VK) (E : XK), A.guards = some [] → Room k A → Env0 P w K mg base A outer s H → BindsTo s fd args (ps.zip us) → Vals vs us → sp vs H Q E →
    codeAny (model P w) A (.call (.ref f) args) (CR CX outer P w H s Q E) s
theorem okG {P : Program} {w : World} {K : PySem.W.Frag} {mg : Str → Option Value} {base : Heap} {x qual : Str} {st : Stmt} {f : Addr} {fd : FuncData} {N ps : List Str} {k : Nat} {sp : Sp} (F : Fun K x qual st f fd) (S : FnScope N ps (defScope st)) (len : ∀ vs H Q E, sp vs H Q E → vs.length = ps.length)
    (body : ∀ (cdv : Value) (A : Around) (outer : List Env) (s : Shared) (H : Hp) (vs : List V) (Q : VK) (E : XK), A.guards = some [] → Room k (A.deeper (envOfC qual (defScope st) s.heap.objs.size f cdv)) → sp vs H Q E →
      ∃ t, PSs (cxOf CX0 P w K mg base N qual (defScope st) f cdv A outer s H E).nox (defBody st) t ∧ t { nx := fun _ H' => Q .non H', rt := Q } (start N vs) H) : FnG P w K mg base CX0 (k + 1) f fd ps sp := by
  obtain ⟨oc, od, kV, doc, pm, an, cdv, ct, osl, rfl, lk, hcd⟩ := F.ex
  refine ⟨len, fun A outer s H args us vs Q E gd room e0 bnd rv hs => ?_⟩
  have n := len _ _ _ _ hs
  have inK : K.In s.heap := e0.mod.kin.keeps fun b o e => (e0.bs b o e).1
  have nol : s.heap.NoLimit := e0.mod.nolimit.keeps fun b o e => (e0.bs b o e).1
  have kinds : ∀ y ∈ ps.zip us, (defScope st).names.lookup y.1 = some .local ∨ ((defScope st).names.lookup y.1 = some .cell ∧ ((cellsFrom (s.heap.objs.size + 1) (defScope st).names []).lookup y.1).isSome = true) := by
    rintro ⟨y, v⟩ hy
    exact (S.par y (List.of_mem_zip hy).1).elim .inl fun q => .inr ⟨q, PySem.W.cellsFrom_some _ _ _ (.inl q)⟩
  refine codeAny_call_function room.depth (inK _ _ lk) rfl S.co S.gen rfl (PySem.W.codeRec_of inK hcd) (bnd _ _ _ _ (wpAny_newFunctionEnv_cells S.kind kinds fun env he s1 x => ?_))
  subst he
  refine ⟨nol.keeps x.toInCall.keep, codeAny_func ?_⟩
  obtain ⟨t, ht, hq⟩ := body cdv A outer s H vs Q E gd (room.deeper _) hs
  refine wpAny_mono (ht.nox.run [] s1 (start N vs) H _ (inv_start S room.hd e0 n rv x) hq) (fun fl s' z => ?_) fun e s' z => z
  match fl, z with
  | .ret u, ⟨v, σ', H', J, ru, q⟩ => exact ⟨v, H', J.os, J.bare, J.base, J.hok, ru, q⟩
  | .next, ⟨σ', H', J, q⟩ => exact ⟨V.non, H', J.os, J.bare, J.base, J.hok, rfl, q⟩
  | .brk, ⟨_, _, _, q⟩ => exact q.elim
  | .cont, ⟨_, _, _, q⟩ => exact q.elim
theorem int_shown {i : Int} (h : i.natAbs < 10 ^ 70) : (PyData.shown (.int i)).length ≤ 71 := by
  show (Str.ofString (toString i)).length ≤ 71
  rw [PySem.ofString_length]
  exact int_text_length_le10 (k := 70) (by decide) h
theorem showAll_ints : ∀ xs : List Int, (∀ i ∈ xs, i.natAbs < 10 ^ 70) → PyData.showableAll (xs.map PyData.int) = true
  | [], _ => by simp [PyData.showableAll]
  | x :: r, h => by
    have e : (10 : Nat) ^ 70 ≤ 2 ^ 240 := by decide
    have h1 := Nat.lt_of_lt_of_le (h x (by simp)) e
    have h2 : x.natAbs.log2 < 1920 := Nat.lt_trans (PySem.Flt.log2_lt_of (k := 240) (by decide) h1) (by decide)
    simp only [List.map_cons, PyData.showableAll, PyData.showable, Bool.and_eq_true, decide_eq_true_eq]
    exact ⟨h2, showAll_ints r fun i hi => h i (by simp [hi])⟩
section
variable {prog : Program} {w : World} {A : Around} {E : Value → Shared → Prop} {s : Shared} {K : PySem.W.Frag} {x C f : Addr} {ox : Obj} {od : Option Obj} {b : Value}
theorem ne_entry {Q : Fin → Shared → Prop} (hu : A.units < cLine) (inK : K.In s.heap) (I : PySem.W.InstAt s.heap x ox C od) (hs : PySem.W.findIn K (.ref C) "__eq__" = some (some (.ref f))) (hf : PySem.W.isFn K (.ref f) = true)
    (h : wpAny (model prog w) A (call (.ref f) [.ref x, b]) (fun v s' => ∃ c, v = .bool c ∧ Q (.done (.ret (.bool (!c)))) s') E s) : wpAny (model prog w) A (Builtin.«object.__ne__» ⟨[.ref x, b], []⟩) Q E s := by
  show wpAny _ _ (do cRoomFor "comparison" [.ref x, b]; match ← callSpecialIfBound? (.ref x) "__eq__" [b] with | some .notImplemented | none => ret .notImplemented | some r => ret (.bool (!(← truthy r)))) _ _ s
  refine wpAny_bind (wpAny_cRoomFor hu ?_)
  refine wpAny_bind (PySem.W.ifBound_K inK I hs hf (wpAny_mono h (fun v s' z => ?_) fun _ _ e => e))
  obtain ⟨c, rfl, q⟩ := z
  show wpAny _ _ (truthy (.bool c) >>= fun t => ret (.bool (!t))) _ _ s'
  exact wpAny_bind (wpAny_truthy_bool (wpAny_pure q))
theorem ne_bound {args : List Value} {Q : Option Value → Shared → Prop} {M : Model} (inK : K.In s.heap) (I : PySem.W.InstAt s.heap x ox C od) (hn : PySem.W.findIn K (.ref C) "__ne__" = some (some (.builtin "object.__ne__")))
    (h : wpAny M A (call (.builtin "object.__ne__") (.ref x :: args)) (fun v => Q (some v)) E s) : wpAny M A (callSpecialIfBound? (.ref x) "__ne__" args) Q E s := by
  simp only [callSpecialIfBound?, bindSpecialIfBound?]
  refine wpAny_holding (wpAny_bind (wpAny_bind (wpAny_bind (I.type.here ((PySem.W.looks_findIn inK hn).here ?_)))))
  refine wpAny_bind (wpAny_askSetting (wpAny_ite ?_))
  have last : wpAny M A (call (.builtin "object.__ne__") ([.ref x] ++ args) >>= fun v => pure (some v)) Q E s := wpAny_bind (wpAny_mono h (fun v s' q => wpAny_pure q) fun _ _ q => q)
  split
  · exact wpAny_bind (wpAny_of_eq (F.cmp_object.ne.bind _) (wpAny_pure (by exact last)))
  · exact wpAny_tryCatch (wpAny_bind (wpAny_of_eq (F.cmp_object.ne.bind _) (wpAny_pure (by exact last))))
theorem rc_ne {Q : Value → Shared → Prop} (hu : A.units + 1 < cLine) (inK : K.In s.heap) (I : PySem.W.InstAt s.heap x ox C od) (hb : PySem.W.Looks (model prog w) s.heap (typeOf b) (.ref C)) (hm : PySem.W.mroIn K C (.type "object") = some true)
    (hs : PySem.W.findIn K (.ref C) "__eq__" = some (some (.ref f))) (hf : PySem.W.isFn K (.ref f) = true) (hn : PySem.W.findIn K (.ref C) "__ne__" = some (some (.builtin "object.__ne__")))
    (h : wpAny (model prog w) A.in1 (call (.ref f) [.ref x, b]) (fun v s' => ∃ c, v = .bool c ∧ Q (.bool (!c)) s') E s) : wpAny (model prog w) A (richCompare .NotEq (.ref x) b) Q E s := by
  have one : wpAny (model prog w) A (tryCompare (.ref x) "__ne__" b) (fun r s' => ∃ v, r = some v ∧ Q v s') E s := by
    unfold tryCompare
    refine wpAny_bind (ne_bound inK I hn (wpAny_call (codeAny_call_builtin F.cmp_object.ne.plain F.cmpEntry_ne (PySem.W.check_slot F.cmpKind_ne F.cmpSplit_ne (I.type.andThen (PySem.W.looks_mroIn inK hm)) (F.cmpArgs_ne _ _)
      (ne_entry (A := A.in1) (by show A.units + 1 < cLine; exact hu) inK I hs hf (wpAny_mono h (fun v s' z => ?_) fun e s' z => ?_))))))
    · obtain ⟨c, e, q⟩ := z
      exact ⟨c, e, wpAny_pure ⟨_, rfl, q⟩⟩
    · exact z
  unfold richCompare
  simp only [oneThing_ref]
  refine wpAny_holding (wpAny_bind (wpAny_cRoomFor (by omega) ?_))
  refine wpAny_bind (I.type.here (wpAny_bind (hb.here ?_)))
  split
  · rename_i q
    exact absurd q (by simp)
  · refine wpAny_bind (wpAny_pure ?_)
    simp only [Bool.false_eq_true, if_false]
    refine wpAny_bind (wpAny_mono one (fun r s' z => ?_) fun _ _ e => e)
    obtain ⟨v, rfl, q⟩ := z
    exact wpAny_pure q
end
section
variable {X : Cx} {CX : CXT} {n : Nat} {C g : Addr} {sp : Sp} {E : XK}
structure NeO (K : PySem.W.Frag) (C g : Addr) : Prop where
  eq : PySem.W.findIn K (.ref C) "__eq__" = some (some (.ref g))
  fn : PySem.W.isFn K (.ref g) = true
  ne : PySem.W.findIn K (.ref C) "__ne__" = some (some (.builtin "object.__ne__"))
  ob : PySem.W.mroIn K C (.type "object") = some true
def rNeO (C : Addr) (sp : Sp) (E : XK) : R2 := fun x y H Q => ∃ a b dx dy fs gs, x = .ref a ∧ y = .ref b ∧ H a = some (.ins C dx fs) ∧ H b = some (.ins C dy gs) ∧ sp [x, y] H (fun z H' => ∃ c, z = .bl c ∧ Q (.bl (!c)) H') E
theorem op_neO (R : NeO X.K C g) (F : FnR X.prog X.w X.K X.mg X.base CX n g sp) (hr : Room (n + 1) X.A) (hx : Passes CX X E) : OpR X (compareOp .NotEq) (rNeO C sp E) := by
  intro pins s σ H x y v u Q I rx ry h
  obtain ⟨a, b, dx, dy, fs, gs, rfl, rfl, ha, hb, q⟩ := h
  cases (show v = Value.ref a from rx)
  cases (show u = Value.ref b from ry)
  obtain ⟨mA, O, _⟩ := ins_get I.hok ha
  obtain ⟨od, J, _⟩ := O.look
  obtain ⟨mB, OB, _⟩ := ins_get I.hok hb
  obtain ⟨ob, JB, _⟩ := OB.look
  show wpAny _ _ (richCompare .NotEq (.ref a) (.ref b)) _ _ _
  refine rc_ne (by have := hr.un; omega) I.kIn J JB.type R.ob R.eq R.fn R.ne (wpAny_mono (wpAny_call (SlX.run_at (us := [.ref a, .ref b]) (ws := [.ref a, .ref b]) F hr.in1 I.env0.in1 hx I (.cons rfl (.cons rfl .nil)) q)) (fun z s' k => ?_) fun _ _ e => e)
  obtain ⟨z', H', I', rz, c, ez, qz⟩ := k
  subst ez
  cases (show z = Value.bool c from rz)
  exact ⟨c, rfl, .bl (!c), H', I', rfl, qz⟩
end
end My
set_option Elab.async false
set_option linter.all false
set_option maxRecDepth 100000
set_option maxHeartbeats 4000000
namespace My
open PySem PySem.Spec PyProof.Rows L2
/-- an error's object: of which class it is, where its own dict lies -/
def ErrO (a : Addr) (cls : Value) (d : Option Addr) : HO := .ext fun h => ∃ oe vs, h.get? a = some oe ∧ Zc cls d oe ∧ oe.data = .fields vs
section
variable {X : Cx} {pins : List (Addr × Obj)} {σ : L2.St} {H : Hp} {s : Shared}
/-- an error that no one tracked is tracked from now on -/
theorem inv_err {a : Addr} {cls : Value} {d : Option Addr} {oe : Obj} {vs : Array Value} (I : Inv X ((a, oe) :: pins) σ H s) (hz : Zc cls d oe) (hd : oe.data = .fields vs) (n0 : ∀ o, X.s_0.heap.get? a ≠ some o)
    (np : ∀ p ∈ X.pn ++ pins, p.1 ≠ a) : H a = none ∧ Inv X pins σ (upd H a (ErrO a cls d)) s := by
  obtain ⟨ga, na, nL, nF, ncell⟩ := I.pin (a, oe) (List.mem_append_right _ List.mem_cons_self)
  have old : ∀ b o, X.s_0.heap.get? b = some o → b ≠ a := fun b o e z => n0 o (z ▸ e)
  have free' : ∀ b, b ≠ a → H b = none → upd H a (ErrO a cls d) b = none := fun b z e => (upd_ne z).trans e
  have some' : ∀ b u, H b = some u → upd H a (ErrO a cls d) b = some u := fun b u e => (upd_ne (ne_of_none e na)).trans e
  refine ⟨na, I.ok, I.os, I.bare, ⟨I.base.keep, I.base.slot, ?_, I.base.there, ?_, ?_, ?_⟩, I.loc, I.cell, free' _ (Ne.symm nL) I.free, ?_, ?_, ?_, I.len⟩
  · exact fun b o e n x => free' b (old b o e) (I.base.free b o e n x)
  · exact fun b xs e => some' b _ (I.base.tups b xs e)
  · exact fun b o u e => some' b _ (I.base.frzs b o u e)
  · intro b ps e
    obtain ⟨more, e1⟩ := I.base.tbls b ps e
    exact ⟨more, some' b _ e1⟩
  · intro y c e
    refine free' c (fun z => ?_) (I.freeC y c e)
    obtain ⟨v, o, ho, hc⟩ := I.cell y c e
    rw [z] at ho
    exact ncell v ((Option.some.inj (ho.symm.trans ga)) ▸ hc)
  · intro p hp
    have hp' : p ∈ X.pn ++ (a, oe) :: pins := (List.mem_append.mp hp).elim (fun z => List.mem_append_left _ z) fun z => List.mem_append_right _ (List.mem_cons_of_mem _ z)
    obtain ⟨k1, k2, k3⟩ := I.pin p hp'
    exact ⟨k1, free' _ (np p hp) k2, k3⟩
  · intro b u e
    by_cases z : b = a
    · subst z
      rw [upd_same] at e
      cases e
      refine ⟨⟨oe, vs, ga, hz, hd⟩, ⟨oe, ga⟩, fun h1 h2 ⟨o, ws, q1, q2, q3⟩ st => ⟨o, ws, st _ q1, q2, q3⟩⟩
    · rw [upd_ne z] at e
      exact (I.hok b u e).stay (fun _ _ _ q => q) (fun c q => some' c _ q) fun c xs q => some' c _ q
/-- out of the clause: the error is pinned, no more the clause's -/
theorem inv_out {a : Addr} {oe : Obj} (I : Inv (X.suite a ((a, oe) :: (X.pn ++ pins))) [] σ H s) (ok : X.Ok) : Inv X ((a, oe) :: pins) σ H s := by
  refine ⟨ok, I.os, I.bare, I.base, I.loc, I.cell, I.free, I.freeC, fun p hp => I.pin p ?_, I.hok, I.len⟩
  rw [List.append_nil]
  rcases List.mem_append.mp hp with z | z
  · exact List.mem_cons_of_mem _ (List.mem_append_left _ z)
  · rcases List.mem_cons.mp z with z | z
    · exact z ▸ List.mem_cons_self
    · exact List.mem_cons_of_mem _ (List.mem_append_right _ z)
/-- what the clause wishes of an error: it is one of the clause's, and the clause goes on to what follows, the error known behind it -/
def wKeep (K : PySem.W.Frag) (c : Value) (i : Nat) (ts : Addr → Value → Option Addr → TS) (D : Ends) : WX := fun cls d σ H =>
  PySem.W.exmOne K cls c = some true ∧ ∀ a, H a = none → ts a cls d { nx := fun σ' H' => H' a = none → D.nx (σ'.set i none) (upd H' a (ErrO a cls d)), rt := fun _ _ => False, bk := fun _ _ => False, ct := fun _ _ => False } (σ.set i (some (.ref a))) H
end
section
variable {X : Cx} {x n : Str} {c : Value} {i : Nat} {body suite : List Stmt} {b₀ : Stmt} {np pos pos' : Pos} {tb : WX → TS} {ts : Addr → Value → Option Addr → TS}
/-- the clause, entered with an error in the air -/
theorem clause_keep (hs : X.stack = X.env :: X.outer) (hf : X.env.frame = some X.env.locals) (hex : X.ex = []) (hN : X.N.Nodup) (hi : X.N[i]? = some n) (hln : X.env.kindOf n = some .local) (hc : Names X x c)
    (hsu : ∀ (a : Addr) (oe : Obj) (cls : Value) (d : Option Addr) (pn : List (Addr × Obj)), Zc cls d oe → (∃ vs, oe.data = .fields vs) → PSs (X.suite a ((a, oe) :: pn)) (b₀ :: suite) (ts a cls d))
    {pins : List (Addr × Obj)} {D : Ends} {xe : Value → Shared → Prop} {u : Value} {s' : Shared} (ok : X.Ok) (air : XE (X.tr (X.pn ++ pins) xe) (wKeep X.K c i ts D) u s') :
    wpAny (model X.prog X.w) X.A (noteFrame u X.env) (fun _ s₂ => wpAny (model X.prog X.w) X.A (setFlight u none) (fun _ s₃ =>
      wpAny (model X.prog X.w) X.A (handleBy u X.env [.ExceptHandler (some (.Name x np)) (some n) (b₀ :: suite) pos']) (SP X pins D) X.xe s₃) X.xe s₂) X.xe s' := by
  obtain ⟨a, B, sI, pins', σ', H', cls, d, rfl, J', nb, up, sky, na, os, ag, hb1, yes⟩ := air
  have J : Inv X pins σ' H' sI := J'.ofTry ok
  have hfr : X.A.frames = some (X.env :: X.outer) := by rw [ok.frames, hs]
  have inFr : ∀ b, b ∈ frs (X.env :: X.outer) → b ∈ frs X.stack := fun b z => by rw [hs]; exact z
  have frIn : ∀ b, b ∈ frs X.stack → b ∈ frs (X.env :: X.outer) := fun b z => by rw [hs] at z; exact z
  have fInS : ∀ b, b ∈ X.fs → b ∈ frs X.stack := fun b z => inFr b (by
    obtain ⟨e, he, q⟩ := List.mem_filterMap.mp z
    exact List.mem_filterMap.mpr ⟨e, List.mem_cons_of_mem _ he, q⟩)
  have lInS : X.env.locals ∈ frs X.stack := inFr _ (List.mem_filterMap.mpr ⟨X.env, List.mem_cons_self, hf⟩)
  refine Sky.land Zc.steady hfr hf (show Sky B (X.env :: X.outer) a (Zc cls d) X.env.locals s'.heap by rw [← hs]; exact sky) fun h3 fl3 up3 => ?_
  obtain ⟨hB3, hBa, hFF3, oe3, vs3, T3, oT3, ts3, he3, hz3, hd3, _⟩ := id fl3
  -- the error is no frame
  have nfr : a ∉ frs X.stack := fun hm => by
    obtain ⟨_, o', e', hnf⟩ := hFF3.mem (frIn a hm)
    rw [he3] at e'
    cases e'
    exact hnf _ hd3
  have nL : a ≠ X.env.locals := fun z => nfr (z ▸ lInS)
  have nF : a ∉ X.fs := fun z => nfr (fInS a z)
  -- it is new: neither pinned nor there when the def began
  have notB : ∀ b o, B.get? b = some o → b ≠ a := fun b o e z => by
    rw [z, hBa] at e
    cases e
  have n0 : ∀ o, X.s_0.heap.get? a ≠ some o := fun o e => by
    obtain ⟨o', e1⟩ := J.base.there a o e (by rw [hex]; simp)
    exact notB a o' (nb a o' e1 nfr) rfl
  have npn : ∀ p ∈ X.pn ++ pins, p.1 ≠ a := fun p hp => by
    have hp' : p ∈ (X.tr (X.pn ++ pins) xe).pn ++ pins' := List.mem_append_left _ hp
    obtain ⟨k1, _, k3, k4, _⟩ := J'.pin p hp'
    exact notB _ _ (nb p.1 p.2 k1 fun hm => by
      rcases List.mem_cons.mp (J.stkSub _ hm) with z | z
      · exact k3 z
      · exact k4 z)
  have Jp : Inv X pins σ' H' sI := J'.ofTry ok
  have J3 : Inv X pins σ' H' { s' with heap := h3 } := Jp.landed nb fl3.1 (up.trans up3) os ag
  have S3 := J3.suite he3 hd3 na nL nF
  refine wpAny_handleBy_cons (codeAny_handlers_test ?_) (by intro q; cases q)
  have LT : PySem.W.Looks (model X.prog X.w) h3 (typeOf (.ref a)) cls := fun A Q E s k q => wpAny_typeOf_ref (k _ _ he3) (by rw [hz3.1]; exact q)
  have LM := PySem.W.exm_one (M := model X.prog X.w) J3.kIn LT hb1
  have named : ∀ {Q : Value → Shared → Prop} {E : Value → Shared → Prop}, Q c { s' with heap := h3 } → wpAny (model X.prog X.w) (X.A.mark (some (.ref a))) (eval (.Name x np) X.env) Q E { s' with heap := h3 } := fun {Q E} q => by
    obtain ⟨hg, hdbg, hm⟩ := hc
    rcases hm with hm | ⟨hm, hv, hnn⟩
    · exact ld_glob (X := X.suite a ((a, oe3) :: (X.pn ++ pins))) S3 hg hm q hdbg
    · exact ld_blt (X := X.suite a ((a, oe3) :: (X.pn ++ pins))) S3 hg hm hv q hnn hdbg
  refine named (LM.here (codeAny_handlers_suite_as (HandSPX.lands_againZ fl3 fun h4 fl4 up4 => ?_)))
  obtain ⟨_, _, _, oe4, vs4, _, _, _, he4, hz4, hd4, _⟩ := id fl4
  have J4 : Inv X pins σ' H' { s' with heap := h4 } := Jp.landed nb fl4.1 ((up.trans up3).trans up4) os ag
  have S4 := J4.suite he4 hd4 na nL nF
  refine store_ok (X := X.suite a ((a, oe4) :: (X.pn ++ pins))) (v := .ref a) S4 hN hi (.inl hln) rfl (fun s5 S5 => ?_) (.inr hln)
  refine wpAny_mono ((hsu a oe4 cls d (X.pn ++ pins) hz4 ⟨_, hd4⟩).run [] s5 _ H' _ S5 (yes a na)) (fun f s6 hsp => ?_) (fun _ _ z => False.elim z)
  cases f with
  | next =>
    obtain ⟨σ6, H6, S6, q6⟩ := hsp
    refine gone_ok (inv_out S6 ok) hN hi hln fun s7 J7 => ?_
    obtain ⟨na6, J8⟩ := inv_err J7 hz4 hd4 n0 npn
    exact ⟨_, _, J8, q6 na6⟩
  | brk =>
    obtain ⟨_, _, _, q6⟩ := hsp
    exact q6.elim
  | cont =>
    obtain ⟨_, _, _, q6⟩ := hsp
    exact q6.elim
  | ret u =>
    obtain ⟨_, _, _, _, _, q6⟩ := hsp
    exact q6.elim
/-- try: body / except x as n: suite, the error known behind the clause -/
theorem ps_try_keep (hs : X.stack = X.env :: X.outer) (hf : X.env.frame = some X.env.locals) (hex : X.ex = []) (hN : X.N.Nodup) (hi : X.N[i]? = some n) (hln : X.env.kindOf n = some .local) (hc : Names X x c)
    (hb : ∀ (W : WX) (pn : List (Addr × Obj)) (xe : Value → Shared → Prop), Takes (X.tr pn xe) W → PassesOwn (model X.prog X.w) X.A X.env xe → PSs (X.tr pn xe) body (tb W))
    (hsu : ∀ (a : Addr) (oe : Obj) (cls : Value) (d : Option Addr) (pn : List (Addr × Obj)), Zc cls d oe → (∃ vs, oe.data = .fields vs) → PSs (X.suite a ((a, oe) :: pn)) (b₀ :: suite) (ts a cls d)) :
    PS X (.Try body [.ExceptHandler (some (.Name x np)) (some n) (b₀ :: suite) pos'] [] [] pos) (fun D σ H => tb (wKeep X.K c i ts D) D σ H) := by
  refine ⟨fun pins s σ H D I h => wpAny_Try_except ?_⟩
  have run := (hb (wKeep X.K c i ts D) (X.pn ++ pins) _ (fun u s' air => clause_keep (pos' := pos') (np := np) hs hf hex hN hi hln hc hsu I.ok air) PassesOwn.looking).run [] s σ H D (I.toTry _) h
  refine wpAny_mono run (fun f s1 hsp => ?_) fun _ _ he => he
  cases f with
  | ret u =>
    obtain ⟨v, σ1, H1, J, r, q⟩ := hsp
    exact ⟨v, σ1, H1, J.ofTry I.ok, r, q⟩
  | brk =>
    obtain ⟨σ1, H1, J, q⟩ := hsp
    exact ⟨σ1, H1, J.ofTry I.ok, q⟩
  | cont =>
    obtain ⟨σ1, H1, J, q⟩ := hsp
    exact ⟨σ1, H1, J.ofTry I.ok, q⟩
  | next =>
    obtain ⟨σ1, H1, J, q⟩ := hsp
    exact wpAny_execs_nil ⟨σ1, H1, J.ofTry I.ok, q⟩
end
end My
set_option Elab.async false
set_option linter.all false
set_option maxRecDepth 100000
set_option maxHeartbeats 4000000
namespace My
open PySem PySem.Spec PyProof.Rows L2
/-- a kept error of the class at C, its own dict at d with these fields -/
structure Kept (H : Hp) (a C d : Addr) (fs : List (Str × V)) : Prop where
  er : H a = some (ErrO a (.ref C) (some d))
  di : H d = some (.xd fs)
theorem Kept.same {H H' : Hp} {a C d : Addr} {fs : List (Str × V)} (k : Kept H a C d fs) (s : Same H H') : Kept H' a C d fs := ⟨s _ _ k.er, s _ _ k.di⟩
section
variable {X : Cx} {pins : List (Addr × Obj)} {σ : L2.St} {H : Hp} {s : Shared} {a C d : Addr} {fs : List (Str × V)}
theorem Kept.inst (k : Kept H a C d fs) (I : Inv X pins σ H s) : ∃ oe od mA, PySem.W.InstAt s.heap a oe C (some od) ∧ (∀ n, RelO (fs.lookup n) (mA n)) ∧ s.heap.Ns1 d mA ∧ (∀ n : Str, PySem.W.lookIn n od = some (mA n)) := by
  obtain ⟨⟨oe, vs, ga, hz, hd⟩, _, _⟩ := I.hok a _ k.er
  obtain ⟨mA, hns, hr⟩ := (show ObjOk X.prog X.w H s.heap d (.xd fs) from I.hok d _ k.di)
  obtain ⟨od, ho, hl⟩ := lookIn_ns hns
  exact ⟨oe, od, mA, ⟨ga, hz.1, by unfold PySem.W.notCls; rw [hd] <;> rfl, by rw [hz.2]; exact ho⟩, hr, hns, fun n => hl n⟩
end
theorem kitx_err {K : PySem.W.Frag} {a D : Addr} (Z : ExcC K D) : PySem.W.KitX K (.ref a) (.ref D) (fun h => ∃ ox od, PySem.W.InstAt h a ox D od) where
  ty := fun _ _ _ ⟨_, _, I⟩ => I.type
  it := fun _ _ X _ A Q E s k q => by
    obtain ⟨cd, hc, _⟩ := PySem.W.any_some Z.hd
    unfold PySem.W.clsIn at hc
    split at hc
    · rename_i ho
      unfold isType loadHead
      exact wpAny_bind (wpAny_loadPart (k _ _ (X _ _ ho)) (wpAny_pure q))
    · cases hc
  ne := fun h tp dd its n sl X htp => Bool.eq_false_iff.mpr fun q => by
    obtain ⟨cd, hc, _⟩ := PySem.W.any_some Z.hd
    have e : D = tp := Value.ref.inj (beq_iff_eq.mp q)
    subst e
    unfold PySem.W.clsIn at hc
    split at hc
    · rename_i ho
      cases (X _ _ ho).symm.trans htp
    · cases hc
  ca := fun X ⟨_, _, I⟩ k => PySem.W.kx_classE X I Z.hg Z.hk Z.hs (PySem.W.findObj_dataE (by obtain ⟨cd, hc, _⟩ := PySem.W.any_some Z.hd; rw [hc]; rfl) Z.ha Z.hn Z.ht) Z.hm k
section
variable {X : Cx}
/-- isinstance(e, c), e a kept error -/
def rIsK (K : PySem.W.Frag) : List V → Hp → VK → Prop := fun xs H Q => ∃ (a C d : Addr) (fs : List (Str × V)) (c : V) (cv : Value) (b : Bool), xs = [.ref a, c] ∧ Kept H a C d fs ∧ ExcC K C ∧ (∀ u, RelV c u → u = cv) ∧ PySem.W.kitOne K (.ref C) cv = some b ∧ Q (.bl b) H
theorem call_isK : CallR X (.builtin "isinstance") (rIsK X.K) := by
  intro pins s σ H xs us Q I r h
  obtain ⟨a, C, d, fs, c, cv, b, rfl, ke, Z, hcv, e, q⟩ := h
  cases r with
  | cons rx rr =>
    cases rr with
    | cons rt rr =>
      cases rr
      cases rx
      have ec := hcv _ rt
      subst ec
      obtain ⟨oe, od, _, J, _⟩ := ke.inst I
      exact PySem.W.kia_one (kitx_err Z) I.kIn ⟨oe, some od, J⟩ e (fun z => nomatch z) fun tk => ⟨.bl b, H, I.kept (t' := tk) fun _ _ z => z, rfl, q⟩
/-- e.f, e a kept error -/
def tKf (K : PySem.W.Frag) (f : Str) (te : TE) : TE := fun σ H Q => te σ H fun x H1 => ∃ (a C d : Addr) (fs : List (Str × V)) (v : V), x = .ref a ∧ Kept H1 a C d fs ∧ XfC K C ∧ PySem.W.findIn K (.ref C) f = some none ∧ fs.lookup f = some v ∧ Q v H1
theorem pe_kf {e : Expr} {te : TE} {pos : Pos} {n : Str} (he : PE X e te) (hb : attributeBase e n X.env (eval e X.env) = eval e X.env := by rfl) : PE X (.Attribute e n pos) (tKf X.K n te) := by
  refine ⟨fun pins s σ H Q I h => ?_⟩
  refine attr_of hb (thn (he.run pins s σ H _ I h) fun u s1 hh => ?_)
  obtain ⟨x, H1, I1, rx, a, C, d, fs, v, ex, ke, T, hno, l, q⟩ := hh
  subst ex
  obtain rfl : u = Value.ref a := rx
  obtain ⟨oe, od, mA, J, hr, _, hl⟩ := ke.inst I1
  obtain ⟨u, hu, ru⟩ := RelO.some_of (v := v) (o := mA n) (by rw [← l]; exact hr n)
  exact HandSPX.exc_get I1.kIn J T.ga T.gg T.exC (PySem.W.findObj_own T.hdC hno rfl (by rw [hl, hu])) (handed_of ru) ⟨v, H1, I1.tok _, ru, q⟩
end
end My
set_option Elab.async false
set_option linter.all false
set_option maxRecDepth 100000
set_option maxHeartbeats 4000000
namespace My
open PySem PySem.Spec PyProof.Rows L2
/-- what the value holds, as data -/
def DpO (K : PySem.W.Frag) (H : Hp) (v : V) (d : PyData) : Prop := (Dp K H v d ∧ d.hasDict = false) ∨ ∃ a : Addr, v = .ref a ∧ H a = some (.dK []) ∧ d = .dict []
section
variable {X : Cx} {pins : List (Addr × Obj)} {σ : L2.St} {H : Hp} {s : Shared}
theorem empty_reads {a : Addr} (I : Inv X pins σ H s) (h : H a = some (.dK [])) : Reads s.heap (.ref a) (.dict []) [a] ∧ a ≠ sysModules := by
  obtain ⟨_, ns, vs, kv, o, es, ep, ho, hx, hd, _, hp, _⟩ := (show ObjOk X.prog X.w H s.heap a (.dK []) from I.hok a _ h)
  cases kv
  have e0 : es.toList = [] := by
    cases q : es.toList with
    | nil => rfl
    | cons y r =>
      rw [q] at hp
      cases hp
  refine ⟨?_, fun z => by rw [z] at ns; exact absurd ns (by decide)⟩
  have k : ReadsAll s.heap (es.toList.map (·.key)) (([] : List (PyData × PyData)).map (·.1)) [] := by rw [e0]; exact .nil
  have v : ReadsAll s.heap (es.toList.map (·.val)) (([] : List (PyData × PyData)).map (·.2)) [] := by rw [e0]; exact .nil
  exact Reads.dict ho hx.1 hd k v
def rReprO (K : PySem.W.Frag) : List V → Hp → VK → Prop := fun xs H Q => ∃ (x : V) (d : PyData), xs = [x] ∧ DpO K H x d ∧ d.showable = true ∧ d.depth ≤ 64 ∧ d.shown.length ≤ sizeLine ∧ Q (.str d.shown) H
theorem cr_reprO (gd : X.A.guards = some []) (hu : X.A.units + 70 < cLine) : CallR X (.builtin "repr") (rReprO X.K) := by
  intro pins s σ H xs us Q I r h
  obtain ⟨x, d, rfl, dp, sh, dep, sz, q⟩ := h
  obtain ⟨u, rfl, ru⟩ := r.one
  have fin : ∀ (a : Addr) (as : List Addr), Reads s.heap (.ref a) d as → (d.hasDict = true → sysModules ∉ as) → wpAny (model X.prog X.w) X.A (call (.builtin "repr") [.ref a]) (fun v s' => ∃ z H', Inv X pins σ H' s' ∧ RelV z v ∧ Q z H') X.xe s := fun a as rd hm =>
    repr_of_reads' rd sh hm gd (by omega) (fun _ _ e => e) (fun h' u tk hk => ⟨.str _, H, I.kept hk, ⟨_, rfl⟩, q⟩) sz
  rcases dp with ⟨dp, nd⟩ | ⟨a, rfl, ha, rfl⟩
  · obtain ⟨as, rd⟩ := Dp.reads I d x u dp ru
    cases dp with
    | non =>
      cases (show u = Value.none from ru)
      exact P.repr_of_none ⟨.str _, H, I.tok _, ⟨_, rfl⟩, q⟩
    | bl b =>
      cases (show u = Value.bool b from ru)
      refine P.repr_of_bool ⟨.str _, H, I.tok _, ⟨_, rfl⟩, ?_⟩
      cases b <;> exact q
    | int i =>
      obtain ⟨t, rfl⟩ := ru
      refine P.repr_of_int (by simpa only [PyData.showable, decide_eq_true_eq] using sh) ⟨.str _, H, I.tok _, ⟨_, rfl⟩, q⟩
    | str z =>
      obtain ⟨t, rfl⟩ := ru
      refine P.repr_of_str ⟨.str _, H, I.tok _, ⟨_, rfl⟩, ?_⟩ ?_
      · simpa only [PyData.shown] using q
      · simpa only [PyData.shown] using sz
    | lst h1 h2 =>
      cases (show u = Value.ref _ from ru)
      exact fin _ as rd (PyData.noDict_hsm nd)
    | tup h1 h2 =>
      cases (show u = Value.ref _ from ru)
      exact fin _ as rd (PyData.noDict_hsm nd)
  · cases (show u = Value.ref a from ru)
    obtain ⟨rd, na⟩ := empty_reads I ha
    exact fin a [a] rd fun _ hm => na (List.mem_singleton.mp hm).symm
end
end My
set_option Elab.async false
set_option linter.all false
set_option maxRecDepth 100000
set_option maxHeartbeats 4000000
set_option Elab.async false
set_option linter.all false
set_option maxRecDepth 100000
set_option maxHeartbeats 4000000
namespace My
open PySem PySem.Spec PyProof.Rows L2
abbrev tab0 : Obj := { cls := .none, data := .fields #[] }
/-- where the maker's code object lies, its table, which is empty -/
structure Maker (K : PySem.W.Frag) (h : Heap) (c P : Addr) : Prop where
  tab : h.get? P = some tab0
  out : K.lookup P = none
  code : PySem.W.CodeHd h c P
theorem callT {P : Program} {w : World} {K : PySem.W.Frag} {mg mb : Str → Option Value} {k : Nat} {fa a c Pt : Addr} {fd : FuncData} {x : Str} {sp : Sp} {s1 : Shared} {us : List Value} {ns : List Int}
    (inK : K.In s1.heap) (gl : s1.heap.Ns mainGlobals mg) (bi : s1.heap.Ns builtinsNs mb) (bb : ∀ x : Str, x ≠ "__name__" → mb x = bootBuiltins x) (nol : s1.heap.NoLimit) (gens : s1.gens = #[]) (mk : Maker K s1.heap c Pt)
    (bmod : ∃ (bm : Addr) (ob : Obj), mg "__builtins__" = some (.ref bm) ∧ bm ≠ builtinsNs ∧ s1.heap.get? bm = some ob ∧ ob.cls = .type "module" ∧ ob.dict = some builtinsNs ∧ ob.data = .plain)
    (scr : s1.heap.get? a = some { cls := .type "list", data := .seq us.toArray }) (iv : IntsAre us ns) (few : ns.length ≤ sizeLine) (room : Room k callerA)
    (F : ∀ base : Heap, K.In base → base.Ns mainGlobals mg → LamX.TabB base mg c Pt → FnG P w K mg base CX0 k fa fd [x] sp) (bnd : ∀ (s : Shared) (u : Value), BindsTo s fd ⟨[u], []⟩ [(x, u)])
    (hsp : ∀ H : Hp, H Pt = some (.tbl #[]) → SqL K H a (ns.map V.int) → sp [.ref a] H (fun v _ => v = .bl true) fun _ _ _ => False) :
    codeAny (model P w) callerA (.call (.ref fa) ⟨[.ref a], []⟩) (fun r s' => r = .ok (.ret (.bool true)) ∧ OldK s1.heap s'.heap ∧ s'.os = s1.os ∧ AllBare s'.gens) s1 := by
  have rv := vals_ints iv
  have cnt := iv.length
  have aP : a ≠ Pt := fun z => by
    have e := mk.tab
    rw [← z, scr] at e
    have d : Data.seq us.toArray 0 = Data.fields #[] := congrArg Obj.data (Option.some.inj e)
    cases d
  have main : ∀ H : Hp, H Pt = some (.tbl #[]) → (∀ b, H b = none ∨ b = Pt ∨ (b = a ∧ ∃ ob xs, H b = some (.frz ob (.lst xs)))) → SqL K H a (ns.map V.int) → HOk P w H s1.heap → (H a ≠ none → K.lookup a = none) →
      codeAny (model P w) callerA (.call (.ref fa) ⟨[.ref a], []⟩) (fun r s' => r = .ok (.ret (.bool true)) ∧ OldK s1.heap s'.heap ∧ s'.os = s1.os ∧ AllBare s'.gens) s1 := by
    intro H hP only seq ok off
    have free : ∀ {b : Addr}, b ≠ Pt → (b = a → H b = none) → H b = none := fun {b} n1 n2 => by
      rcases only b with z | z | ⟨z, _⟩
      · exact z
      · exact absurd z n1
      · exact n2 z
    have noSeq : ∀ {b : Addr} {o : Obj}, s1.heap.get? b = some o → (∀ xs n, o.data ≠ .seq xs n) → b ≠ Pt → H b = none := fun {b o} e d n => free n fun z => by
      rw [z, scr] at e
      cases e
      exact absurd rfl (d us.toArray 0)
    have noTab : ∀ {b : Addr} {o : Obj}, s1.heap.get? b = some o → o.data ≠ .fields #[] → b ≠ Pt := fun {b o} e d z => by
      rw [z, mk.tab] at e
      cases e
      exact d rfl
    have dict : ∀ {b : Addr} {o : Obj} {es : Array DictEntry} {ep : Nat}, s1.heap.get? b = some o → o.data = .dict es ep → H b = none := fun {b o es ep} e d =>
      noSeq e (fun xs n z => by rw [d] at z; cases z) (noTab e fun z => by rw [d] at z; cases z)
    have get : ∀ {b : Addr} {o : Obj}, s1.heap.get? b = some o → H b = none → (hidT s1.heap H).get? b = some o := fun e z => hidT_get e z
    have names : ∀ {b : Addr} {m : Str → Option Value}, s1.heap.Ns b m → (hidT s1.heap H).Ns b m := fun ⟨o, es, ep, e, d, q⟩ => ⟨o, es, ep, get e (dict e d), d, q⟩
    have inB : K.In (hidT s1.heap H) := fun b o e => get (inK b o e) (free (fun z => by rw [z, mk.out] at e; cases e) fun z => by
      subst z
      refine Classical.byContradiction fun y => ?_
      rw [off y] at e
      cases e)
    have md : Mod K mg (hidT s1.heap H) := ⟨inB, names gl, ⟨mb, names bi, bb⟩, let ⟨mc, q1, q2⟩ := nol; ⟨mc, names q1, q2⟩⟩
    have env : Env0 P w K mg (hidT s1.heap H) callerA [] s1 H := ⟨rfl, md, fun b o e => of_hidT e, Nat.le_of_eq (hidT_size _ _), trivial, fun b hb => absurd (show b ∈ ([] : List Addr) from hb) (by simp), ok, .of_eq gens⟩
    have TB : LamX.TabB (hidT s1.heap H) mg c Pt := by
      obtain ⟨og, eg, pg, g1, g2, _⟩ := id gl
      have gP : mainGlobals ≠ Pt := noTab g1 fun z => by rw [g2] at z; cases z
      refine ⟨?_, ?_, gP⟩
      · obtain ⟨oc, vs, file, tf, flags, tg, inF, text, tt, e1, e2, e3, e4, rest⟩ := mk.code
        have ne : oc.data ≠ .fields #[] := fun z => by
          rw [e3] at z
          cases z
          simp at e4
        exact ⟨oc, vs, file, tf, flags, tg, inF, text, tt, get e1 (noSeq e1 (fun xs n z => by rw [e3] at z; cases z) (noTab e1 ne)), e2, e3, e4, rest⟩
      · obtain ⟨bm, ob, b1, b2, b3, b4, b5, b6⟩ := bmod
        have n1 : bm ≠ Pt := noTab b3 fun z => by rw [b6] at z; cases z
        have n2 : bm ≠ mainGlobals := fun z => by
          rw [z, g1] at b3
          cases b3
          rw [g2] at b6
          cases b6
        exact ⟨bm, ob, b1, b2, n2, n1, get b3 (noSeq b3 (fun xs n z => by rw [b6] at z; cases z) n1), b4, b5, b6⟩
    have run := (F _ inB (names gl) TB).run callerA [] s1 H ⟨[.ref a], []⟩ [.ref a] [.ref a] _ _ rfl room env (bnd s1 (.ref a)) (.cons rfl .nil) (hsp H hP seq)
    refine codeAny_mono run fun r s' h => ?_
    match r, h with
    | .error e, h => exact h.elim
    | .ok .next, h => exact h.elim
    | .ok .brk, h => exact h.elim
    | .ok .cont, h => exact h.elim
    | .ok (.ret u), ⟨v, H', os, bare, un, ok', ru, q⟩ =>
      cases (show v = V.bl true from q)
      cases (show u = Value.bool true from ru)
      obtain ⟨more, g⟩ := un.tbls Pt #[] hP
      have grown : s'.heap.get? Pt = some { cls := .none, data := .fields (#[] ++ more) } := ok' Pt _ g
      have same : ∀ b o, b ≠ Pt → s1.heap.get? b = some o → s'.heap.get? b = some o := fun b o nb e => by
        rcases only b with z | z | ⟨_, ob, xs, z⟩
        · exact un.keep b o e z (by intro y; exact absurd (show b ∈ ([] : List Addr) from y) (by simp)) (by simp)
        · exact absurd z nb
        · obtain ⟨g1, _⟩ := ok b _ z
          obtain ⟨g2, _⟩ := ok' b _ (un.frzs b ob _ z)
          rw [e] at g1
          cases g1
          exact g2
      refine ⟨rfl, ⟨fun b o e => ?_, fun b o e => ?_⟩, os, bare⟩
      · by_cases z : b = Pt
        · subst z
          cases mk.tab.symm.trans e
          exact .inr (.inl ⟨(mk.code.tab mk.tab).isCodeTable, rfl, #[], more, rfl, grown⟩)
        · exact .inl (same b o z e)
      · by_cases z : b = Pt
        · subst z
          exact ⟨_, grown⟩
        · exact ⟨o, same b o z e⟩
  cases own : K.lookup a with
  | some o =>
    have e := inK a o own
    rw [scr] at e
    cases e
    refine main (fun b => if b = Pt then some (.tbl #[]) else none) (if_pos rfl) (fun b => ?_) (.inr ⟨_, us.toArray, _, own, rfl, rfl, rfl, by rw [List.size_toArray, cnt]; exact few, by simpa using rv⟩) (fun b u z => ?_) fun z => absurd (if_neg aP) z
    · by_cases y : b = Pt
      · exact .inr (.inl y)
      · exact .inl (if_neg y)
    · by_cases y : b = Pt
      · cases (if_pos y).symm.trans z
        subst y
        exact mk.tab
      · cases (if_neg y).symm.trans z
  | none =>
    refine main (fun b => if b = Pt then some (.tbl #[]) else if b = a then some (.frz { cls := .type "list", data := .seq us.toArray } (.lst (ns.map V.int))) else none) (if_pos rfl) (fun b => ?_) (.inl (.inr ⟨_, (if_neg aP).trans (if_pos rfl)⟩)) (fun b u z => ?_) fun _ => own
    · by_cases y : b = Pt
      · exact .inr (.inl y)
      · by_cases y2 : b = a
        · exact .inr (.inr ⟨y2, _, _, (if_neg y).trans (if_pos y2)⟩)
        · exact .inl ((if_neg y).trans (if_neg y2))
    · by_cases y : b = Pt
      · cases (if_pos y).symm.trans z
        subst y
        exact mk.tab
      · by_cases y2 : b = a
        · cases ((if_neg y).trans (if_pos y2)).symm.trans z
          subst y2
          exact ⟨scr, by rw [List.length_map]; exact few, us, _, rv, scr⟩
        · cases ((if_neg y).trans (if_neg y2)).symm.trans z
/-- the def x of the top's text: its code object, its table -/
def OwnT (K : PySem.W.Frag) (mg : Str → Option Value) (h : Heap) (x : Str) : Prop := ∀ (f c P : Addr) (o : Obj) (fd : FuncData) (e : Value) (dd : Option Addr) (vs : Array Value) (sl : Array (Option Value)), mg x = some (.ref f) → K.lookup f = some o → o.data = .func fd → fd.code = .ref c →
  K.lookup c = some ⟨e, dd, .fields vs, sl⟩ → vs[11]? = some (.ref P) → h.get? P = some tab0 ∧ PySem.W.CodeHd h c P
theorem walkT {l : PySem.W.OpenLaw} {n k : Nat} {q : Program} {loose : List Str} {XP : (Str → Option Value) → Heap → Prop} {YP : World → Heap → Prop} {d : DefRec} {K : Params → PySem.W.Frag} {sp : World → Addr → Sp} {x y : Str}
    (hn : l.most = some n) (few : n ≤ sizeLine) (hdf : d.params.defaults = []) (room : Room k callerA) (hY : ∀ (w : World) (h : Heap), YP w h → (K w.params).In h) (rec : ((recsOf q).any fun e => e.name == y) = true)
    (F : ∀ (w : World) (mg : Str → Option Value) (fa : Addr) (h : Heap), (K w.params).In h → h.Ns mainGlobals mg → mg d.name = some (.ref fa) → OwnT (K w.params) mg h y →
      ∃ (fd : FuncData) (c Pt : Addr), (∀ (s : Shared) (u : Value), BindsTo s fd ⟨[u], []⟩ [(x, u)]) ∧ Maker (K w.params) h c Pt ∧ ∀ base : Heap, (K w.params).In base → base.Ns mainGlobals mg → LamX.TabB base mg c Pt → FnG l.prog w (K w.params) mg base CX0 k fa fd [x] (sp w Pt))
    (hsp : ∀ (w : World) (H : Hp) (a Pt : Addr) (ns : List Int), ns.length ≤ n → (∀ z ∈ ns, Builtin.Int.intBits z ≤ 1048576) → H Pt = some (.tbl #[]) → SqL (K w.params) H a (ns.map V.int) → sp w Pt [.ref a] H (fun v _ => v = .bl true) fun _ _ _ => False) :
    PySem.W.WalkO q loose XP YP l.row.toRowW d [] (fun f vs => PySem.call f vs) := by
  refine Att.attach_callB hn hdf fun w s0 s1 mg mb fa o pm cd doc a us ns G Y ho hd hcd hmg obj iv len bits gens => ?_
  have inK := hY w _ Y
  have own : OwnT (K w.params) mg s1.heap y := fun f c P o1 fd1 e dd vs sl k0 k1 k2 k3 k4 k5 => by
    obtain ⟨dL, hm, hq⟩ := List.any_eq_true.mp rec
    obtain ⟨a', o', fd', c', P', h1, h2, h3, h4, h5, h6⟩ := G.T.tab dL hm
    rw [beq_iff_eq.mp hq, k0] at h1
    cases h1
    rw [inK _ _ k1] at h2
    cases h2
    rw [k2] at h3
    cases h3
    rw [k3] at h4
    cases h4
    have hd := PySem.W.CodeHd.of h5 h6
    obtain ⟨⟨oc, vc, e1, _, e3, e4⟩, hP⟩ := h6
    rw [inK _ _ k4] at e1
    cases e1
    cases e3
    rw [k5] at e4
    cases e4
    exact ⟨hP, hd⟩
  obtain ⟨fd, c, Pt, bnd, mk, hF⟩ := F w mg fa _ inK G.T.g hmg own
  exact callT inK G.T.g G.T.b G.T.builtins G.T.nolimit gens mk G.T.bmain obj iv (Nat.le_trans len few) room hF bnd fun H hP seq => hsp w H a Pt ns len bits hP seq
end My
set_option Elab.async false
set_option linter.all false
set_option maxRecDepth 100000
set_option maxHeartbeats 4000000
namespace My
open PySem PySem.Spec PyProof.Rows L2
theorem kit_ref {K : PySem.W.Frag} {C D : Addr} {b : Bool} (hd : PySem.W.hasDictIn K D = true) (ty : PySem.W.typeIn K (.ref D) = some (.type "type")) (sub : PySem.W.subIn K (.ref C) (.ref D) = some b) (self : PySem.W.subIn K (.ref C) (.ref C) = some true) : PySem.W.kitOne K (.ref C) (.ref D) = some b := by
  unfold PySem.W.kitOne
  by_cases e : C = D
  · subst e
    rw [self] at sub
    rw [if_pos (beq_iff_eq.mpr rfl)]
    exact sub
  · rw [if_neg (fun q => e (Value.ref.inj (beq_iff_eq.mp q)))]
    obtain ⟨cd, hc, _⟩ := PySem.W.any_some hd
    unfold PySem.W.kitCls
    have z : ((PySem.W.clsIn K D).isSome && PySem.W.typeIn K (.ref D) == some (.type "type")) = true := by rw [hc, ty]; rfl
    simp only [z, if_true]
    exact sub
section
variable {prog : Program} {w : World} {A : Around} {E : Value → Shared → Prop} {s : Shared} {K : PySem.W.Frag} {x C f : Addr} {ox : Obj} {od : Option Obj} {b t : Value}
theorem rc_eq {Q : Value → Shared → Prop} (hu : A.units < cLine) (inK : K.In s.heap) (I : PySem.W.InstAt s.heap x ox C od) (hb : PySem.W.Looks (model prog w) s.heap (typeOf b) t) (ht : t = .ref C ∨ PySem.W.subIn K t (.ref C) = some false)
    (hs : PySem.W.findIn K (.ref C) "__eq__" = some (some (.ref f))) (hf : PySem.W.isFn K (.ref f) = true) (one : oneThing? .Eq (.ref x) b = none)
    (h : wpAny (model prog w) A (call (.ref f) [.ref x, b]) (fun v s' => ∃ c, v = .bool c ∧ Q (.bool c) s') E s) : wpAny (model prog w) A (richCompare .Eq (.ref x) b) Q E s := by
  have try1 : wpAny (model prog w) A (tryCompare (.ref x) "__eq__" b) (fun r s' => ∃ v, r = some v ∧ Q v s') E s := by
    unfold tryCompare
    refine wpAny_bind (PySem.W.ifBound_K inK I hs hf (wpAny_mono h (fun v s' z => ?_) fun _ _ e => e))
    obtain ⟨c, rfl, q⟩ := z
    exact wpAny_pure ⟨_, rfl, q⟩
  unfold richCompare
  rw [one]
  refine wpAny_holding (wpAny_bind (wpAny_cRoomFor hu ?_))
  refine wpAny_bind (I.type.here (wpAny_bind (hb.here ?_)))
  by_cases e : t = .ref C
  · subst e
    have z : (Value.ref C != Value.ref C) = false := by simp
    simp only [z, Bool.false_eq_true, if_false]
    refine wpAny_bind (wpAny_pure ?_)
    simp only [Bool.false_eq_true, if_false]
    refine wpAny_bind (wpAny_mono try1 (fun r s' z => ?_) fun _ _ e => e)
    obtain ⟨v, rfl, q⟩ := z
    exact wpAny_pure q
  · have hne : (Value.ref C != t) = true := bne_iff_ne.mpr fun z => e z.symm
    have L := PySem.W.looks_subIn (M := model prog w) inK (ht.resolve_left e)
    simp only [hne, if_true]
    refine wpAny_bind (L.here ?_)
    simp only [Bool.false_eq_true, if_false]
    refine wpAny_bind (wpAny_mono try1 (fun r s' z => ?_) fun _ _ e => e)
    obtain ⟨v, rfl, q⟩ := z
    exact wpAny_pure q
end
section
variable {X : Cx} {CX : CXT} {n : Nat} {C g : Addr} {sp : Sp} {E : XK}
/-- what the class at C has for == -/
structure EqO (K : PySem.W.Frag) (C g : Addr) : Prop where
  eq : PySem.W.findIn K (.ref C) "__eq__" = some (some (.ref g))
  fn : PySem.W.isFn K (.ref g) = true
def rEqO (K : PySem.W.Frag) (C : Addr) (sp : Sp) (E : XK) : R2 := fun x y H Q => ∃ (a dx : Addr) (fs : List (Str × V)) (t : Value), x = .ref a ∧ H a = some (.ins C dx fs) ∧ TyX K H y t ∧ (t = .ref C ∨ PySem.W.subIn K t (.ref C) = some false) ∧ sp [x, y] H (fun z H' => ∃ c, z = .bl c ∧ Q (.bl c) H') E
theorem op_eqO (R : EqO X.K C g) (F : FnR X.prog X.w X.K X.mg X.base CX n g sp) (hr : Room (n + 1) X.A) (hx : Passes CX X E) : OpR X (compareOp .Eq) (rEqO X.K C sp E) := by
  intro pins s σ H x y v u Q I rx ry h
  obtain ⟨a, dx, fs, t, rfl, ha, ty, ht, q⟩ := h
  cases (show v = Value.ref a from rx)
  obtain ⟨mA, O, _⟩ := ins_get I.hok ha
  obtain ⟨od, J, _⟩ := O.look
  obtain ⟨P, Z, hP, _⟩ := kit_of I ry ty
  show wpAny _ _ (richCompare .Eq (.ref a) u) _ _ _
  refine rc_eq (by have := hr.un; omega) I.kIn J (Z.ty (model X.prog X.w) s.heap I.kIn hP) ht R.eq R.fn (oneThing_ref _ _ _) (wpAny_mono (wpAny_call (run_fnR (us := [.ref a, u]) (vs := [.ref a, y]) F (hr.mono (Nat.le_succ _)) hx I (.cons rfl (.cons ry .nil)) q)) (fun z s' k => ?_) fun _ _ e => e)
  obtain ⟨z', H', I', rz, c, ez, qz⟩ := k
  subst ez
  cases (show z = Value.bool c from rz)
  exact ⟨c, rfl, .bl c, H', I', rfl, qz⟩
def rStrO (C : Addr) (sp : Sp) (E : XK) : List V → Hp → VK → Prop := fun xs H Q => ∃ (a dx : Addr) (fs : List (Str × V)), xs = [.ref a] ∧ H a = some (.ins C dx fs) ∧ sp [.ref a] H (fun z H' => ∃ y : Str, z = .str y ∧ Q (.str y) H') E
theorem call_strO (hs : PySem.W.findIn X.K (.ref C) "__str__" = some (some (.ref g))) (hf : PySem.W.isFn X.K (.ref g) = true) (F : FnR X.prog X.w X.K X.mg X.base CX n g sp) (hr : Room (n + 2) X.A) (hx : Passes CX X E) : CallR X (.type "str") (rStrO C sp E) := by
  intro pins s σ H xs us Q I r h
  obtain ⟨a, dx, fs, rfl, ha, q⟩ := h
  obtain ⟨u, rfl, ru⟩ := r.one
  cases (show u = Value.ref a from ru)
  obtain ⟨mA, O, _⟩ := ins_get I.hok ha
  obtain ⟨od, J, _⟩ := O.look
  refine PySem.W.kso_call (by have := hr.un; show X.A.units + 1 + 1 < cLine; omega) I.kIn J hs hf (wpAny_mono (wpAny_call (SlX.run_at (us := [.ref a]) (ws := [.ref a]) F hr.in1.in1 I.env0.in1.in1 hx I (.cons rfl .nil) q)) (fun w s' z => ?_) fun _ _ x => x)
  obtain ⟨z', H', I', rz, y, ey, qz⟩ := z
  subst ey
  obtain ⟨t, e⟩ := (show ∃ t, w = Value.str y t from rz)
  cases e
  exact ⟨.str y, H', I', ⟨_, rfl⟩, qz⟩
end
end My
set_option linter.all false
set_option linter.all false
namespace My
inductive Kd where
  | bk | ah | so | wh | la | sm
end My
set_option Elab.async false
set_option linter.all false
set_option maxRecDepth 100000
set_option maxHeartbeats 4000000
namespace My
open PySem PySem.Spec PyProof.Rows L2
def top (i : Nat) : Stmt := PySem.Challenge.pw_remadedays_k17_ties_made.main.body.getD i (.Pass ⟨0, 0, 0, 0⟩)
abbrev sWhole : Stmt := top 7
abbrev sBetw : Stmt := top 8
abbrev sName : Stmt := top 9
abbrev sPen : Stmt := top 29
abbrev sDraw : Stmt := top 30
abbrev sPick : Stmt := top 31
/-- all that was tracked but the list at p is as it was -/
def SameBut (p : Addr) (H H' : Hp) : Prop := ∀ b o, b ≠ p → H b = some o → H' b = some o
theorem Same.but {p : Addr} {H H' : Hp} (s : Same H H') : SameBut p H H' := fun b o _ e => s b o e
theorem SameBut.trans {p : Addr} {H H1 H2 : Hp} (a : SameBut p H H1) (b : SameBut p H1 H2) : SameBut p H H2 := fun c o n e => b c o n (a c o n e)
theorem same_new {H : Hp} {p : Addr} {o : HO} (h : H p = none) : Same H (upd H p o) := fun b q e => by
  rw [upd_ne (ne_of_none e h)]
  exact e
structure Txt (K : PySem.W.Frag) (mg : Str → Option Value) (C fWhole fBetw fDay fChk : Addr) : Prop where
  gWhole : mg "is_whole" = some (.ref fWhole)
  gBetw : mg "is_between" = some (.ref fBetw)
  zIsi : mg "isinstance" = none
  zInt : mg "int" = none
  zBool : mg "bool" = none
  zStr : mg "str" = none
  zMax : mg "max" = none
  zRepr : mg "repr" = none
  zLen : mg "len" = none
  zList : mg "list" = none
  zRange : mg "range" = none
  zAbs : mg "abs" = none
section
variable {P : Program} {w : World} {K : PySem.W.Frag} {mg : Str → Option Value} {base : Heap} {C fWhole fBetw fDay fChk : Addr}
def spWhole (K : PySem.W.Frag) : Sp := fun vs H Q _ => ∃ (x : V) (t : String) (b1 b2 : Bool), vs = [x] ∧ TyX K H x (.type t) ∧ kitB t "int" = some b1 ∧ kitB t "bool" = some b2 ∧ Q (.bl (b1 && !b2)) H
theorem scWhole : FnScope ["value"] ["value"] (defScope sWhole) := ⟨rfl, rfl, rfl, by decide +kernel, rfl, by decide +kernel, by decide +kernel⟩
theorem ok_whole {f : Addr} {fd : FuncData} (F : Fun K "is_whole" "is_whole" sWhole f fd) (T : Txt K mg C fWhole fBetw fDay fChk) : FnOk P w K mg base CX0 1 f fd ["value"] (spWhole K) := by
  refine F.ok scWhole (fun vs H Q E h => ?_) (fun cdv A outer s H vs Q E hr h => ?_)
  · obtain ⟨x, t, b1, b2, rfl, _⟩ := h
    rfl
  · obtain ⟨x, t, b1, b2, rfl, ty, h1, h2, k⟩ := h
    refine ⟨_, pss_one (ps_ret (pe_and (pe_callB call_isi (by rfl) T.zIsi (by decide +kernel) (pa_cons (pv 0) (pa_cons (pe_bltn (v := .ty "int") (by rfl) T.zInt (by decide +kernel) rfl) pa_nil)))
      (pe_one (pe_not (pe_callB call_isi (by rfl) T.zIsi (by decide +kernel) (pa_cons (pv 0) (pa_cons (pe_bltn (v := .ty "bool") (by rfl) T.zBool (by decide +kernel) rfl) pa_nil))))))), ?_⟩
    refine ⟨_, rfl, x, .ty "int", _, _, b1, rfl, .ty "int", ty, kit_ty h1, b1, rfl, ?_⟩
    cases b1 with
    | true => exact iteT ⟨_, rfl, x, .ty "bool", _, _, b2, rfl, .ty "bool", ty, kit_ty h2, b2, rfl, k⟩
    | false => exact iteF k
/-- value, low, high: low and high ints -/
def spBetw (K : PySem.W.Frag) : Sp := fun vs H Q _ => ∃ (x : V) (t : String) (b1 b2 : Bool) (lo hi : Int), vs = [x, .int lo, .int hi] ∧ TyX K H x (.type t) ∧ kitB t "int" = some b1 ∧ kitB t "bool" = some b2 ∧
  ((b1 && !b2) = false → Q (.bl false) H) ∧ ((b1 && !b2) = true → ∃ i, x = .int i ∧ Q (.bl (decide (lo ≤ i) && decide (i ≤ hi))) H)
theorem scBetw : FnScope ["value", "low", "high"] ["value", "low", "high"] (defScope sBetw) := ⟨rfl, rfl, rfl, by decide +kernel, rfl, by decide +kernel, by decide +kernel⟩
theorem ok_betw {f : Addr} {fd fdW : FuncData} (F : Fun K "is_between" "is_between" sBetw f fd) (T : Txt K mg C fWhole fBetw fDay fChk) (FW : Fun K "is_whole" "is_whole" sWhole fWhole fdW) (bW : Binds K fdW ["value"] []) :
    FnOk P w K mg base CX0 2 f fd ["value", "low", "high"] (spBetw K) := by
  have GW : FnOk P w K mg base CX0 1 fWhole fdW ["value"] (spWhole K) := ok_whole FW T
  refine F.ok scBetw (fun vs H Q E h => ?_) (fun cdv A outer s H vs Q E hr h => ?_)
  · obtain ⟨x, t, b1, b2, lo, hi, rfl, _⟩ := h
    rfl
  · obtain ⟨x, t, b1, b2, lo, hi, rfl, ty, h1, h2, k0, k1⟩ := h
    refine ⟨_, pss_one (ps_ret (pe_and (pe_call GW hr rfl T.gWhole FW.kp bW .nil pass0 (pa_cons (pv 0) pa_nil)) (pe_one (pe_chain op_le op_le (pv 1) (pv 0) (pv 2))))), ?_⟩
    refine ⟨_, rfl, x, t, b1, b2, rfl, ty, h1, h2, _, rfl, ?_⟩
    cases e : (b1 && !b2) with
    | false => exact iteF (k0 e)
    | true =>
      obtain ⟨i, rfl, k⟩ := k1 e
      refine iteT ⟨_, rfl, _, rfl, _, _, rfl, rfl, _, rfl, ?_⟩
      by_cases c : lo ≤ i
      · rw [decide_eq_true c] at k ⊢
        exact iteT ⟨_, rfl, _, _, rfl, rfl, k⟩
      · rw [decide_eq_false c] at k ⊢
        exact iteF k
end
structure PenAt (H : Hp) (p l : Addr) (N : Int) : Prop where
  ex : ∃ (ms : List Int) (n c : Int), H p = some (.lst [.ref l, .int n, .int c]) ∧ H l = some (.lst (ms.map V.int)) ∧ ms.length ≤ 63 ∧ 0 ≤ n ∧ n ≤ N ∧ 0 ≤ c
theorem PenAt.lst {H : Hp} {p l : Addr} {N : Int} (h : PenAt H p l N) : ∃ xs, H p = some (.lst xs) := let ⟨_, _, _, e, _⟩ := h.ex; ⟨_, e⟩
theorem PenAt.same {H H' : Hp} {p l : Addr} {N : Int} (h : PenAt H p l N) (s : Same H H') : PenAt H' p l N := by
  obtain ⟨ms, n, c, e1, e2, z⟩ := h.ex
  exact ⟨ms, n, c, s _ _ e1, s _ _ e2, z⟩
theorem PenAt.le {H : Hp} {p l : Addr} {N M : Int} (h : PenAt H p l N) (z : N ≤ M) : PenAt H p l M := by
  obtain ⟨ms, n, c, e1, e2, h1, h2, h3, h4⟩ := h.ex
  exact ⟨ms, n, c, e1, e2, h1, h2, by omega, h4⟩
theorem pen_ne {H : Hp} {p l : Addr} {ms : List Int} {n c : Int} (h1 : H p = some (.lst [.ref l, .int n, .int c])) (h2 : H l = some (.lst (ms.map V.int))) : l ≠ p := fun z => by
  subst z
  rw [h1] at h2
  have e := HO.lst.inj (Option.some.inj h2)
  cases ms with
  | nil => cases e
  | cons a r => cases e
theorem dp_ints {K : PySem.W.Frag} {H : Hp} : ∀ ns : List Int, DpAll K H (ns.map V.int) (ns.map PyData.int)
  | [] => .nil
  | a :: r => .cons (.int a) (dp_ints r)
section
variable {P : Program} {w : World} {K : PySem.W.Frag} {mg : Str → Option Value} {base : Heap} {C fWhole fBetw fDay fChk fDraw : Addr} {fdD : FuncData}
def spPen (K : PySem.W.Frag) : Sp := fun vs H Q _ => ∃ (a : Addr) (ns : List Int), vs = [.ref a] ∧ SqL K H a (ns.map V.int) ∧ ns.length ≤ 63 ∧ ∀ p l H', Same H H' → PenAt H' p l 0 → Q (.ref p) H'
theorem scPen : FnScope ["_law_script"] ["_law_script"] (defScope sPen) := ⟨rfl, rfl, rfl, by decide +kernel, rfl, by decide +kernel, by decide +kernel⟩
theorem ok_pen {f : Addr} {fd : FuncData} (F : Fun K "_law_pen" "_law_pen" sPen f fd) (T : Txt K mg C fWhole fBetw fDay fChk) : FnOk P w K mg base CX0 1 f fd ["_law_script"] (spPen K) := by
  refine F.ok scPen (fun vs H Q E h => ?_) (fun cdv A outer s H vs Q E hr h => ?_)
  · obtain ⟨a, ns, rfl, _⟩ := h
    rfl
  · obtain ⟨a, ns, rfl, ha, hl, k⟩ := h
    refine ⟨_, pss_one (ps_ret (pe_lst (pa_cons (pe_callTy call_list_of (by rfl) T.zList (by decide +kernel) (pa_cons (pe_slice sl_list (pv 0) po_none (po_some pe_int)) pa_nil)) (pa_cons pe_int (pa_cons pe_int pa_nil))))), ?_⟩
    refine ⟨_, rfl, _, rfl, a, _, rfl, ha, fun q hq => ?_⟩
    refine ⟨q, _, rfl, .inl (SqL.of upd_same), fun l hl' => ⟨(by show 3 ≤ sizeLine; decide), fun p hp => ?_⟩⟩
    refine k p l _ ((same_new hq).trans ((same_new hl').trans (same_new hp))) ?_
    obtain ⟨x, y, e⟩ : ∃ x y, cutV (ns.map V.int) none (some 63) = ((ns.drop x).take y).map V.int := ⟨HT.sIx (ns.map V.int).length 0 none, HT.sIx (ns.map V.int).length (ns.map V.int).length (some 63) - HT.sIx (ns.map V.int).length 0 none, by unfold cutV; rw [List.map_take, List.map_drop]⟩
    refine ⟨(ns.drop x).take y, 0, 0, upd_same, ?_, ?_, by omega, by omega, by omega⟩
    · rw [upd_ne (ne_of_none upd_same hp), upd_same, e]
    · rw [List.length_take, List.length_drop]; omega
/-- a draw: an int below many -/
def spDraw : Sp := fun vs H Q _ => ∃ (p l : Addr) (N many : Int), vs = [.ref p, .int many] ∧ PenAt H p l N ∧ 0 < many ∧ many.natAbs.log2 < 9000 ∧ N ≤ 100000 ∧
  ∀ r H', 0 ≤ r → r < many → SameBut p H H' → PenAt H' p l (N + 1) → Q (.int r) H'
theorem scDraw : FnScope ["_law_pen_here", "_law_many", "_law_digit", "_law_at", "_law_cell", "_law_great", "_law_mixed"] ["_law_pen_here", "_law_many"] (defScope sDraw) := ⟨rfl, rfl, rfl, by decide +kernel, rfl, by decide +kernel, by decide +kernel⟩
theorem small_pow {z : Int} (h0 : 0 ≤ z) (h : z < 18446744073709551616) : CPow z 5 ∧ CPow z 3 := by
  have e : (2 : Nat) ^ 64 = 18446744073709551616 := by decide
  have hz : z.natAbs < 2 ^ 64 := by rw [e]; omega
  exact ⟨⟨by decide, by decide, hz⟩, ⟨by decide, by decide, hz⟩⟩
theorem small_mul {i j : Int} (h0 : -18446744073709551616 < i) (h : i < 18446744073709551616) : CMul i j := by
  have e : (2 : Int) ^ 64 = 18446744073709551616 := by decide
  exact .inl ⟨by rw [e]; exact h0, by rw [e]; exact h⟩
set_option maxHeartbeats 8000000 in
theorem ok_draw {f : Addr} {fd : FuncData} (F : Fun K "_law_draw" "_law_draw" sDraw f fd) (T : Txt K mg C fWhole fBetw fDay fChk) : FnOk P w K mg base CX0 1 f fd ["_law_pen_here", "_law_many"] spDraw := by
  refine F.ok scDraw (fun vs H Q E h => ?_) (fun cdv A outer s H vs Q E hr h => ?_)
  · obtain ⟨p, l, N, many, rfl, _⟩ := h
    rfl
  · obtain ⟨p, l, N, many, rfl, pen, hm, hlog, hN, k⟩ := h
    obtain ⟨ms, n, c, h1, h2, hms, hn0, hnN, hc⟩ := pen.ex
    have nlp := pen_ne h1 h2
    have z0 : ([V.ref l, V.int n, V.int c] : List V)[0]? = some (V.ref l) := rfl
    have z1 : ([V.ref l, V.int n, V.int c] : List V)[1]? = some (V.int n) := rfl
    have z2 : ([V.ref l, V.int n, V.int c] : List V)[2]? = some (V.int c) := rfl
    refine ⟨_, pss_cons (ps_if (pt_cmpR op_gt (pe_ix ix_list (pv 0) pe_int (fun _ _ => rfl)) pe_int (nomark _))
        (pss_cons (ps_set (i := 2) scDraw.nd rfl (Or.inl rfl) (pe_op op_mod (pe_callTy call_int1 (by rfl) T.zInt (by decide +kernel) (pa_cons (pe_ix ix_list (pv 0) pe_int (fun _ _ => rfl)) pa_nil)) (pv 1)))
        (pss_cons (ps_asg (pe_op op_fdivW (pe_callTy call_int1 (by rfl) T.zInt (by decide +kernel) (pa_cons (pe_ix ix_list (pv 0) pe_int (fun _ _ => rfl)) pa_nil)) (pv 1)) (pg_sub (pv 0) pe_int set_list))
        (pss_one (ps_ret (pv 2))))) pss_nil)
      (pss_cons (ps_set (i := 3) scDraw.nd rfl (Or.inl rfl) (pe_ix ix_list (pv 0) pe_int (fun _ _ => rfl)))
      (pss_cons (ps_asg (pe_op op_add (pv 3) pe_int) (pg_sub (pv 0) pe_int set_list))
      (pss_cons (ps_set (i := 4) scDraw.nd rfl (Or.inl rfl) (pe_op op_add (pe_op op_mul pe_int (pv 3)) pe_int))
      (pss_cons (ps_if (pt_cmpR (op_neD hr.units) (pe_ix ix_list (pv 0) pe_int (fun _ _ => rfl)) (pe_lst pa_nil) (nomark _))
        (pss_one (ps_set (i := 4) scDraw.nd rfl (Or.inl rfl) (pe_ix ix_list (pe_ix ix_list (pv 0) pe_int (fun _ _ => rfl))
          (pe_op op_mod (pe_callTy call_int1 (by rfl) T.zInt (by decide +kernel) (pa_cons (pv 3) pa_nil)) (pe_callB call_len_seq (by rfl) T.zLen PySem.boot_len (pa_cons (pe_ix ix_list (pv 0) pe_int (fun _ _ => rfl)) pa_nil))) (fun _ _ => rfl)))) pss_nil)
      (pss_cons (ps_if (PW.pt (pw_and (pt_cmpR op_lt (pv 3) (pe_callB call_len_seq (by rfl) T.zLen PySem.boot_len (pa_cons (pe_ix ix_list (pv 0) pe_int (fun _ _ => rfl)) pa_nil)) (nomark _))
          (pw_and1 (pt_cmpR op_ge (pe_callB call_abs (by rfl) T.zAbs (by decide +kernel) (pa_cons (pv 4) pa_nil)) (pe_op op_pow pe_int pe_int) (nomark _)))))
        (pss_cons (ps_set (i := 5) scDraw.nd rfl (Or.inl rfl) (pe_op op_add (pe_op op_mul pe_int (pe_op op_sub (pe_callB call_abs (by rfl) T.zAbs (by decide +kernel) (pa_cons (pv 4) pa_nil)) (pe_op op_pow pe_int pe_int)))
          (pe_callTy call_int1 (by rfl) T.zInt (by decide +kernel) (pa_cons (pe_cmpR op_lt (pv 4) pe_int (nomark _)) pa_nil))))
        (pss_cons (ps_asg (pe_op op_fdivW (pe_callTy call_int1 (by rfl) T.zInt (by decide +kernel) (pa_cons (pv 5) pa_nil)) (pv 1)) (pg_sub (pv 0) pe_int set_list))
        (pss_one (ps_ret (pe_op op_mod (pe_callTy call_int1 (by rfl) T.zInt (by decide +kernel) (pa_cons (pv 5) pa_nil)) (pv 1)))))) pss_nil)
      (pss_cons (ps_set (i := 6) scDraw.nd rfl (Or.inl rfl) (pe_op op_mod (pe_callTy call_int1 (by rfl) T.zInt (by decide +kernel) (pa_cons (pe_op op_pow (pe_op op_add (pe_op op_add (pe_op op_mod (pe_callTy call_int1 (by rfl) T.zInt (by decide +kernel) (pa_cons (pv 4) pa_nil)) pe_int) (pe_op op_mul pe_int (pv 3))) pe_int) pe_int) pa_nil)) pe_int))
      (pss_cons (ps_set (i := 6) scDraw.nd rfl (Or.inl rfl) (pe_op op_mod (pe_callTy call_int1 (by rfl) T.zInt (by decide +kernel) (pa_cons (pe_op op_pow (pe_op op_add (pe_op op_add (pe_op op_mul (pv 6) (pe_op op_add (pe_op op_mul pe_int (pv 3)) pe_int))
        (pe_op op_mul (pe_op op_mul pe_int (pv 3)) (pv 3))) pe_int) pe_int) pa_nil)) pe_int))
      (pss_one (ps_ret (pe_op op_mod (pe_callTy call_int1 (by rfl) T.zInt (by decide +kernel) (pa_cons (pe_op op_fdiv (pv 6) pe_int) pa_nil)) (pv 1)))))))))))
      , ?_⟩
    refine ⟨_, rfl, p, _, _, _, rfl, rfl, SqL.of h1, atI_nat (j := 2) z2, _, _, rfl, rfl, _, rfl, ?_⟩
    by_cases hcp : 0 < c
    · rw [decide_eq_true hcp]
      refine iteT ?_
      refine ⟨_, rfl, p, _, _, _, rfl, rfl, SqL.of h1, atI_nat (j := 2) z2, .inl ⟨_, rfl, _, rfl, _, _, rfl, rfl, hm, ?_⟩⟩
      refine ⟨_, rfl, p, _, _, _, rfl, rfl, SqL.of h1, atI_nat (j := 2) z2, .inl ⟨_, rfl, _, rfl, _, _, rfl, rfl, ⟨hm, hlog⟩, ?_⟩⟩
      refine ⟨_, rfl, p, _, _, 2, rfl, rfl, h1, rfl, _, rfl, ?_⟩
      refine k _ _ (Int.emod_nonneg _ (by omega)) (Int.emod_lt_of_pos _ hm) (fun b o nb e => by rw [upd_ne nb]; exact e) ⟨ms, n, c / many, upd_same, by rw [upd_ne nlp]; exact h2, hms, hn0, by omega, Int.ediv_nonneg hc (by omega)⟩
    · rw [decide_eq_false hcp]
      refine iteF ?_
      have hc0 : c = 0 := by omega
      subst hc0
      refine ⟨_, rfl, p, _, _, _, rfl, rfl, SqL.of h1, atI_nat (j := 1) z1, ?_⟩
      refine ⟨_, rfl, _, _, rfl, rfl, _, rfl, p, _, _, 1, rfl, rfl, h1, rfl, ?_⟩
      have g1 : (upd H p (.lst ([V.ref l, V.int n, V.int 0].set 1 (V.int (n + 1))))) p = some (.lst [V.ref l, V.int (n + 1), V.int 0]) := upd_same
      have g2 : (upd H p (.lst ([V.ref l, V.int n, V.int 0].set 1 (V.int (n + 1))))) l = some (.lst (ms.map V.int)) := by rw [upd_ne nlp]; exact h2
      have sb : SameBut p H (upd H p (.lst ([V.ref l, V.int n, V.int 0].set 1 (V.int (n + 1))))) := fun b o nb e => by rw [upd_ne nb]; exact e
      generalize (upd H p (.lst ([V.ref l, V.int n, V.int 0].set 1 (V.int (n + 1))))) = H1 at g1 g2 sb ⊢
      have y0 : ([V.ref l, V.int (n + 1), V.int 0] : List V)[0]? = some (V.ref l) := rfl
      refine ⟨_, rfl, _, _, rfl, rfl, small_mul (by omega) (by omega), _, _, rfl, rfl, ?_⟩
      refine ⟨_, rfl, p, _, _, _, rfl, rfl, SqL.of g1, atI_nat (j := 0) y0, Nat.zero_le _, fun q hq => ?_⟩
      have s2 : Same H1 (upd H1 q (.lst [])) := same_new hq
      refine ⟨_, _, .lst (SqL.of (s2 _ _ g2)) (dp_ints ms), .lst (SqL.of upd_same) .nil, PySem.W.shaped_ints ms, PySem.W.shaped_ints [], _, rfl, ?_⟩
      have sb2 : SameBut p H (upd H1 q (.lst [])) := sb.trans (Same.but s2)
      have k1 := s2 _ _ g1
      have k2 := s2 _ _ g2
      generalize upd H1 q (.lst []) = H2 at sb2 k1 k2 ⊢
      have dml : ∀ i : Int, 0 ≤ i → i < ms.length → ∃ z : Int, atI (ms.map V.int) i = some (V.int z) := fun i h0 h1 => by
        refine ⟨ms[i.toNat]'(by omega), at_of (j := i.toNat) (by omega) ?_⟩
        rw [List.getElem?_map, List.getElem?_eq_getElem (by omega)]
        rfl
      refine ite2 (fun hk => ?_) (fun hk => ?_)
      have hne : 0 < ms.length := by
        cases ms with
        | nil => exact absurd hk (by decide)
        | cons a r => simp
      have i0 : 0 ≤ n % (ms.length : Int) := Int.emod_nonneg _ (by omega)
      have i1 : n % (ms.length : Int) < ms.length := Int.emod_lt_of_pos _ (by omega)
      obtain ⟨z, hz⟩ := dml _ i0 i1
      have hz' : atI (ms.map V.int) (n % ((ms.map V.int).length : Int)) = some (V.int z) := by rw [List.length_map]; exact hz
      have hp' : (0 : Int) < ((ms.map V.int).length : Int) := by rw [List.length_map]; omega
      refine ⟨_, rfl, p, _, _, _, rfl, rfl, SqL.of k1, atI_nat (j := 0) y0, _, rfl, .inl ⟨_, rfl, _, rfl, p, _, _, _, rfl, rfl, SqL.of k1, atI_nat (j := 0) y0, l, _, rfl, .inl (SqL.of k2), _, _, rfl, rfl, hp', l, _, _, _, rfl, rfl, SqL.of k2, hz', ?_⟩⟩
      clear hz hz'
      rotate_left
      dsimp only
      generalize 93227 * n + 2827 = z
      all_goals
        -- at < len(cells) and abs(cell) >= 10 ** 18
        refine ⟨_, rfl, _, rfl, p, _, _, _, rfl, rfl, SqL.of k1, atI_nat (j := 0) y0, l, _, rfl, .inl (SqL.of k2), _, _, rfl, rfl, _, rfl, ?_⟩
        refine ite2 (fun h6 => ?_) (fun h6 => ?_)
        refine ⟨_, rfl, _, rfl, _, _, rfl, rfl, ⟨by decide, by decide, by decide⟩, _, _, rfl, rfl, _, rfl, ?_⟩
        refine ite2 (fun h7 => ?_) (fun h7 => ?_)
        have h8 := of_decide_eq_true h7
        have e18 : (10 : Int) ^ (18 : Int).toNat = 1000000000000000000 := by decide
        rw [e18] at h8
        refine ⟨_, rfl, _, rfl, _, _, rfl, rfl, ⟨by decide, by decide, by decide⟩, _, _, rfl, rfl, _, _, rfl, rfl, small_mul (by decide) (by decide), _, rfl, _, _, rfl, rfl, .inr ⟨_, rfl, _, _, rfl, rfl, ?_⟩⟩
        rw [e18]
        have hg : 0 ≤ 2 * ((if z < 0 then -z else z) - 1000000000000000000) + (if decide (z < 0) = true then 1 else 0) := by
          split <;> omega
        refine ⟨_, rfl, .inl ⟨_, rfl, _, rfl, _, _, rfl, rfl, ⟨hm, hlog⟩, _, rfl, p, _, _, 2, rfl, rfl, k1, rfl, ?_⟩⟩
        refine ⟨_, rfl, .inl ⟨_, rfl, _, rfl, _, _, rfl, rfl, hm, ?_⟩⟩
        exact k _ _ (Int.emod_nonneg _ (by omega)) (Int.emod_lt_of_pos _ hm) (sb2.trans fun b o nb e => by rw [upd_ne nb]; exact e) ⟨ms, n + 1, _, upd_same, by rw [upd_ne nlp]; exact k2, hms, by omega, by omega, Int.ediv_nonneg hg (by omega)⟩
        all_goals
          have pen2 : PenAt H2 p l (N + 1) := ⟨ms, n + 1, 0, k1, k2, hms, by omega, by omega, by omega⟩
          have q1 : 0 ≤ z % 2147483549 := Int.emod_nonneg _ (by decide)
          have q2 : z % 2147483549 < 2147483549 := Int.emod_lt_of_pos _ (by decide)
          refine ⟨_, rfl, .inl ⟨_, rfl, _, _, rfl, rfl, (by show (0 : Int) < 2147483549; decide), _, rfl, _, _, rfl, rfl, small_mul (by decide) (by decide), _, _, rfl, rfl, _, _, rfl, rfl, _, _, rfl, rfl, (small_pow (by omega) (by omega)).1, .inl ⟨_, rfl, _, _, rfl, rfl, (by show (0 : Int) < 2147483629; decide), ?_⟩⟩⟩
          have q3 : 0 ≤ (z % 2147483549 + 86349 * n + 2827) ^ (5 : Int).toNat % 2147483629 := Int.emod_nonneg _ (by decide)
          have q4 : (z % 2147483549 + 86349 * n + 2827) ^ (5 : Int).toNat % 2147483629 < 2147483629 := Int.emod_lt_of_pos _ (by decide)
          dsimp only
          generalize (z % 2147483549 + 86349 * n + 2827) ^ (5 : Int).toNat % 2147483629 = m1 at q3 q4
          have b1 : m1 * (2 * n + 735) ≤ 2147483648 * (2 * 100000 + 735) := Int.mul_le_mul (by omega) (by omega) (by omega) (by omega)
          have b2 : 0 ≤ m1 * (2 * n + 735) := Int.mul_nonneg q3 (by omega)
          have b3 : 77077 * n * n ≤ 77077 * 100000 * 100000 := Int.mul_le_mul (by omega) (by omega) (by omega) (by omega)
          have b4 : 0 ≤ 77077 * n * n := Int.mul_nonneg (by omega) (by omega)
          refine ⟨_, rfl, _, rfl, _, _, rfl, rfl, small_mul (by decide) (by decide), _, _, rfl, rfl, _, _, rfl, rfl, small_mul (by omega) (by omega), _, rfl, _, _, rfl, rfl, small_mul (by decide) (by decide), _, rfl, _, _, rfl, rfl, small_mul (by omega) (by omega), _, _, rfl, rfl, _, _, rfl, rfl, _, _, rfl, rfl, (small_pow (by omega) (by omega)).2, .inl ⟨_, rfl, _, _, rfl, rfl, (by show (0 : Int) < 2147483587; decide), ?_⟩⟩
          refine ⟨_, rfl, _, _, rfl, rfl, ⟨by decide, by decide⟩, .inl ⟨_, rfl, _, rfl, _, _, rfl, rfl, hm, ?_⟩⟩
          exact k _ _ (Int.emod_nonneg _ (by omega)) (Int.emod_lt_of_pos _ hm) sb2 pen2
end
section
variable {P : Program} {w : World} {K : PySem.W.Frag} {mg : Str → Option Value} {base : Heap} {C fWhole fBetw fDay fChk fDraw fPick : Addr} {fdD fdP : FuncData}
/-- a def of the module that keeps its promise -/
structure Df (P : Program) (w : World) (K : PySem.W.Frag) (mg : Str → Option Value) (base : Heap) (x : Str) (k : Nat) (f : Addr) (fd : FuncData) (ps : List Str) (sp : Sp) : Prop where
  F : FnOk P w K mg base CX0 k f fd ps sp
  b : Binds K fd ps []
  kp : PySem.W.keepIn K (.ref f) = true
  g : mg x = some (.ref f)
theorem log_small {n : Int} (h0 : 0 ≤ n) (h : n < 2 ^ 64) : n.natAbs.log2 < 9000 := by
  have e : (2 : Int) ^ 64 = 18446744073709551616 := by decide
  have e2 : (2 : Nat) ^ 64 = 18446744073709551616 := by decide
  exact Nat.lt_trans (PySem.Flt.log2_lt_of (k := 64) (by decide) (by rw [e2]; omega)) (by decide)
/-- one of a list's items -/
def spPick : Sp := fun vs H Q _ => ∃ (p l a : Addr) (N : Int) (xs : List V), vs = [.ref p, .ref a] ∧ PenAt H p l N ∧ N ≤ 100000 ∧ H a = some (.lst xs) ∧ a ≠ p ∧ 0 < xs.length ∧ xs.length ≤ 1000 ∧
  ∀ (i : Nat) (v : V) (H' : Hp), xs[i]? = some v → SameBut p H H' → PenAt H' p l (N + 1) → Q v H'
theorem scPick : FnScope ["_law_pen_here", "_law_some"] ["_law_pen_here", "_law_some"] (defScope sPick) := ⟨rfl, rfl, rfl, by decide +kernel, rfl, by decide +kernel, by decide +kernel⟩
theorem ok_pick {f : Addr} {fd : FuncData} (F : Fun K "_law_pick" "_law_pick" sPick f fd) (T : Txt K mg C fWhole fBetw fDay fChk) (D : Df P w K mg base "_law_draw" 1 fDraw fdD ["_law_pen_here", "_law_many"] spDraw) : FnOk P w K mg base CX0 2 f fd ["_law_pen_here", "_law_some"] spPick := by
  refine F.ok scPick (fun vs H Q E h => ?_) (fun cdv A outer s H vs Q E hr h => ?_)
  · obtain ⟨p, l, a, N, xs, rfl, _⟩ := h
    rfl
  · obtain ⟨p, l, a, N, xs, rfl, pen, hN, ha, nap, h0, h1, k⟩ := h
    refine ⟨_, pss_one (ps_ret (pe_ix ix_list (pv 1) (pe_call D.F hr rfl D.g D.kp D.b .nil pass0 (pa_cons (pv 0) (pa_cons (pe_callB call_len_seq (by rfl) T.zLen PySem.boot_len (pa_cons (pv 1) pa_nil)) pa_nil))) (fun _ _ => rfl))), ?_⟩
    refine ⟨_, rfl, _, rfl, _, rfl, a, _, rfl, .inl (SqL.of ha), p, l, N, _, rfl, pen, by omega, log_small (by omega) (by omega), hN, fun r H' r0 r1 sb pen' => ?_⟩
    have hv : xs[r.toNat]? = some (xs[r.toNat]'(by omega)) := List.getElem?_eq_getElem (by omega)
    exact ⟨a, _, _, _, rfl, rfl, SqL.of (sb _ _ nap ha), at_of (j := r.toNat) (by omega) hv, k _ _ _ hv sb pen'⟩
end
end My
namespace My
open PySem PySem.Spec PyProof.Rows L2
abbrev sBNI : Stmt := inClass (top 4) 0
abbrev sBUI : Stmt := inClass (top 3) 0
abbrev sTieI : Stmt := inClass (top 17) 0
abbrev sNumI : Stmt := inClass (top 18) 0
abbrev sBkI : Stmt := inClass (top 19) 0
abbrev sAhI : Stmt := inClass (top 20) 0
abbrev sSoI : Stmt := inClass (top 21) 0
abbrev sWhI : Stmt := inClass (top 22) 0
abbrev sLaI : Stmt := inClass (top 23) 0
abbrev sSmI : Stmt := inClass (top 24) 0
theorem num_ne : ¬ (("source" : Str) = "number") := by decide +kernel
def isNum : Kd → Bool
  | .bk => true
  | .ah => true
  | _ => false
def spErI (f : Str) (C : Addr) : Sp := fun vs H Q _ => ∃ (a : Addr) (y : V), vs = [.ref a, y] ∧ H a = some (exo a C none) ∧ ∀ dx, H dx = none → dx ≠ a → Q .non (upd (upd H dx (exd dx [(f, y)])) a (exo a C (some dx)))
/-- what is known of an error's class at C -/
structure ErC (K : PySem.W.Frag) (mg : Str → Option Value) (x f : Str) (C fI : Addr) : Prop where
  oex : OexC K C
  iC : PySem.W.findIn K (.ref C) "__init__" = some (some (.ref fI))
  tI : PySem.W.typeIn K (.ref fI) = some (.type "function")
  g : mg x = some (.ref C)
  no : PySem.W.findIn K (.ref C) f = some none
  xf : XfC K C
  ec : ExcC K C
/-- the error's class, its __init__ with its promise -/
structure ErM (P : Program) (w : World) (K : PySem.W.Frag) (mg : Str → Option Value) (base : Heap) (x f : Str) (C fI : Addr) (fd : FuncData) : Prop where
  c : ErC K mg x f C fI
  F : FnOk P w K mg base CX0 1 fI fd ["self", f] (spErI f C)
  b : Binds K fd ["self", f] []
/-- what the raising of such an error asks -/
theorem er_made {f : Str} {C : Addr} {y : V} {H : Hp} {Q : XK} (k : ∀ d H', Same H H' → H' d = some (.xd [(f, y)]) → Q (.ref C) (some d) H') :
    ([y] : List V).length ≤ 1000 ∧ ∀ a, H a = none → spErI f C (.ref a :: ([y] ++ [])) (upd H a (exo a C none)) (fun v H2 => v = .non ∧ ∃ (d : Addr) (fs : List (Str × V)), H2 a = some (exo a C (some d)) ∧ H2 d = some (exd d fs) ∧ H d = none ∧ Q (.ref C) (some d) (upd (L2.del H2 a) d (.xd fs))) (fun _ _ _ => False) := by
  refine ⟨(by show 1 ≤ 1000; decide), fun a na => ⟨a, y, rfl, upd_same, fun dx nd ne => ⟨rfl, dx, [(f, y)], upd_same, ?_, ?_, ?_⟩⟩⟩
  · rw [upd_ne ne, upd_same]
  · rw [upd_ne ne] at nd
    exact nd
  · have nd' : H dx = none := by
      rw [upd_ne ne] at nd
      exact nd
    refine k dx _ (fun b o e => ?_) upd_same
    have n1 := ne_of_none e na
    have n2 := ne_of_none e nd'
    rw [upd_ne n2, L2.del_ne n1, upd_ne n1, upd_ne n2, upd_ne n1]
    exact e
/-- what can be shown -/
structure Shows (K : PySem.W.Frag) (H : Hp) (v : V) (d : PyData) : Prop where
  dp : DpO K H v d
  sh : d.showable = true
  dep : d.depth ≤ 64
  sz : d.shown.length ≤ sizeLine
theorem same_sqT {K : PySem.W.Frag} {H H' : Hp} {a : Addr} {xs : List V} (e : Same H H') (h : SqT K H a xs) : SqT K H' a xs := by
  rcases h with (h | ⟨o, h⟩) | h
  · exact .inl (.inl (e _ _ h))
  · exact .inl (.inr ⟨o, e _ _ h⟩)
  · exact .inr h
mutual
theorem dp_same {K : PySem.W.Frag} {H H' : Hp} (s : Same H H') : ∀ (d : PyData) (v : V), Dp K H v d → Dp K H' v d
  | .none, _, h => by cases h; exact .non
  | .bool _, _, h => by cases h; exact .bl _
  | .int _, _, h => by cases h; exact .int _
  | .str _, _, h => by cases h; exact .str _
  | .list ds, _, h => by
    cases h with
    | lst h1 h2 => exact .lst (s.seq h1) (dp_sameA s ds _ h2)
  | .tuple ds, _, h => by
    cases h with
    | tup h1 h2 => exact .tup (same_sqT s h1) (dp_sameA s ds _ h2)
  | .dict _, _, h => nomatch h
theorem dp_sameA {K : PySem.W.Frag} {H H' : Hp} (s : Same H H') : ∀ (ds : List PyData) (vs : List V), DpAll K H vs ds → DpAll K H' vs ds
  | [], _, h => by cases h; exact .nil
  | d :: ds, _, h => by
    cases h with
    | cons h1 h2 => exact .cons (dp_same s d _ h1) (dp_sameA s ds _ h2)
end
theorem DpO.same {K : PySem.W.Frag} {H H' : Hp} {v : V} {d : PyData} (s : Same H H') (h : DpO K H v d) : DpO K H' v d := by
  rcases h with ⟨h, n⟩ | ⟨a, e, ha, ed⟩
  · exact .inl ⟨dp_same s _ _ h, n⟩
  · exact .inr ⟨a, e, s _ _ ha, ed⟩
theorem strOk_of (s : String) : PyData.strOk (Str.ofString s) = true := by
  rw [show Str.ofString s = ⟨(s.toList.map Char.toNat).toArray⟩ from PySem.Str.ofString_eq_toList s]
  unfold PyData.strOk
  rw [List.all_toArray, List.all_eq_true]
  intro n hn
  obtain ⟨c, _, rfl⟩ := List.mem_map.mp hn
  have h := c.valid
  rw [decide_eq_true_eq]
  have e : c.toNat = c.val.toNat := rfl
  unfold UInt32.isValidChar Nat.isValidChar at h
  omega
inductive At1 : V → PyData → Prop where
  | one : At1 (.int 1) (.int 1)
  | a : At1 (.str "a") (.str "a")
inductive AV (H : Hp) : V → PyData → Prop where
  | non : AV H .non .none
  | bl (b : Bool) : AV H (.bl b) (.bool b)
  | int (i : Int) (hb : i.natAbs < 10 ^ 70) : AV H (.int i) (.int i)
  | str (z : Str) (h : (reprText z).length ≤ 100) (hl : z.length ≤ 100) (hk : PyData.strOk (reprText z) = true) : AV H (.str z) (.str z)
  | tup {a : Addr} {v : V} {d : PyData} (o : At1 v d) (h : H a = some (.tup [v])) : AV H (.ref a) (.tuple [d])
  | lst {a : Addr} {v : V} {d : PyData} (o : At1 v d) (h : H a = some (.lst [v])) : AV H (.ref a) (.list [d])
  | dct {a : Addr} (h : H a = some (.dK [])) : AV H (.ref a) (.dict [])
theorem AV.ext {H H' : Hp} {v : V} {d : PyData} (o : AV H v d) (e : LamX.ExtN H H') : AV H' v d := by
  cases o with
  | non => exact .non
  | bl b => exact .bl b
  | int i hb => exact .int i hb
  | str z h hl hk => exact .str z h hl hk
  | tup o h => exact .tup o (e _ _ h fun ps z => by cases z)
  | lst o h => exact .lst o (e _ _ h fun ps z => by cases z)
  | dct h => exact .dct (e _ _ h fun ps z => by cases z)
theorem AV.same {H H' : Hp} {v : V} {d : PyData} (o : AV H v d) (e : Same H H') : AV H' v d := o.ext (.of e)
/-- all but the object at p, an instance, is as it was -/
def Keeps (p : Addr) (H H' : Hp) : Prop := ∀ b o, H b = some o → b ≠ p → H' b = some o
theorem AV.keeps {H H' : Hp} {v : V} {d : PyData} {p C dx : Addr} {fs : List (Str × V)} (o : AV H v d) (e : Keeps p H H') (hp : H p = some (.ins C dx fs)) : AV H' v d := by
  have ne : ∀ {a : Addr} {ob : HO}, H a = some ob → (∀ fs, ob ≠ .ins C dx fs) → a ≠ p := fun ha n z => by
    subst z
    rw [hp] at ha
    exact n _ (Option.some.inj ha).symm
  cases o with
  | non => exact .non
  | bl b => exact .bl b
  | int i hb => exact .int i hb
  | str z h hl hk => exact .str z h hl hk
  | tup o h => exact .tup o (e _ _ h (ne h fun _ q => by cases q))
  | lst o h => exact .lst o (e _ _ h (ne h fun _ q => by cases q))
  | dct h => exact .dct (e _ _ h (ne h fun _ q => by cases q))
def isI : V → Bool
  | .int _ => true
  | _ => false
def isS : V → Bool
  | .str _ => true
  | _ => false
/-- what kind of thing it is -/
structure Kinds (K : PySem.W.Frag) (H : Hp) (v : V) : Prop where
  ex : ∃ (t : String) (b1 b2 : Bool), TyX K H v (.type t) ∧ kitB t "int" = some b1 ∧ kitB t "bool" = some b2 ∧ kitB t "str" = some (isS v) ∧ (b1 && !b2) = isI v
theorem AV.kinds {K : PySem.W.Frag} {H : Hp} {v : V} {d : PyData} (o : AV H v d) : Kinds K H v := by
  cases o with
  | non => exact ⟨"NoneType", false, false, .base .non, by decide +kernel, by decide +kernel, (show kitB "NoneType" "str" = some false by decide +kernel), rfl⟩
  | bl b => exact ⟨"bool", true, true, .base (.bl b), by decide +kernel, by decide +kernel, (show kitB "bool" "str" = some false by decide +kernel), rfl⟩
  | int i hb => exact ⟨"int", true, false, .base (.int i), by decide +kernel, by decide +kernel, (show kitB "int" "str" = some false by decide +kernel), rfl⟩
  | str z h hl hk => exact ⟨"str", false, false, .base (.str z), by decide +kernel, by decide +kernel, (show kitB "str" "str" = some true by decide +kernel), rfl⟩
  | tup o h => exact ⟨"tuple", false, false, .base (.tup h), by decide +kernel, by decide +kernel, (show kitB "tuple" "str" = some false by decide +kernel), rfl⟩
  | lst o h => exact ⟨"list", false, false, .base (.lst h), by decide +kernel, by decide +kernel, (show kitB "list" "str" = some false by decide +kernel), rfl⟩
  | dct h => exact ⟨"dict", false, false, .base (.dK h), by decide +kernel, by decide +kernel, (show kitB "dict" "str" = some false by decide +kernel), rfl⟩
theorem small_line {n : Nat} (h : n ≤ 1000) : n ≤ sizeLine := Nat.le_trans h (by decide)
theorem dp_at1 {K : PySem.W.Frag} {H : Hp} {v : V} {d : PyData} (o : At1 v d) : DpAll K H [v] [d] := by
  cases o with
  | one => exact .cons (.int 1) .nil
  | a => exact .cons (.str "a") .nil
theorem AV.shows {K : PySem.W.Frag} {H : Hp} {v : V} {d : PyData} (o : AV H v d) : Shows K H v d := by
  cases o with
  | non => exact ⟨.inl ⟨.non, rfl⟩, rfl, by decide, small_line (by decide)⟩
  | bl b => exact ⟨.inl ⟨.bl b, rfl⟩, rfl, by decide +revert, small_line (by cases b <;> decide)⟩
  | int i hb =>
    refine ⟨.inl ⟨.int i, rfl⟩, ?_, by simp [PyData.depth], small_line (Nat.le_trans (int_shown hb) (by decide))⟩
    have := showAll_ints [i] fun j hj => by rw [List.mem_singleton.mp hj]; exact hb
    simpa [PyData.showableAll] using this
  | str z h hl hk => exact ⟨.inl ⟨.str z, rfl⟩, rfl, by simp [PyData.depth], small_line (by simp only [PyData.shown]; omega)⟩
  | tup o h => cases o <;> exact ⟨.inl ⟨.tup (SqT.of h) (dp_at1 (by constructor)), rfl⟩, by decide +kernel, by decide +kernel, small_line (by decide +kernel)⟩
  | lst o h => cases o <;> exact ⟨.inl ⟨.lst (SqL.of h) (dp_at1 (by constructor)), rfl⟩, by decide +kernel, by decide +kernel, small_line (by decide +kernel)⟩
  | dct h => exact ⟨.inr ⟨_, rfl, h, rfl⟩, by decide +kernel, by decide +kernel, small_line (by decide +kernel)⟩
theorem AV.ok {H : Hp} {v : V} {d : PyData} (o : AV H v d) : PyData.strOk d.shown = true := by
  cases o with
  | non => decide +kernel
  | bl b => cases b <;> decide +kernel
  | int i hb => exact strOk_of (toString i)
  | str z h hl hk => simpa only [PyData.shown] using hk
  | tup o h => cases o <;> decide +kernel
  | lst o h => cases o <;> decide +kernel
  | dct h => decide +kernel
/-- whether a string is a name -/
def nameB (x : Str) : Bool := !decide (8 < (x.length : Int)) && (Txt.isascii x && (Txt.isalpha x && Txt.islower x))
def nmB : V → Bool
  | .str x => nameB x
  | _ => false
def nuB (lo : Int) : V → Bool
  | .int i => decide (lo ≤ i) && decide (i ≤ 60)
  | _ => false
def loOf : Kd → Int
  | .ah => 1
  | _ => 0
section
variable {P : Program} {w : World} {K : PySem.W.Frag} {mg : Str → Option Value} {base : Heap} {C fWhole fBetw fDay fChk fName : Addr} {G : Kd → Addr} {cT cN fTI fNI cBN fBN cBU fBU : Addr} {dBN dBU : FuncData}
theorem scBNI : FnScope ["self", "value"] ["self", "value"] (defScope sBNI) := ⟨rfl, rfl, rfl, by decide +kernel, rfl, by decide +kernel, by decide +kernel⟩
theorem ok_bni {f : Addr} {fd : FuncData} (F : Fun K "__init__" "BadName.__init__" sBNI f fd) (Z : ErC K mg "BadName" "value" cBN fBN) : FnOk P w K mg base CX0 1 f fd ["self", "value"] (spErI "value" cBN) := by
  refine F.ok scBNI (fun vs H Q E h => ?_) (fun cdv A outer s H vs Q E hr h => ?_)
  · obtain ⟨a, y, rfl, _⟩ := h
    rfl
  · obtain ⟨a, y, rfl, ha, k⟩ := h
    refine ⟨_, pss_one (ps_ost (pv 0) (pv 1)), ?_⟩
    exact ⟨_, rfl, _, rfl, a, cBN, rfl, Z.oex, Z.no, .inl ⟨ha, fun dx n ne => k dx n ne⟩⟩
theorem scBUI : FnScope ["self", "value"] ["self", "value"] (defScope sBUI) := ⟨rfl, rfl, rfl, by decide +kernel, rfl, by decide +kernel, by decide +kernel⟩
theorem ok_bui {f : Addr} {fd : FuncData} (F : Fun K "__init__" "BadNumber.__init__" sBUI f fd) (Z : ErC K mg "BadNumber" "value" cBU fBU) : FnOk P w K mg base CX0 1 f fd ["self", "value"] (spErI "value" cBU) := by
  refine F.ok scBUI (fun vs H Q E h => ?_) (fun cdv A outer s H vs Q E hr h => ?_)
  · obtain ⟨a, y, rfl, _⟩ := h
    rfl
  · obtain ⟨a, y, rfl, ha, k⟩ := h
    refine ⟨_, pss_one (ps_ost (pv 0) (pv 1)), ?_⟩
    exact ⟨_, rfl, _, rfl, a, cBU, rfl, Z.oex, Z.no, .inl ⟨ha, fun dx n ne => k dx n ne⟩⟩
def spName : Sp := fun vs H Q _ => ∃ (v : V) (d : PyData), vs = [v] ∧ AV H v d ∧ Q (.bl (nmB v)) H
theorem scName : FnScope ["value"] ["value"] (defScope sName) := ⟨rfl, rfl, rfl, by decide +kernel, rfl, by decide +kernel, by decide +kernel⟩
theorem ok_name {f : Addr} {fd : FuncData} (F : Fun K "is_name" "is_name" sName f fd) (T : Txt K mg C fWhole fBetw fDay fChk) : FnOk P w K mg base CX0 1 f fd ["value"] spName := by
  refine F.ok scName (fun vs H Q E h => ?_) (fun cdv A outer s H vs Q E hr h => ?_)
  · obtain ⟨x, d, rfl, _⟩ := h
    rfl
  · obtain ⟨v, d, rfl, o, k⟩ := h
    refine ⟨_, pss_cons (ps_if (PW.pt (pw_or (pt_not (pt_val (pe_callB call_isi (by rfl) T.zIsi (by decide +kernel) (pa_cons (pv 0) (pa_cons (pe_bltn (v := .ty "str") (by rfl) T.zStr (by decide +kernel) rfl) pa_nil)))))
        (pw_or1 (pt_cmpR op_gt (pe_callB call_len_str (by rfl) T.zLen PySem.boot_len (pa_cons (pv 0) pa_nil)) pe_int (nomark _))))) (pss_one (ps_ret pe_bl)) pss_nil)
      (pss_one (ps_ret (pe_and (pe_m0 PySem.F.slot_str_isascii PySem.F.type_str_isascii mt_isascii (pv 0)) (pe_and (pe_m0 PySem.F.slot_str_isalpha PySem.F.type_str_isalpha mt_isalpha (pv 0)) (pe_one (pe_m0 PySem.F.slot_str_islower PySem.F.type_str_islower mt_islower (pv 0))))))), ?_⟩
    obtain ⟨t, b1, b2, ty, _, _, h3, _⟩ := (o.kinds (K := K)).ex
    refine ⟨_, rfl, v, .ty "str", _, _, isS v, rfl, .ty "str", ty, kit_ty h3, isS v, rfl, ?_⟩
    cases hs : isS v with
    | false =>
      have e : nmB v = false := by
        cases v with
        | str x => cases hs
        | _ => rfl
      rw [e] at k
      exact iteT k
    | true =>
      obtain ⟨x, rfl⟩ : ∃ x, v = .str x := by
        cases v with
        | str x => exact ⟨x, rfl⟩
        | _ => cases hs
      have hl : x.length ≤ 100 := by cases o with | str z h hl hk => exact hl
      refine iteF ⟨_, rfl, x, rfl, small_line (by omega), _, _, rfl, rfl, _, rfl, ?_⟩
      have kk : Q (.bl (nameB x)) H := k
      unfold nameB at kk
      by_cases c : 8 < (x.length : Int)
      · rw [decide_eq_true c] at kk ⊢
        exact iteT kk
      · rw [decide_eq_false c] at kk ⊢
        refine iteF ⟨_, rfl, ⟨x, rfl⟩, x, rfl, rfl, trivial, _, rfl, ?_⟩
        cases e1 : Txt.isascii x with
        | false => rw [e1] at kk; exact iteF kk
        | true =>
          rw [e1] at kk
          refine iteT ⟨_, rfl, ⟨x, rfl⟩, x, rfl, rfl, trivial, _, rfl, ?_⟩
          cases e2 : Txt.isalpha x with
          | false => rw [e2] at kk; exact iteF kk
          | true =>
            rw [e2] at kk
            exact iteT ⟨_, rfl, ⟨x, rfl⟩, x, rfl, rfl, trivial, kk⟩
end
end My
namespace My
open PySem PySem.Spec PyProof.Rows L2
/-- what the top has written of ties -/
structure Ty (K : PySem.W.Frag) (mg : Str → Option Value) (G : Kd → Addr) (cT cN fTI fNI fName : Addr) : Prop where
  cl : ∀ k, Cls K (G k)
  nS : ∀ k, NoAttr K (G k) "source"
  nN : ∀ k, NoAttr K (G k) "number"
  gT : mg "Tie" = some (.ref cT)
  gN : mg "Numbered" = some (.ref cN)
  gBk : mg "Back" = some (.ref (G .bk))
  gAh : mg "Ahead" = some (.ref (G .ah))
  gSo : mg "Sofar" = some (.ref (G .so))
  gWh : mg "Whole" = some (.ref (G .wh))
  gLa : mg "Last" = some (.ref (G .la))
  gSm : mg "Same" = some (.ref (G .sm))
  gName : mg "is_name" = some (.ref fName)
  gMN : ∃ t, mg "MOST_NUMBER" = some (.int 60 t)
  rT : ClX.CRead K cT (.type "type")
  rN : ClX.CRead K cN (.type "type")
  fT : CFn K cT (.type "type") "__init__" fTI
  fN : CFn K cN (.type "type") "__init__" fNI
section
variable {P : Program} {w : World} {K : PySem.W.Frag} {mg : Str → Option Value} {base : Heap} {C fWhole fBetw fDay fChk fName : Addr} {G : Kd → Addr} {cT cN fTI fNI cBN fBN cBU fBU : Addr} {dBN dBU : FuncData}
def spTieI (K : PySem.W.Frag) (cBN : Addr) : Sp := fun vs H Q E => ∃ (p dx D : Addr) (v : V) (d : PyData), vs = [.ref p, v] ∧ AV H v d ∧ Cls K D ∧ NoAttr K D "source" ∧ H p = some (.ins D dx []) ∧
  (nmB v = true → Q .non (upd H p (.ins D dx (putF "source" v [])))) ∧ (nmB v = false → ∀ dd H', Same H H' → H' dd = some (.xd [("value", v)]) → E (.ref cBN) (some dd) H')
theorem scTieI : FnScope ["self", "source"] ["self", "source"] (defScope sTieI) := ⟨rfl, rfl, rfl, by decide +kernel, rfl, by decide +kernel, by decide +kernel⟩
theorem ok_tieI {f : Addr} {fd fdN : FuncData} (F : Fun K "__init__" "Tie.__init__" sTieI f fd) (T : Txt K mg C fWhole fBetw fDay fChk) (Y : Ty K mg G cT cN fTI fNI fName) (FN : Fun K "is_name" "is_name" sName fName fdN) (bN : Binds K fdN ["value"] [])
    (Z : ErM P w K mg base "BadName" "value" cBN fBN dBN) : FnOk P w K mg base (L2.CX P w) 3 f fd ["self", "source"] (spTieI K cBN) := by
  have GN : FnOk P w K mg base CX0 1 fName fdN ["value"] spName := ok_name FN T
  refine F.okX scTieI (fun vs H Q E h => ?_) (fun cdv A outer s H vs Q E hr h => ?_)
  · obtain ⟨p, dx, D, v, d, rfl, _⟩ := h
    rfl
  · obtain ⟨p, dx, D, v, d, rfl, o, cl, na, hp, k1, k0⟩ := h
    have hr1 : Room 1 _ := hr.mono (by decide)
    refine ⟨_, pss_cons (ps_if (pt_not (pt_val (pe_call GN hr1 rfl Y.gName FN.kp bN .nil pass0 (pa_cons (pv 1) pa_nil))))
      (pss_one (ps_raise rfl (takes_of rfl rfl rfl rfl) (pmk_oex Z.c.oex Z.c.iC Z.c.tI Z.F hr Z.b .nil pass0 rfl Z.c.g (pa_cons (pv 1) pa_nil)))) pss_nil) (pss_one (ps_fld (pv 0) (pv 1) rfl)), ?_⟩
    refine ⟨_, rfl, v, d, rfl, o, _, rfl, ?_⟩
    cases e : nmB v with
    | true => exact iteF ⟨_, rfl, _, rfl, p, D, dx, _, rfl, hp, cl, na, (by show 0 < 1000; decide), k1 e⟩
    | false => exact iteT ⟨_, rfl, er_made (k0 e)⟩
def spNumI (K : PySem.W.Frag) (cBU : Addr) : Sp := fun vs H Q E => ∃ (p dx D : Addr) (fs : List (Str × V)) (v : V) (d : PyData) (lo : Int), vs = [.ref p, v, .int lo] ∧ AV H v d ∧ Cls K D ∧ NoAttr K D "number" ∧ H p = some (.ins D dx fs) ∧ fs.length < 1000 ∧
  (nuB lo v = true → Q .non (upd H p (.ins D dx (putF "number" v fs)))) ∧ (nuB lo v = false → ∀ dd H', Same H H' → H' dd = some (.xd [("value", v)]) → E (.ref cBU) (some dd) H')
theorem scNumI : FnScope ["self", "number", "least"] ["self", "number", "least"] (defScope sNumI) := ⟨rfl, rfl, rfl, by decide +kernel, rfl, by decide +kernel, by decide +kernel⟩
theorem ok_numI {f : Addr} {fd fdW fdB : FuncData} (F : Fun K "__init__" "Numbered.__init__" sNumI f fd) (T : Txt K mg C fWhole fBetw fDay fChk) (Y : Ty K mg G cT cN fTI fNI fName) (FW : Fun K "is_whole" "is_whole" sWhole fWhole fdW) (bW : Binds K fdW ["value"] [])
    (FB : Fun K "is_between" "is_between" sBetw fBetw fdB) (bB : Binds K fdB ["value", "low", "high"] []) (Z : ErM P w K mg base "BadNumber" "value" cBU fBU dBU) : FnOk P w K mg base (L2.CX P w) 3 f fd ["self", "number", "least"] (spNumI K cBU) := by
  have GB : FnOk P w K mg base CX0 2 fBetw fdB ["value", "low", "high"] (spBetw K) := ok_betw FB T FW bW
  obtain ⟨tb, gb⟩ := Y.gMN
  refine F.okX scNumI (fun vs H Q E h => ?_) (fun cdv A outer s H vs Q E hr h => ?_)
  · obtain ⟨p, dx, D, fs, v, d, lo, rfl, _⟩ := h
    rfl
  · obtain ⟨p, dx, D, fs, v, d, lo, rfl, o, cl, na, hp, hl, k1, k0⟩ := h
    refine ⟨_, pss_cons (ps_if (pt_not (pt_val (pe_call GB hr rfl T.gBetw FB.kp bB .nil pass0 (pa_cons (pv 1) (pa_cons (pv 2) (pa_cons (pe_glob (v := .int 60) rfl gb ⟨_, rfl⟩) pa_nil))))))
      (pss_one (ps_raise rfl (takes_of rfl rfl rfl rfl) (pmk_oex Z.c.oex Z.c.iC Z.c.tI Z.F hr Z.b .nil pass0 rfl Z.c.g (pa_cons (pv 1) pa_nil)))) pss_nil) (pss_one (ps_fld (pv 0) (pv 1) rfl)), ?_⟩
    obtain ⟨t, b1, b2, ty, h1, h2, _, h3⟩ := (o.kinds (K := K)).ex
    refine ⟨_, rfl, _, rfl, v, t, b1, b2, lo, 60, rfl, ty, h1, h2, (fun q => ?_), fun q => ?_⟩
    · rw [h3] at q
      have e : nuB lo v = false := by
        cases v with
        | int i => cases q
        | _ => rfl
      exact ⟨_, rfl, iteT ⟨_, rfl, er_made (k0 e)⟩⟩
    · rw [h3] at q
      obtain ⟨i, rfl⟩ : ∃ i, v = .int i := by
        cases v with
        | int i => exact ⟨i, rfl⟩
        | _ => cases q
      refine ⟨i, rfl, _, rfl, ?_⟩
      cases e : (decide (lo ≤ i) && decide (i ≤ 60)) with
      | true => exact iteF ⟨_, rfl, _, rfl, p, D, dx, _, rfl, hp, cl, na, hl, k1 e⟩
      | false => exact iteT ⟨_, rfl, er_made (k0 e)⟩
theorem keeps_same {p : Addr} {H H' : Hp} (s : Same H H') : Keeps p H H' := fun b o e _ => s b o e
theorem keeps_upd {p : Addr} {H : Hp} {o : HO} : Keeps p H (upd H p o) := fun b ob e n => by rw [upd_ne n]; exact e
theorem Keeps.trans {p : Addr} {H H1 H2 : Hp} (a : Keeps p H H1) (b : Keeps p H1 H2) : Keeps p H H2 := fun c o e n => b c o (a c o e n) n
def spInitN (G : Kd → Addr) (cBN cBU : Addr) (k : Kd) : Sp := fun vs H Q E => ∃ (p dx : Addr) (v n : V) (d dn : PyData), vs = [.ref p, v, n] ∧ AV H v d ∧ AV H n dn ∧ H p = some (.ins (G k) dx []) ∧
  (nmB v = false → ∀ dd H', Keeps p H H' → H' dd = some (.xd [("value", v)]) → E (.ref cBN) (some dd) H') ∧
  (nmB v = true → nuB (loOf k) n = false → ∀ dd H', Keeps p H H' → H' dd = some (.xd [("value", n)]) → E (.ref cBU) (some dd) H') ∧
  (nmB v = true → nuB (loOf k) n = true → ∀ H', Keeps p H H' → H' p = some (.ins (G k) dx (putF "number" n (putF "source" v []))) → Q .non H')
def spInitP (G : Kd → Addr) (cBN : Addr) (k : Kd) : Sp := fun vs H Q E => ∃ (p dx : Addr) (v : V) (d : PyData), vs = [.ref p, v] ∧ AV H v d ∧ H p = some (.ins (G k) dx []) ∧
  (nmB v = false → ∀ dd H', Keeps p H H' → H' dd = some (.xd [("value", v)]) → E (.ref cBN) (some dd) H') ∧
  (nmB v = true → ∀ H', Keeps p H H' → H' p = some (.ins (G k) dx (putF "source" v [])) → Q .non H')
/-- what every __init__ needs -/
structure Inits (P : Program) (w : World) (K : PySem.W.Frag) (mg : Str → Option Value) (base : Heap) (cBN cBU fTI fNI : Addr) (dTI dNI : FuncData) : Prop where
  t : FnOk P w K mg base (L2.CX P w) 3 fTI dTI ["self", "source"] (spTieI K cBN)
  bt : Binds K dTI ["self", "source"] []
  n : FnOk P w K mg base (L2.CX P w) 3 fNI dNI ["self", "number", "least"] (spNumI K cBU)
  bn : Binds K dNI ["self", "number", "least"] []
variable {dTI dNI : FuncData}
theorem scBkI : FnScope ["self", "source", "number"] ["self", "source", "number"] (defScope sBkI) := ⟨rfl, rfl, rfl, by decide +kernel, rfl, by decide +kernel, by decide +kernel⟩
theorem ok_bkI {f : Addr} {fd : FuncData} (F : Fun K "__init__" "Back.__init__" sBkI f fd) (Y : Ty K mg G cT cN fTI fNI fName) (J : Inits P w K mg base cBN cBU fTI fNI dTI dNI) : FnOk P w K mg base (L2.CX P w) 4 f fd ["self", "source", "number"] (spInitN G cBN cBU .bk) := by
  refine F.okX scBkI (fun vs H Q E h => ?_) (fun cdv A outer s H vs Q E hr h => ?_)
  · obtain ⟨p, dx, v, n, d, dn, rfl, _⟩ := h
    rfl
  · obtain ⟨p, dx, v, n, d, dn, rfl, o, on, hp, kN, kU, kk⟩ := h
    refine ⟨_, pss_cons (ps_expr (pe_cfn (E := E) (pe_glob (v := .ref cT) rfl Y.gT rfl) Y.rT Y.fT (J.t.raw J.bt .nil) hr (passes_call (takes_of rfl rfl rfl rfl) fun _ _ _ _ h => h) (pa_cons (pv 0) (pa_cons (pv 1) pa_nil))))
      (pss_one (ps_expr (pe_cfn (E := E) (pe_glob (v := .ref cN) rfl Y.gN rfl) Y.rN Y.fN (J.n.raw J.bn .nil) hr (passes_call (takes_of rfl rfl rfl rfl) fun _ _ _ _ h => h) (pa_cons (pv 0) (pa_cons (pv 2) (pa_cons pe_int pa_nil)))))), ?_⟩
    refine ⟨rfl, _, rfl, _, rfl, p, dx, G .bk, v, d, rfl, o, Y.cl _, Y.nS _, hp, (fun e => ?_), fun e dd H' s h => kN e dd H' (keeps_same s) h⟩
    refine ⟨rfl, _, rfl, _, rfl, p, dx, G .bk, _, n, dn, 0, rfl, on.keeps keeps_upd hp, Y.cl _, Y.nN _, upd_same, (by show 1 < 1000; decide), (fun e2 => ?_), fun e2 dd H' s h => kU e e2 dd H' (keeps_upd.trans (keeps_same s)) h⟩
    exact kk e e2 _ (keeps_upd.trans keeps_upd) upd_same
theorem scAhI : FnScope ["self", "source", "number"] ["self", "source", "number"] (defScope sAhI) := ⟨rfl, rfl, rfl, by decide +kernel, rfl, by decide +kernel, by decide +kernel⟩
theorem ok_ahI {f : Addr} {fd : FuncData} (F : Fun K "__init__" "Ahead.__init__" sAhI f fd) (Y : Ty K mg G cT cN fTI fNI fName) (J : Inits P w K mg base cBN cBU fTI fNI dTI dNI) : FnOk P w K mg base (L2.CX P w) 4 f fd ["self", "source", "number"] (spInitN G cBN cBU .ah) := by
  refine F.okX scAhI (fun vs H Q E h => ?_) (fun cdv A outer s H vs Q E hr h => ?_)
  · obtain ⟨p, dx, v, n, d, dn, rfl, _⟩ := h
    rfl
  · obtain ⟨p, dx, v, n, d, dn, rfl, o, on, hp, kN, kU, kk⟩ := h
    refine ⟨_, pss_cons (ps_expr (pe_cfn (E := E) (pe_glob (v := .ref cT) rfl Y.gT rfl) Y.rT Y.fT (J.t.raw J.bt .nil) hr (passes_call (takes_of rfl rfl rfl rfl) fun _ _ _ _ h => h) (pa_cons (pv 0) (pa_cons (pv 1) pa_nil))))
      (pss_one (ps_expr (pe_cfn (E := E) (pe_glob (v := .ref cN) rfl Y.gN rfl) Y.rN Y.fN (J.n.raw J.bn .nil) hr (passes_call (takes_of rfl rfl rfl rfl) fun _ _ _ _ h => h) (pa_cons (pv 0) (pa_cons (pv 2) (pa_cons pe_int pa_nil)))))), ?_⟩
    refine ⟨rfl, _, rfl, _, rfl, p, dx, G .ah, v, d, rfl, o, Y.cl _, Y.nS _, hp, (fun e => ?_), fun e dd H' s h => kN e dd H' (keeps_same s) h⟩
    refine ⟨rfl, _, rfl, _, rfl, p, dx, G .ah, _, n, dn, 1, rfl, on.keeps keeps_upd hp, Y.cl _, Y.nN _, upd_same, (by show 1 < 1000; decide), (fun e2 => ?_), fun e2 dd H' s h => kU e e2 dd H' (keeps_upd.trans (keeps_same s)) h⟩
    exact kk e e2 _ (keeps_upd.trans keeps_upd) upd_same
theorem scSoI : FnScope ["self", "source"] ["self", "source"] (defScope sSoI) := ⟨rfl, rfl, rfl, by decide +kernel, rfl, by decide +kernel, by decide +kernel⟩
theorem ok_soI {f : Addr} {fd : FuncData} (F : Fun K "__init__" "Sofar.__init__" sSoI f fd) (Y : Ty K mg G cT cN fTI fNI fName) (J : Inits P w K mg base cBN cBU fTI fNI dTI dNI) : FnOk P w K mg base (L2.CX P w) 4 f fd ["self", "source"] (spInitP G cBN .so) := by
  refine F.okX scSoI (fun vs H Q E h => ?_) (fun cdv A outer s H vs Q E hr h => ?_)
  · obtain ⟨p, dx, v, d, rfl, _⟩ := h
    rfl
  · obtain ⟨p, dx, v, d, rfl, o, hp, kN, kk⟩ := h
    refine ⟨_, pss_one (ps_expr (pe_cfn (E := E) (pe_glob (v := .ref cT) rfl Y.gT rfl) Y.rT Y.fT (J.t.raw J.bt .nil) hr (passes_call (takes_of rfl rfl rfl rfl) fun _ _ _ _ h => h) (pa_cons (pv 0) (pa_cons (pv 1) pa_nil)))), ?_⟩
    exact ⟨rfl, _, rfl, _, rfl, p, dx, G .so, v, d, rfl, o, Y.cl _, Y.nS _, hp, (fun e => kk e _ keeps_upd upd_same), fun e dd H' s h => kN e dd H' (keeps_same s) h⟩
theorem scWhI : FnScope ["self", "source"] ["self", "source"] (defScope sWhI) := ⟨rfl, rfl, rfl, by decide +kernel, rfl, by decide +kernel, by decide +kernel⟩
theorem ok_whI {f : Addr} {fd : FuncData} (F : Fun K "__init__" "Whole.__init__" sWhI f fd) (Y : Ty K mg G cT cN fTI fNI fName) (J : Inits P w K mg base cBN cBU fTI fNI dTI dNI) : FnOk P w K mg base (L2.CX P w) 4 f fd ["self", "source"] (spInitP G cBN .wh) := by
  refine F.okX scWhI (fun vs H Q E h => ?_) (fun cdv A outer s H vs Q E hr h => ?_)
  · obtain ⟨p, dx, v, d, rfl, _⟩ := h
    rfl
  · obtain ⟨p, dx, v, d, rfl, o, hp, kN, kk⟩ := h
    refine ⟨_, pss_one (ps_expr (pe_cfn (E := E) (pe_glob (v := .ref cT) rfl Y.gT rfl) Y.rT Y.fT (J.t.raw J.bt .nil) hr (passes_call (takes_of rfl rfl rfl rfl) fun _ _ _ _ h => h) (pa_cons (pv 0) (pa_cons (pv 1) pa_nil)))), ?_⟩
    exact ⟨rfl, _, rfl, _, rfl, p, dx, G .wh, v, d, rfl, o, Y.cl _, Y.nS _, hp, (fun e => kk e _ keeps_upd upd_same), fun e dd H' s h => kN e dd H' (keeps_same s) h⟩
theorem scLaI : FnScope ["self", "source"] ["self", "source"] (defScope sLaI) := ⟨rfl, rfl, rfl, by decide +kernel, rfl, by decide +kernel, by decide +kernel⟩
theorem ok_laI {f : Addr} {fd : FuncData} (F : Fun K "__init__" "Last.__init__" sLaI f fd) (Y : Ty K mg G cT cN fTI fNI fName) (J : Inits P w K mg base cBN cBU fTI fNI dTI dNI) : FnOk P w K mg base (L2.CX P w) 4 f fd ["self", "source"] (spInitP G cBN .la) := by
  refine F.okX scLaI (fun vs H Q E h => ?_) (fun cdv A outer s H vs Q E hr h => ?_)
  · obtain ⟨p, dx, v, d, rfl, _⟩ := h
    rfl
  · obtain ⟨p, dx, v, d, rfl, o, hp, kN, kk⟩ := h
    refine ⟨_, pss_one (ps_expr (pe_cfn (E := E) (pe_glob (v := .ref cT) rfl Y.gT rfl) Y.rT Y.fT (J.t.raw J.bt .nil) hr (passes_call (takes_of rfl rfl rfl rfl) fun _ _ _ _ h => h) (pa_cons (pv 0) (pa_cons (pv 1) pa_nil)))), ?_⟩
    exact ⟨rfl, _, rfl, _, rfl, p, dx, G .la, v, d, rfl, o, Y.cl _, Y.nS _, hp, (fun e => kk e _ keeps_upd upd_same), fun e dd H' s h => kN e dd H' (keeps_same s) h⟩
theorem scSmI : FnScope ["self", "source"] ["self", "source"] (defScope sSmI) := ⟨rfl, rfl, rfl, by decide +kernel, rfl, by decide +kernel, by decide +kernel⟩
theorem ok_smI {f : Addr} {fd : FuncData} (F : Fun K "__init__" "Same.__init__" sSmI f fd) (Y : Ty K mg G cT cN fTI fNI fName) (J : Inits P w K mg base cBN cBU fTI fNI dTI dNI) : FnOk P w K mg base (L2.CX P w) 4 f fd ["self", "source"] (spInitP G cBN .sm) := by
  refine F.okX scSmI (fun vs H Q E h => ?_) (fun cdv A outer s H vs Q E hr h => ?_)
  · obtain ⟨p, dx, v, d, rfl, _⟩ := h
    rfl
  · obtain ⟨p, dx, v, d, rfl, o, hp, kN, kk⟩ := h
    refine ⟨_, pss_one (ps_expr (pe_cfn (E := E) (pe_glob (v := .ref cT) rfl Y.gT rfl) Y.rT Y.fT (J.t.raw J.bt .nil) hr (passes_call (takes_of rfl rfl rfl rfl) fun _ _ _ _ h => h) (pa_cons (pv 0) (pa_cons (pv 1) pa_nil)))), ?_⟩
    exact ⟨rfl, _, rfl, _, rfl, p, dx, G .sm, v, d, rfl, o, Y.cl _, Y.nS _, hp, (fun e => kk e _ keeps_upd upd_same), fun e dd H' s h => kN e dd H' (keeps_same s) h⟩
/-- an instance of the class of the kind, with its fields -/
def tflV (k : Kd) (v n : V) : List (Str × V) := if isNum k then putF "number" n (putF "source" v []) else putF "source" v []
/-- all that may come of the making of a tie -/
structure Made (G : Kd → Addr) (cBN cBU : Addr) (k : Kd) (v n : V) (H : Hp) (Q : VK) (E : XK) : Prop where
  av : ∃ d, AV H v d
  an : isNum k = true → ∃ d, AV H n d
  bn : nmB v = false → ∀ dd H', Same H H' → H' dd = some (.xd [("value", v)]) → E (.ref cBN) (some dd) H'
  bu : nmB v = true → isNum k = true → nuB (loOf k) n = false → ∀ dd H', Same H H' → H' dd = some (.xd [("value", n)]) → E (.ref cBU) (some dd) H'
  ok : nmB v = true → (isNum k = true → nuB (loOf k) n = true) → ∀ p dx H', Same H H' → H' p = some (.ins (G k) dx (tflV k v n)) → Q (.ref p) H'
theorem Made.num {k : Kd} {v n : V} {H : Hp} {Q : VK} {E : XK} (m : Made G cBN cBU k v n H Q E) (hk : isNum k = true) : ∀ p dx, H p = none → H dx = none → dx ≠ p → spInitN G cBN cBU k [.ref p, v, n] (upd (upd H dx (.own p)) p (.ins (G k) dx [])) (fun u H2 => u = .non ∧ Q (.ref p) H2) E := fun p dx np nd ne => by
  obtain ⟨d, o⟩ := m.av
  obtain ⟨dn, on⟩ := m.an hk
  have s1 : Same H (upd (upd H dx (.own p)) p (.ins (G k) dx [])) := fun b ob e => by rw [upd_ne (ne_of_none e np), upd_ne (ne_of_none e nd)]; exact e
  have sk : ∀ {H'}, Keeps p (upd (upd H dx (.own p)) p (.ins (G k) dx [])) H' → Same H H' := fun kp b ob e => kp _ _ (s1 _ _ e) (ne_of_none e np)
  refine ⟨p, dx, v, n, d, dn, rfl, o.same s1, on.same s1, upd_same, fun e dd H' kp h => m.bn e dd H' (sk kp) h, fun e e2 dd H' kp h => m.bu e hk e2 dd H' (sk kp) h, fun e e2 H' kp h => ⟨rfl, m.ok e (fun _ => e2) p dx H' (sk kp) ?_⟩⟩
  unfold tflV
  rw [if_pos hk]
  exact h
theorem Made.pl {k : Kd} {v n : V} {H : Hp} {Q : VK} {E : XK} (m : Made G cBN cBU k v n H Q E) (hk : isNum k = false) : ∀ p dx, H p = none → H dx = none → dx ≠ p → spInitP G cBN k [.ref p, v] (upd (upd H dx (.own p)) p (.ins (G k) dx [])) (fun u H2 => u = .non ∧ Q (.ref p) H2) E := fun p dx np nd ne => by
  obtain ⟨d, o⟩ := m.av
  have s1 : Same H (upd (upd H dx (.own p)) p (.ins (G k) dx [])) := fun b ob e => by rw [upd_ne (ne_of_none e np), upd_ne (ne_of_none e nd)]; exact e
  have sk : ∀ {H'}, Keeps p (upd (upd H dx (.own p)) p (.ins (G k) dx [])) H' → Same H H' := fun kp b ob e => kp _ _ (s1 _ _ e) (ne_of_none e np)
  refine ⟨p, dx, v, d, rfl, o.same s1, upd_same, fun e dd H' kp h => m.bn e dd H' (sk kp) h, fun e H' kp h => ⟨rfl, m.ok e (fun q => by rw [hk] at q; cases q) p dx H' (sk kp) ?_⟩⟩
  unfold tflV
  rw [hk]
  exact h
end
end My
namespace My
open PySem PySem.Spec PyProof.Rows L2
abbrev sTieOf : Stmt := top 32
abbrev sPlain : Stmt := top 33
abbrev sNamed : Stmt := top 37
theorem ite_ne {A B : Prop} {a b : Str} (h : ¬ a = b) (k : B) : if decide (V.str a = V.str b) = true then A else B := by
  rw [decide_eq_false (fun z => h (V.str.inj z))]
  exact iteF k
theorem ite_eq {A B : Prop} {a : Str} (k : A) : if decide (V.str a = V.str a) = true then A else B := by
  rw [decide_eq_true rfl]
  exact iteT k
def wordOf : Kd → Str
  | .bk => "back"
  | .ah => "ahead"
  | .so => "sofar"
  | .wh => "whole"
  | .la => "last"
  | .sm => "same"
def numV (k : Kd) (n : Int) : V := if isNum k then .int n else .non
/-- a number that a tie of the kind may have; 0 where it has none -/
structure NumOk (k : Kd) (n : Int) : Prop where
  lo : 0 ≤ n
  ah : k = .ah → 1 ≤ n
  hi : n ≤ 60
  no : isNum k = false → n = 0
/-- the labels -/
def six : List Str := ["a", "back", "from", "last", "zzzzzzzz", "b"]
structure NameOk (x : Str) : Prop where
  mem : x ∈ six
theorem six_all {p : Str → Bool} (h : six.all p = true) {x : Str} (m : NameOk x) : p x = true := List.all_eq_true.mp h x m.mem
theorem NameOk.nb {x : Str} (m : NameOk x) : nameB x = true := six_all (p := nameB) (by decide +kernel) m
theorem NameOk.av {x : Str} (m : NameOk x) (H : Hp) : AV H (.str x) (.str x) :=
  .str x (of_decide_eq_true (six_all (p := fun x => decide ((reprText x).length ≤ 100)) (by decide +kernel) m)) (of_decide_eq_true (six_all (p := fun x => decide (x.length ≤ 100)) (by decide +kernel) m)) (six_all (p := fun x => PyData.strOk (reprText x)) (by decide +kernel) m)
theorem NameOk.ok {x : Str} (m : NameOk x) : PyData.strOk x = true := six_all (p := PyData.strOk) (by decide +kernel) m
theorem NameOk.len {x : Str} (m : NameOk x) : x.length ≤ 8 := of_decide_eq_true (six_all (p := fun x => decide (x.length ≤ 8)) (by decide +kernel) m)
theorem NumOk.nu {k : Kd} {n : Int} (o : NumOk k n) (hk : isNum k = true) : nuB (loOf k) (numV k n) = true := by
  unfold numV
  rw [if_pos hk]
  show (decide (loOf k ≤ n) && decide (n ≤ 60)) = true
  rw [decide_eq_true o.hi, Bool.and_true, decide_eq_true_eq]
  cases k with
  | ah => exact o.ah rfl
  | _ => exact o.lo
theorem NumOk.av {k : Kd} {n : Int} (o : NumOk k n) (H : Hp) : ∃ d, AV H (numV k n) d := by
  unfold numV
  split
  · exact ⟨_, .int n (by have := o.lo; have := o.hi; have e : (10 : Nat) ^ 70 = 10000000000000000000000000000000000000000000000000000000000000000000000 := by decide
                         rw [e]; omega)⟩
  · exact ⟨_, .non⟩
section
variable {P : Program} {w : World} {K : PySem.W.Frag} {mg : Str → Option Value} {base : Heap} {C fWhole fBetw fDay fChk fName : Addr} {G : Kd → Addr} {cT cN fTI fNI cBN fBN cBU fBU : Addr} {dBN dBU : FuncData}
def gNS {α : Type} (us ws : List α) : List α := match us, ws with
  | [a], [n, s] => [a, s, n]
  | _, _ => []
def gSo {α : Type} (us ws : List α) : List α := match us, ws with
  | [a], [s] => [a, s]
  | _, _ => []
theorem rel_NS {vs zs : List V} {us ws : List Value} (r1 : Vals vs us) (r2 : Vals zs ws) : Vals (gNS vs zs) (gNS us ws) := by
  cases r1 with
  | nil => exact .nil
  | cons h1 t1 =>
    cases t1 with
    | cons _ _ => exact .nil
    | nil =>
      cases r2 with
      | nil => exact .nil
      | cons h2 t2 =>
        cases t2 with
        | nil => exact .nil
        | cons h3 t3 =>
          cases t3 with
          | nil => exact .cons h1 (.cons h3 (.cons h2 .nil))
          | cons _ _ => exact .nil
theorem rel_So {vs zs : List V} {us ws : List Value} (r1 : Vals vs us) (r2 : Vals zs ws) : Vals (gSo vs zs) (gSo us ws) := by
  cases r1 with
  | nil => exact .nil
  | cons h1 t1 =>
    cases t1 with
    | cons _ _ => exact .nil
    | nil =>
      cases r2 with
      | nil => exact .nil
      | cons h2 t2 =>
        cases t2 with
        | nil => exact .cons h1 (.cons h2 .nil)
        | cons _ _ => exact .nil
theorem kb_NS {x qual : Str} {st : Stmt} {f : Addr} {fd : FuncData} (F : Fun K x qual st f fd) (h : ∀ (kV doc pm : Value) (an : Option Addr) (cdv ct a n s : Value), bindArgs (PySem.W.fnOf x qual (defArgs st) (defBody st) (defScope st) .none kV doc pm an cdv ct) ⟨[a], [("number", n), ("source", s)]⟩ = pure [(("self" : Str), a), (("source" : Str), s), (("number" : Str), n)]) :
    KBn K fd ["self", "source", "number"] 1 ["number", "source"] gNS gNS := by
  obtain ⟨oc, od, kV, doc, pm, an, cdv, ct, osl, rfl, lk, hcd⟩ := F.ex
  refine ⟨fun s us ws _ h1 h2 => ?_, rel_NS⟩
  match us, ws, h1, h2 with
  | [a], [n, s], _, _ => exact .of_eq (h kV doc pm an cdv ct a n s)
theorem kb_So {x qual : Str} {st : Stmt} {f : Addr} {fd : FuncData} (F : Fun K x qual st f fd) (h : ∀ (kV doc pm : Value) (an : Option Addr) (cdv ct a s : Value), bindArgs (PySem.W.fnOf x qual (defArgs st) (defBody st) (defScope st) .none kV doc pm an cdv ct) ⟨[a], [("source", s)]⟩ = pure [(("self" : Str), a), (("source" : Str), s)]) :
    KBn K fd ["self", "source"] 1 ["source"] gSo gSo := by
  obtain ⟨oc, od, kV, doc, pm, an, cdv, ct, osl, rfl, lk, hcd⟩ := F.ex
  refine ⟨fun s us ws _ h1 h2 => ?_, rel_So⟩
  match us, ws, h1, h2 with
  | [a], [s], _, _ => exact .of_eq (h kV doc pm an cdv ct a s)
/-- the six classes, made -/
structure MkT (P : Program) (w : World) (K : PySem.W.Frag) (mg : Str → Option Value) (base : Heap) (G : Kd → Addr) (cBN cBU : Addr) (fI : Kd → Addr) (dI : Kd → FuncData) : Prop where
  fn : ∀ k, isNum k = true → FnOk P w K mg base (L2.CX P w) 4 (fI k) (dI k) ["self", "source", "number"] (spInitN G cBN cBU k)
  bn : ∀ k, isNum k = true → Binds K (dI k) ["self", "source", "number"] []
  kn : ∀ k, isNum k = true → KBn K (dI k) ["self", "source", "number"] 1 ["number", "source"] gNS gNS
  fp : ∀ k, isNum k = false → FnOk P w K mg base (L2.CX P w) 4 (fI k) (dI k) ["self", "source"] (spInitP G cBN k)
  bp : ∀ k, isNum k = false → Binds K (dI k) ["self", "source"] []
  kp : ∀ k, isNum k = false → KBn K (dI k) ["self", "source"] 1 ["source"] gSo gSo
  m : ∀ k, Mk K (G k) (fI k)
variable {fI : Kd → Addr} {dI : Kd → FuncData}
structure TieX (G : Kd → Addr) (H : Hp) (p : Addr) (k : Kd) (n : Int) (x : Str) : Prop where
  ob : ∃ dx, H p = some (.ins (G k) dx (tflV k (.str x) (numV k n)))
theorem TieX.ext {G : Kd → Addr} {H H' : Hp} {p : Addr} {k : Kd} {n : Int} {x : Str} (c : TieX G H p k n x) (s : LamX.ExtN H H') : TieX G H' p k n x := ⟨let ⟨dx, h⟩ := c.ob; ⟨dx, s _ _ h fun _ z => by cases z⟩⟩
theorem TieX.same {G : Kd → Addr} {H H' : Hp} {p : Addr} {k : Kd} {n : Int} {x : Str} (c : TieX G H p k n x) (s : Same H H') : TieX G H' p k n x := ⟨let ⟨dx, h⟩ := c.ob; ⟨dx, s _ _ h⟩⟩
theorem TieX.but {G : Kd → Addr} {H H' : Hp} {p q : Addr} {k : Kd} {n : Int} {x : Str} (c : TieX G H p k n x) (s : SameBut q H H') {xs : List V} (hq : H q = some (.lst xs)) : TieX G H' p k n x :=
  ⟨let ⟨dx, h⟩ := c.ob; ⟨dx, s _ _ (ne_of h hq (by intro z; cases z)) h⟩⟩
theorem made_ok {k : Kd} {H : Hp} {x : Str} {n : Int} {Q : VK} {E : XK} (nm : NameOk x) (ok : NumOk k n) (kk : ∀ p H', Same H H' → TieX G H' p k n x → Q (.ref p) H') : Made G cBN cBU k (.str x) (numV k n) H Q E :=
  ⟨⟨_, nm.av H⟩, fun _ => ok.av H, (fun e => by rw [show nmB (.str x) = nameB x from rfl, nm.nb] at e; cases e), (fun _ hk e => by rw [ok.nu hk] at e; cases e), fun _ _ p dx H' s h => kk p H' s ⟨dx, h⟩⟩
def spTieOf (G : Kd → Addr) : Sp := fun vs H Q _ => ∃ (t : Addr) (k : Kd) (n : Int) (x : Str), vs = [.ref t] ∧ H t = some (.tup [.str (wordOf k), numV k n, .str x]) ∧ NameOk x ∧ NumOk k n ∧ ∀ p H', Same H H' → TieX G H' p k n x → Q (.ref p) H'
theorem scTieOf : FnScope ["_law_plain_here", "_law_word", "_law_number_so", "_law_label"] ["_law_plain_here"] (defScope sTieOf) := ⟨rfl, rfl, rfl, by decide +kernel, rfl, by decide +kernel, by decide +kernel⟩
theorem ok_tieOf {f : Addr} {fd : FuncData} (F : Fun K "_law_tie" "_law_tie" sTieOf f fd) (Y : Ty K mg G cT cN fTI fNI fName) (M : MkT P w K mg base G cBN cBU fI dI) : FnOk P w K mg base CX0 6 f fd ["_law_plain_here"] (spTieOf G) := by
  refine F.ok scTieOf (fun vs H Q E h => ?_) (fun cdv A outer s H vs Q E hr h => ?_)
  · obtain ⟨t, k, n, x, rfl, _⟩ := h
    rfl
  · obtain ⟨t, k, n, x, rfl, ht, nm, ok, kk⟩ := h
    refine ⟨_, pss_cons (ps_asg (pv 0) (pg_tup rfl (pgs_cons (pg_name (i := 1) scTieOf.nd rfl (.inl rfl)) (pgs_cons (pg_name (i := 2) scTieOf.nd rfl (.inl rfl)) (pgs_cons (pg_name (i := 3) scTieOf.nd rfl (.inl rfl)) pgs_nil)))))
      (pss_cons (ps_if (pt_cmpR op_eq (pv 1) pe_str (nomark _)) (pss_one (ps_ret (pe_make (M.m .bk) (M.fn .bk rfl) hr rfl Y.gBk (M.bn .bk rfl) .nil passL (pa_cons (pv 3) (pa_cons (pv 2) pa_nil))))) pss_nil)
      (pss_cons (ps_if (pt_cmpR op_eq (pv 1) pe_str (nomark _)) (pss_one (ps_ret (pe_make (M.m .ah) (M.fn .ah rfl) hr rfl Y.gAh (M.bn .ah rfl) .nil passL (pa_cons (pv 3) (pa_cons (pv 2) pa_nil))))) pss_nil)
      (pss_cons (ps_if (pt_cmpR op_eq (pv 1) pe_str (nomark _)) (pss_one (ps_ret (pe_make (M.m .so) (M.fp .so rfl) hr rfl Y.gSo (M.bp .so rfl) .nil passL (pa_cons (pv 3) pa_nil)))) pss_nil)
      (pss_cons (ps_if (pt_cmpR op_eq (pv 1) pe_str (nomark _)) (pss_one (ps_ret (pe_make (M.m .wh) (M.fp .wh rfl) hr rfl Y.gWh (M.bp .wh rfl) .nil passL (pa_cons (pv 3) pa_nil)))) pss_nil)
      (pss_one (ps_ret (pe_ifExp (pt_cmpR op_eq (pv 1) pe_str (nomark _)) (pe_make (M.m .la) (M.fp .la rfl) hr rfl Y.gLa (M.bp .la rfl) .nil passL (pa_cons (pv 3) pa_nil)) (pe_make (M.m .sm) (M.fp .sm rfl) hr rfl Y.gSm (M.bp .sm rfl) .nil passL (pa_cons (pv 3) pa_nil)))))))))
      , ?_⟩
    refine ⟨_, rfl, t, _, rfl, SqT.of ht, rfl, _, _, rfl, _, _, rfl, _, _, rfl, rfl, ?_⟩
    refine ⟨_, rfl, rfl, _, rfl, ?_⟩
    have md := made_ok (cBN := cBN) (cBU := cBU) (E := E0) nm ok kk
    cases k with
    | bk => exact ite_eq ⟨_, rfl, _, rfl, md.num rfl⟩
    | ah => exact ite_ne (by decide +kernel) ⟨_, rfl, rfl, _, rfl, ite_eq ⟨_, rfl, _, rfl, md.num rfl⟩⟩
    | so => exact ite_ne (by decide +kernel) ⟨_, rfl, rfl, _, rfl, ite_ne (by decide +kernel) ⟨_, rfl, rfl, _, rfl, ite_eq ⟨_, rfl, md.pl rfl⟩⟩⟩
    | wh => exact ite_ne (by decide +kernel) ⟨_, rfl, rfl, _, rfl, ite_ne (by decide +kernel) ⟨_, rfl, rfl, _, rfl, ite_ne (by decide +kernel) ⟨_, rfl, rfl, _, rfl, ite_eq ⟨_, rfl, md.pl rfl⟩⟩⟩⟩
    | la => exact ite_ne (by decide +kernel) ⟨_, rfl, rfl, _, rfl, ite_ne (by decide +kernel) ⟨_, rfl, rfl, _, rfl, ite_ne (by decide +kernel) ⟨_, rfl, rfl, _, rfl, ite_ne (by decide +kernel) ⟨_, rfl, rfl, _, rfl, ite_eq ⟨_, rfl, md.pl rfl⟩⟩⟩⟩⟩
    | sm => exact ite_ne (by decide +kernel) ⟨_, rfl, rfl, _, rfl, ite_ne (by decide +kernel) ⟨_, rfl, rfl, _, rfl, ite_ne (by decide +kernel) ⟨_, rfl, rfl, _, rfl, ite_ne (by decide +kernel) ⟨_, rfl, rfl, _, rfl, ite_ne (by decide +kernel) ⟨_, rfl, md.pl rfl⟩⟩⟩⟩⟩
def spNamed (G : Kd → Addr) (cBN cBU : Addr) : Sp := fun vs H Q E => ∃ (k : Kd) (v n : V), vs = [.str (wordOf k), v, n] ∧ Made G cBN cBU k v n H Q E
theorem scNamed : FnScope ["_law_word", "_law_label", "_law_number_so"] ["_law_word", "_law_label", "_law_number_so"] (defScope sNamed) := ⟨rfl, rfl, rfl, by decide +kernel, rfl, by decide +kernel, by decide +kernel⟩
theorem ok_named {f : Addr} {fd : FuncData} (F : Fun K "_law_named" "_law_named" sNamed f fd) (Y : Ty K mg G cT cN fTI fNI fName) (M : MkT P w K mg base G cBN cBU fI dI) : FnOk P w K mg base (L2.CX P w) 6 f fd ["_law_word", "_law_label", "_law_number_so"] (spNamed G cBN cBU) := by
  refine F.okX scNamed (fun vs H Q E h => ?_) (fun cdv A outer s H vs Q E hr h => ?_)
  · obtain ⟨k, v, n, rfl, _⟩ := h
    rfl
  · obtain ⟨k, v, n, rfl, md⟩ := h
    refine ⟨_, (pss_cons (ps_if (pt_cmpR op_eq (pv 0) pe_str (nomark _)) (pss_one (ps_ret (pe_makeK0 (E := E) (M.m .bk) (M.fn .bk rfl) hr rfl Y.gBk (M.kn .bk rfl) (passes_call (takes_of rfl rfl rfl rfl) fun _ _ _ _ h => h) (pk_cons (pv 2) (pk_cons (pv 1) pk_nil))))) pss_nil)
      (pss_cons (ps_if (pt_cmpR op_eq (pv 0) pe_str (nomark _)) (pss_one (ps_ret (pe_makeK0 (E := E) (M.m .ah) (M.fn .ah rfl) hr rfl Y.gAh (M.kn .ah rfl) (passes_call (takes_of rfl rfl rfl rfl) fun _ _ _ _ h => h) (pk_cons (pv 2) (pk_cons (pv 1) pk_nil))))) pss_nil)
      (pss_cons (ps_if (pt_cmpR op_eq (pv 0) pe_str (nomark _)) (pss_one (ps_ret (pe_makeK0 (E := E) (M.m .so) (M.fp .so rfl) hr rfl Y.gSo (M.kp .so rfl) (passes_call (takes_of rfl rfl rfl rfl) fun _ _ _ _ h => h) (pk_cons (pv 1) pk_nil)))) pss_nil)
      (pss_cons (ps_if (pt_cmpR op_eq (pv 0) pe_str (nomark _)) (pss_one (ps_ret (pe_makeK0 (E := E) (M.m .wh) (M.fp .wh rfl) hr rfl Y.gWh (M.kp .wh rfl) (passes_call (takes_of rfl rfl rfl rfl) fun _ _ _ _ h => h) (pk_cons (pv 1) pk_nil)))) pss_nil)
      (pss_one (ps_ret (pe_ifExp (pt_cmpR op_eq (pv 0) pe_str (nomark _)) (pe_makeK0 (E := E) (M.m .la) (M.fp .la rfl) hr rfl Y.gLa (M.kp .la rfl) (passes_call (takes_of rfl rfl rfl rfl) fun _ _ _ _ h => h) (pk_cons (pv 1) pk_nil)) (pe_makeK0 (E := E) (M.m .sm) (M.fp .sm rfl) hr rfl Y.gSm (M.kp .sm rfl) (passes_call (takes_of rfl rfl rfl rfl) fun _ _ _ _ h => h) (pk_cons (pv 1) pk_nil))))))))
      ), ?_⟩
    refine ⟨_, rfl, rfl, _, rfl, ?_⟩
    cases k with
    | bk => exact ite_eq ⟨_, rfl, _, rfl, rfl, rfl, md.num rfl⟩
    | ah => exact ite_ne (by decide +kernel) ⟨_, rfl, rfl, _, rfl, ite_eq ⟨_, rfl, _, rfl, rfl, rfl, md.num rfl⟩⟩
    | so => exact ite_ne (by decide +kernel) ⟨_, rfl, rfl, _, rfl, ite_ne (by decide +kernel) ⟨_, rfl, rfl, _, rfl, ite_eq ⟨_, rfl, rfl, rfl, md.pl rfl⟩⟩⟩
    | wh => exact ite_ne (by decide +kernel) ⟨_, rfl, rfl, _, rfl, ite_ne (by decide +kernel) ⟨_, rfl, rfl, _, rfl, ite_ne (by decide +kernel) ⟨_, rfl, rfl, _, rfl, ite_eq ⟨_, rfl, rfl, rfl, md.pl rfl⟩⟩⟩⟩
    | la => exact ite_ne (by decide +kernel) ⟨_, rfl, rfl, _, rfl, ite_ne (by decide +kernel) ⟨_, rfl, rfl, _, rfl, ite_ne (by decide +kernel) ⟨_, rfl, rfl, _, rfl, ite_ne (by decide +kernel) ⟨_, rfl, rfl, _, rfl, ite_eq ⟨_, rfl, rfl, rfl, md.pl rfl⟩⟩⟩⟩⟩
    | sm => exact ite_ne (by decide +kernel) ⟨_, rfl, rfl, _, rfl, ite_ne (by decide +kernel) ⟨_, rfl, rfl, _, rfl, ite_ne (by decide +kernel) ⟨_, rfl, rfl, _, rfl, ite_ne (by decide +kernel) ⟨_, rfl, rfl, _, rfl, ite_ne (by decide +kernel) ⟨_, rfl, rfl, rfl, md.pl rfl⟩⟩⟩⟩⟩
variable {fDraw fPick : Addr} {fdD fdP : FuncData}
def spPlain : Sp := fun vs H Q _ => ∃ (p l a : Addr) (N : Int) (xs : List Str), vs = [.ref p, .ref a] ∧ PenAt H p l N ∧ N ≤ 50000 ∧ H a = some (.lst (xs.map V.str)) ∧ a ≠ p ∧ 0 < xs.length ∧ xs.length ≤ 100 ∧ (∀ x ∈ xs, NameOk x) ∧
  ∀ t k n x H', SameBut p H H' → PenAt H' p l (N + 4) → H' t = some (.tup [.str (wordOf k), numV k n, .str x]) → NameOk x → NumOk k n → Q (.ref t) H'
theorem scPlain : FnScope ["_law_pen_here", "_law_labels", "_law_word", "_law_number_so"] ["_law_pen_here", "_law_labels"] (defScope sPlain) := ⟨rfl, rfl, rfl, by decide +kernel, rfl, by decide +kernel, by decide +kernel⟩
theorem in_two (k : Kd) : inV (.str (wordOf k)) [.str "back", .str "ahead"] = isNum k := by cases k <;> decide +kernel
theorem inV_two {k : Kd} {A B : Prop} (h1 : isNum k = true → A) (h0 : isNum k = false → B) : if (if false = true then !inV (.str (wordOf k)) [.str "back", .str "ahead"] else inV (.str (wordOf k)) [.str "back", .str "ahead"]) = true then A else B := by
  rw [in_two k]
  cases e : isNum k with
  | true => exact iteT (h1 e)
  | false => exact iteF (h0 e)
set_option maxHeartbeats 8000000 in
theorem ok_plain {f : Addr} {fd : FuncData} (F : Fun K "_law_plain" "_law_plain" sPlain f fd) (T : Txt K mg C fWhole fBetw fDay fChk) (D : Df P w K mg base "_law_draw" 1 fDraw fdD ["_law_pen_here", "_law_many"] spDraw)
    (I : Df P w K mg base "_law_pick" 2 fPick fdP ["_law_pen_here", "_law_some"] spPick) : FnOk P w K mg base CX0 3 f fd ["_law_pen_here", "_law_labels"] spPlain := by
  refine F.ok scPlain (fun vs H Q E h => ?_) (fun cdv A outer s H vs Q E hr h => ?_)
  · obtain ⟨p, l, a, N, xs, rfl, _⟩ := h
    rfl
  · obtain ⟨p, l, a, N, xs, rfl, pen, hN, ha, nap, z0, z1, nms, kk⟩ := h
    have hr1 : Room 1 _ := hr.mono (by decide)
    refine ⟨_, pss_cons (ps_set (i := 2) scPlain.nd rfl (Or.inl rfl) (pe_call I.F hr rfl I.g I.kp I.b .nil pass0 (pa_cons (pv 0) (pa_cons (pe_lst (pa_cons pe_str (pa_cons pe_str (pa_cons pe_str (pa_cons pe_str (pa_cons pe_str (pa_cons pe_str (pa_cons pe_str pa_nil)))))))) pa_nil))))
      (pss_cons (ps_set (i := 3) scPlain.nd rfl (Or.inl rfl) pe_non)
      (pss_cons (ps_if (pt_cmpR op_in_seq (pv 2) (pe_tup (pa_cons pe_str (pa_cons pe_str pa_nil))) (by rfl))
        (pss_one (ps_set (i := 3) scPlain.nd rfl (Or.inl rfl) (pe_callB (call_max2 rfl) (by rfl) T.zMax (by decide +kernel) (pa_cons (pe_callTy call_int1 (by rfl) T.zInt (by decide +kernel) (pa_cons (pe_cmpR op_eq (pv 2) pe_str (nomark _)) pa_nil))
          (pa_cons (pe_call I.F hr rfl I.g I.kp I.b .nil pass0 (pa_cons (pv 0) (pa_cons (pe_lst (pa_cons pe_int (pa_cons pe_int (pa_cons pe_int (pa_cons pe_int (pa_cons pe_int (pa_cons (pe_call D.F hr1 rfl D.g D.kp D.b .nil pass0 (pa_cons (pv 0) (pa_cons pe_int pa_nil))) pa_nil))))))) pa_nil))) pa_nil))))) pss_nil)
      (pss_one (ps_ret (pe_tup (pa_cons (pv 2) (pa_cons (pv 3) (pa_cons (pe_call I.F hr rfl I.g I.kp I.b .nil pass0 (pa_cons (pv 0) (pa_cons (pv 1) pa_nil))) pa_nil)))))))), ?_⟩
    obtain ⟨px, hp⟩ := pen.lst
    refine ⟨_, rfl, by show 7 ≤ sizeLine; decide, fun q nq => ?_⟩
    have nqp : q ≠ p := Ne.symm (ne_of_none hp nq)
    have naq : a ≠ q := ne_of_none ha nq
    refine ⟨p, l, q, N, _, rfl, pen.same (same_new nq), by omega, upd_same, nqp, by show 0 < 7; decide, by show 7 ≤ 1000; decide, fun i v H1 hi sb1 pen1 => ?_⟩
    obtain ⟨k, rfl⟩ : ∃ k, v = .str (wordOf k) := by
      have hv := List.mem_of_getElem? hi
      simp only [List.mem_cons, List.not_mem_nil, or_false] at hv
      rcases hv with rfl | rfl | rfl | rfl | rfl | rfl | rfl
      · exact ⟨.bk, rfl⟩
      · exact ⟨.bk, rfl⟩
      · exact ⟨.ah, rfl⟩
      · exact ⟨.so, rfl⟩
      · exact ⟨.wh, rfl⟩
      · exact ⟨.la, rfl⟩
      · exact ⟨.sm, rfl⟩
    have sb1' : SameBut p H H1 := (Same.but (same_new nq)).trans sb1
    -- the end: the label is drawn, the tuple laid
    have fin : ∀ (n : Int) (H2 : Hp), SameBut p H H2 → PenAt H2 p l (N + 3) → NumOk k n → ∃ (p' l' a' : Addr) (N' : Int) (ys : List V), ([.ref p, .ref a] : List V) = [.ref p', .ref a'] ∧ PenAt H2 p' l' N' ∧ N' ≤ 100000 ∧ H2 a' = some (.lst ys) ∧ a' ≠ p' ∧ 0 < ys.length ∧ ys.length ≤ 1000 ∧
        ∀ (i : Nat) (v : V) (H' : Hp), ys[i]? = some v → SameBut p' H2 H' → PenAt H' p' l' (N' + 1) → 3 ≤ sizeLine ∧ ∀ t, H' t = none → Q (.ref t) (upd H' t (.tup [.str (wordOf k), numV k n, v])) := by
      intro n H2 sb2 pen2 ok
      refine ⟨p, l, a, N + 3, xs.map V.str, rfl, pen2, by omega, sb2 _ _ nap ha, nap, by rw [List.length_map]; exact z0, by rw [List.length_map]; omega, fun j v H3 hj sb3 pen3 => ⟨by decide, fun t nt => ?_⟩⟩
      rw [List.getElem?_map] at hj
      obtain ⟨x, hx, rfl⟩ := Option.map_eq_some_iff.mp hj
      exact kk t k n x _ (sb2.trans (sb3.trans (Same.but (same_new nt)))) ((pen3.same (same_new nt)).le (by omega)) upd_same (nms x (List.mem_of_getElem? hx)) ok
    refine ⟨_, rfl, by show 2 ≤ sizeLine; decide, fun T2 nT2 => ?_⟩
    have s2 := same_new (o := .tup [.str "back", .str "ahead"]) nT2
    refine ⟨T2, _, rfl, .inr (SqT.of upd_same), rfl, by rfl, _, rfl, ?_⟩
    refine inV_two (fun hk => ?_) (fun hk => ?_)
    · refine ⟨_, rfl, rfl, .inr ⟨_, rfl, ?_⟩⟩
      refine ⟨_, rfl, _, rfl, p, l, N + 1, 61, rfl, pen1.same s2, by decide, log_small (by decide) (by decide), by omega, fun r H3 r0 r1 sb3 pen3 => ⟨by show 6 ≤ sizeLine; decide, fun q3 nq3 => ?_⟩⟩
      obtain ⟨px3, hp3⟩ := pen3.lst
      refine ⟨p, l, q3, N + 2, _, rfl, (pen3.same (same_new nq3)).le (by omega), by omega, upd_same, Ne.symm (ne_of_none hp3 nq3), by show 0 < 6; decide, by show 6 ≤ 1000; decide, fun j v H4 hj sb4 pen4 => ?_⟩
      obtain ⟨m, rfl, m0, m1⟩ : ∃ m : Int, v = .int m ∧ 0 ≤ m ∧ m ≤ 60 := by
        have hv := List.mem_of_getElem? hj
        simp only [List.mem_cons, List.not_mem_nil, or_false] at hv
        rcases hv with rfl | rfl | rfl | rfl | rfl | rfl
        · exact ⟨_, rfl, by decide, by decide⟩
        · exact ⟨_, rfl, by decide, by decide⟩
        · exact ⟨_, rfl, by decide, by decide⟩
        · exact ⟨_, rfl, by decide, by decide⟩
        · exact ⟨_, rfl, by decide, by decide⟩
        · exact ⟨_, rfl, by omega, by omega⟩
      refine ⟨_, _, rfl, ?_⟩
      have sb4' : SameBut p H H4 := sb1'.trans ((Same.but s2).trans (sb3.trans ((Same.but (same_new nq3)).trans sb4)))
      have num : ∀ n : Int, NumOk k n → numV k n = .int n := fun n _ => by unfold numV; rw [if_pos hk]
      generalize hz : (if m > (if decide (V.str (wordOf k) = V.str "ahead") = true then (1 : Int) else 0) then m else (if decide (V.str (wordOf k) = V.str "ahead") = true then (1 : Int) else 0)) = z
      have ok : NumOk k z := by
        cases k with
        | bk =>
          have e : decide (V.str (wordOf .bk) = V.str "ahead") = false := decide_eq_false (fun q => absurd (V.str.inj q) (by decide +kernel))
          rw [e] at hz
          simp only [Bool.false_eq_true, if_false] at hz
          exact ⟨by split at hz <;> omega, (fun q => nomatch q), by split at hz <;> omega, (fun q => nomatch q)⟩
        | ah =>
          have e : decide (V.str (wordOf .ah) = V.str "ahead") = true := decide_eq_true rfl
          rw [e] at hz
          simp only [if_true] at hz
          exact ⟨by split at hz <;> omega, (fun _ => by split at hz <;> omega), by split at hz <;> omega, (fun q => nomatch q)⟩
        | so => cases hk
        | wh => cases hk
        | la => cases hk
        | sm => cases hk
      have h := fin z H4 sb4' (pen4.le (by omega)) ok
      rw [num z ok] at h
      exact ⟨_, rfl, _, rfl, _, rfl, _, rfl, h⟩
    · have h := fin 0 (upd H1 T2 (.tup [.str "back", .str "ahead"])) (sb1'.trans (Same.but s2)) ((pen1.same s2).le (by omega)) ⟨by decide, (fun q => by rw [q] at hk; cases hk), by decide, fun _ => rfl⟩
      have e : numV k 0 = .non := by unfold numV; rw [hk]; rfl
      rw [e] at h
      exact ⟨_, rfl, _, rfl, _, rfl, _, rfl, h⟩
end
end My
namespace My
open PySem PySem.Spec PyProof.Rows L2
abbrev sHeard : Stmt := top 34
/-- a wish about errors, told only of states with as many slots as the def has names -/
theorem takes_len {X : Cx} {W : WX} (tk : Takes X W) : Takes X (fun cls d σ H => σ.length = X.N.length → W cls d σ H) := fun u s' ⟨a, B, sI, pins, σ, H, cls, d, e, I, nb, up, sky, na, os, ag, w⟩ =>
  tk u s' ⟨a, B, sI, pins, σ, H, cls, d, e, I, nb, up, sky, na, os, ag, w I.len⟩
theorem okGc {P : Program} {w : World} {K : PySem.W.Frag} {mg : Str → Option Value} {base : Heap} {x qual : Str} {st : Stmt} {f c : Addr} {fd : FuncData} {N ps : List Str} {k : Nat} {sp : Sp} (F : Fun K x qual st f fd) (hc : fd.code = .ref c) (S : FnScope N ps (defScope st)) (len : ∀ vs H Q E, sp vs H Q E → vs.length = ps.length)
    (body : ∀ (A : Around) (outer : List Env) (s : Shared) (H : Hp) (vs : List V) (Q : VK) (E : XK), A.guards = some [] → Room k (A.deeper (envOfC qual (defScope st) s.heap.objs.size f (.ref c))) → sp vs H Q E →
      ∃ t, PSs (cxOf CX0 P w K mg base N qual (defScope st) f (.ref c) A outer s H E).nox (defBody st) t ∧ t { nx := fun _ H' => Q .non H', rt := Q } (start N vs) H) : FnG P w K mg base CX0 (k + 1) f fd ps sp := by
  obtain ⟨oc, od, kV, doc, pm, an, cdv, ct, osl, e, lk, hcd⟩ := F.ex
  have ec : cdv = .ref c := by rw [e] at hc; exact hc
  subst ec
  subst e
  refine ⟨len, fun A outer s H args us vs Q E gd room e0 bnd rv hs => ?_⟩
  have inK : K.In s.heap := e0.mod.kin.keeps fun b o e => (e0.bs b o e).1
  have nol : s.heap.NoLimit := e0.mod.nolimit.keeps fun b o e => (e0.bs b o e).1
  refine codeAny_call_function room.depth (inK _ _ lk) rfl S.co S.gen rfl (PySem.W.codeRec_of inK hcd) (bnd _ _ _ _ (wpAny_newFunctionEnv_cells S.kind (fun y hy => ?_) fun env he s1 x => ?_))
  · exact (S.par y.1 (List.of_mem_zip hy).1).elim .inl fun q => .inr ⟨q, PySem.W.cellsFrom_some _ _ _ (.inl q)⟩
  subst he
  refine ⟨nol.keeps x.toInCall.keep, codeAny_func ?_⟩
  obtain ⟨t, ht, hq⟩ := body A outer s H vs Q E gd (room.deeper _) hs
  refine wpAny_mono (ht.nox.run [] s1 (start N vs) H _ (inv_start S room.hd e0 (len _ _ _ _ hs) rv x) hq) (fun fl s' z => ?_) fun e s' z => z
  match fl, z with
  | .ret u, ⟨v, σ', H', J, ru, q⟩ => exact ⟨v, H', J.os, J.bare, J.base, J.hok, ru, q⟩
  | .next, ⟨σ', H', J, q⟩ => exact ⟨V.non, H', J.os, J.bare, J.base, J.hok, rfl, q⟩
  | .brk, ⟨_, _, _, q⟩ => exact q.elim
  | .cont, ⟨_, _, _, q⟩ => exact q.elim
section
variable {P : Program} {w : World} {K : PySem.W.Frag} {mg : Str → Option Value} {base : Heap} {cBN fBN cBU fBU cDE g c Pt : Addr} {fdH : FuncData}
/-- the class that was raised, and its word -/
def NmOf (cBN cBU : Addr) (cls : Value) (nm : Str) : Prop := (cls = .ref cBN ∧ nm = "name") ∨ (cls = .ref cBU ∧ nm = "number")
/-- heard: what it returns, or what was raised -/
def TTtie (K : PySem.W.Frag) (cBN cBU : Addr) : (XK → Hp → VK → Prop) → Hp → VK → Prop := fun tl H Q => ∀ (H1 : Hp) (Q1 : VK), Same H H1 → (∀ v H2, (∀ t H3, Same H2 H3 → H3 t = some (.lst [v]) → Q (.ref t) H3) → Q1 v H2) →
  tl (fun cls d H' => ∃ (dd : Addr) (v : V) (pd : PyData) (nm : Str), NmOf cBN cBU cls nm ∧ d = some dd ∧ H' dd = some (.xd [("value", v)]) ∧ Shows K H' v pd ∧ ∀ t H'', Same H' H'' → H'' t = some (.tup [.str nm, .str pd.shown]) → Q (.ref t) H'') H1 Q1
structure HeardT (K : PySem.W.Frag) (mg : Str → Option Value) (cBN cBU cDE fBN fBU : Addr) : Prop where
  en : ErC K mg "BadName" "value" cBN fBN
  eu : ErC K mg "BadNumber" "value" cBU fBU
  gDE : mg "DayError" = some (.ref cDE)
  xn : PySem.W.exmOne K (.ref cBN) (.ref cDE) = some true
  xu : PySem.W.exmOne K (.ref cBU) (.ref cDE) = some true
  knn : PySem.W.kitOne K (.ref cBN) (.ref cBN) = some true
  kun : PySem.W.kitOne K (.ref cBU) (.ref cBN) = some false
  kuu : PySem.W.kitOne K (.ref cBU) (.ref cBU) = some true
  zIsi : mg "isinstance" = none
  zRepr : mg "repr" = none
theorem scHeard : FnScope ["_law_ask", "_law_caught", "_law_found", "error"] ["_law_ask"] (defScope sHeard) := ⟨rfl, rfl, rfl, by decide +kernel, rfl, by decide +kernel, by decide +kernel⟩
theorem heard_gives {X : Cx} {g : Addr} {cdg : Value} {q : Str} (T : HeardT X.K X.mg cBN cBU cDE fBN fBU) (gd : X.A.guards = some []) (hu : ∀ e : Env, (X.A.deeper e).units + 70 < cLine) :
    LamX.GivesTo X ["_law_ask", "_law_caught", "_law_found", "error"] "_law_heard" (defScope sHeard) g cdg (defBody sHeard) "_law_ask" q (TTtie X.K cBN cBU) := by
  intro f c' s H Q tl act hc h
  refine ⟨_, pss_cons (ps_asg (pe_tup (pa_cons pe_non (pa_cons pe_non pa_nil))) (pg_tup rfl (pgs_cons (pg_name (i := 1) scHeard.nd rfl (.inl rfl)) (pgs_cons (pg_name (i := 2) scHeard.nd rfl (.inl rfl)) pgs_nil))))
    (pss_cons (ps_try_keep (X := (cxOf C8.CX0 X.prog X.w X.K X.mg X.base ["_law_ask", "_law_caught", "_law_found", "error"] "_law_heard" (defScope sHeard) g cdg X.A X.stack s H C8.E0).nox) (c := .ref cDE) (i := 3)
        (tb := fun W D σ H => ∃ Ech : XK, (∀ cls d σ' H', Ech cls d H' → σ'.length = 4 → W cls d σ' H') ∧ σ[0]? = some (some (.ref f)) ∧ H c' = some (LamX.CodeO c' q) ∧ tl Ech H (fun v H1 => D.nx (σ.set 2 (some v)) H1))
        rfl rfl rfl scHeard.nd rfl rfl ⟨rfl, by decide, .inl T.gDE⟩ (fun W pn xe tk _ => ?_) (fun a oe cls d pn _ _ => pss_one (ps_set (i := 1) scHeard.nd rfl (Or.inl rfl) (pv 3))))
    (pss_cons (ps_if (pt_cmp (pc_isN (pv 1))) (pss_one (ps_ret (pe_lst (pa_cons (pv 2) pa_nil)))) pss_nil)
    (pss_cons (ps_if (pt_val (pe_callB call_isK (by rfl) T.zIsi (by decide +kernel) (pa_cons (pv 1) (pa_cons (pe_glob (v := .ref cBN) rfl T.en.g rfl) pa_nil))))
      (pss_one (ps_ret (pe_tup (pa_cons pe_str (pa_cons (pe_callB (cr_reprO gd (hu _)) (by rfl) T.zRepr (by decide +kernel) (pa_cons (pe_kf (pv 1)) pa_nil)) pa_nil))))) pss_nil)
    (pss_cons (ps_if (pt_val (pe_callB call_isK (by rfl) T.zIsi (by decide +kernel) (pa_cons (pv 1) (pa_cons (pe_glob (v := .ref cBU) rfl T.eu.g rfl) pa_nil))))
      (pss_one (ps_ret (pe_tup (pa_cons pe_str (pa_cons (pe_callB (cr_reprO gd (hu _)) (by rfl) T.zRepr (by decide +kernel) (pa_cons (pe_kf (pv 1)) pa_nil)) pa_nil))))) pss_nil)
    pss_never)))), ?_⟩
  · refine ⟨fun pins s' σ H' D I h' => ?_⟩
    obtain ⟨Ech, hW, h1, h2, h3⟩ := h'
    exact PSs.run (pss_one (ps_set (i := 2) scHeard.nd rfl (Or.inl rfl) (act _ pn xe Ech _ _ (takes_len tk) (fun cls d σ' H' e l => hW cls d σ' H' e l)))) pins s' σ H' D I ⟨h1, h2, h3⟩
  · refine ⟨(by show 2 ≤ sizeLine; decide), fun t0 n0 => ?_⟩
    refine ⟨t0, _, rfl, SqT.of upd_same, rfl, _, _, rfl, _, _, rfl, rfl, ?_⟩
    have s0 : Same H (upd H t0 (.tup [.non, .non])) := same_new n0
    refine ⟨_, fun cls d σ' H' e l => ?_, rfl, s0 _ _ hc, h _ _ s0 fun v H2 k => ?_⟩
    rotate_left
    · exact ⟨_, rfl, _, rfl, iteT ⟨_, rfl, (by show 1 ≤ sizeLine; decide), fun t nt => k t _ (same_new nt) upd_same⟩⟩
    · obtain ⟨dd, v, pd, nm, hn, rfl, hdd, sh, k⟩ := e
      obtain ⟨x0, x1, x2, x3, rfl⟩ : ∃ x0 x1 x2 x3, σ' = [x0, x1, x2, x3] := by
        match σ', l with
        | [x0, x1, x2, x3], _ => exact ⟨_, _, _, _, rfl⟩
      rcases hn with ⟨rfl, rfl⟩ | ⟨rfl, rfl⟩
      · refine ⟨T.xn, fun a na => ⟨_, rfl, fun na' => ?_⟩⟩
        have s1 : Same H' (upd H' a (ErrO a (.ref cBN) (some dd))) := same_new na
        have ke : Kept (upd H' a (ErrO a (.ref cBN) (some dd))) a cBN dd [("value", v)] := ⟨upd_same, s1 _ _ hdd⟩
        have sh1 := sh.dp.same s1
        refine ⟨_, rfl, _, rfl, iteF ?_⟩
        refine ⟨_, rfl, a, cBN, dd, [("value", v)], .ref cBN, .ref cBN, true, rfl, ke, T.en.ec, (fun u q => q), T.knn, _, rfl, iteT ?_⟩
        refine ⟨_, rfl, a, cBN, dd, [("value", v)], v, rfl, ke, T.en.xf, T.en.no, rfl, v, pd, rfl, sh1, sh.sh, sh.dep, sh.sz, ?_⟩
        refine ⟨(by show 2 ≤ sizeLine; decide), fun t nt => k t _ (s1.trans (same_new nt)) upd_same⟩
      · refine ⟨T.xu, fun a na => ⟨_, rfl, fun na' => ?_⟩⟩
        have s1 : Same H' (upd H' a (ErrO a (.ref cBU) (some dd))) := same_new na
        have ke : Kept (upd H' a (ErrO a (.ref cBU) (some dd))) a cBU dd [("value", v)] := ⟨upd_same, s1 _ _ hdd⟩
        have sh1 := sh.dp.same s1
        refine ⟨_, rfl, _, rfl, iteF ?_⟩
        refine ⟨_, rfl, a, cBU, dd, [("value", v)], .ref cBN, .ref cBN, false, rfl, ke, T.eu.ec, (fun u q => q), T.kun, _, rfl, iteF ?_⟩
        refine ⟨_, rfl, a, cBU, dd, [("value", v)], .ref cBU, .ref cBU, true, rfl, ke, T.eu.ec, (fun u q => q), T.kuu, _, rfl, iteT ?_⟩
        refine ⟨_, rfl, a, cBU, dd, [("value", v)], v, rfl, ke, T.eu.xf, T.eu.no, rfl, v, pd, rfl, sh1, sh.sh, sh.dep, sh.sz, ?_⟩
        refine ⟨(by show 2 ≤ sizeLine; decide), fun t nt => k t _ (s1.trans (same_new nt)) upd_same⟩
/-- heard(lambda: ..) -/
theorem pe_heard {X : Cx} {k : Nat} {params : Arguments} {body : Expr} {scope : Scope} {t : XK → TE} {p lpos pos : Pos} (qn : Str) (hq : X.env.qual = qn) (FH : Fun X.K "_law_heard" "_law_heard" sHeard g fdH) (bH : Binds X.K fdH ["_law_ask"] []) (gH : X.mg "_law_heard" = some (.ref g)) (T : HeardT X.K X.mg cBN cBU cDE fBN fBU)
    (gd : X.A.guards = some []) (TB : LamX.TabB X.base X.mg c Pt) (hcode : X.env.code = .ref c) (hr : Room (k + 2) X.A) (hgl : Gl X "_law_heard") (sc : Scope) (hsc : X.env.scope = sc) (hL : LamX.lamSB sc scope = true) (hdef : defaultsOf params X.env = ([], []))
    (hbind : ∀ (q : Str) (cl : List (Str × Addr)) (pm cv ctv : Value), bindArgs (PySem.W.kla_fn "<lambda>" q params body scope cl pm cv ctv) ⟨[], []⟩ = pure [])
    (hbody : ∀ (A : Around) (outer : List Env) (s : Shared) (H : Hp) (E : XK) (f c' : Addr), Room k (A.deeper (LamX.lamEnv X scope s.heap.objs.size f c')) → PE (LamX.lamCx X A outer s H E scope f c') body (t E)) :
    PE X (.Call (.Name "_law_heard" p) [.Lambda params body scope lpos] [] pos) (LamX.tLam [(Pt, qn ++ Str.ofString "<lambda>")] (TTtie X.K cBN cBU) t) := by
  subst hq
  obtain ⟨oc, od, kV, doc, pm, an, cdv, ct, osl, rfl, lk, hcd⟩ := FH.ex
  refine LamX.pe_lamcall (Ng := ["_law_ask", "_law_caught", "_law_found", "error"]) hgl gH FH.kp lk hcd bH scHeard rfl (.inl rfl) (heard_gives T gd fun e => ?_) TB hcode List.mem_cons_self (fun q hq _ => by rw [List.mem_singleton.mp hq]) hr (by rw [hsc]; exact LamX.lamS_by hL) hdef hbind hbody
  have := (hr.deeper e).un
  omega
end
end My
namespace My
open PySem PySem.Spec PyProof.Rows L2
abbrev sDue : Stmt := top 38
abbrev sLine : Stmt := top 35
abbrev sBkE : Stmt := inClass (top 19) 4
abbrev sAhE : Stmt := inClass (top 20) 4
abbrev sSoE : Stmt := inClass (top 21) 4
abbrev sWhE : Stmt := inClass (top 22) 4
abbrev sLaE : Stmt := inClass (top 23) 4
abbrev sSmE : Stmt := inClass (top 24) 4
abbrev sBkT : Stmt := inClass (top 19) 5
abbrev sAhT : Stmt := inClass (top 20) 5
abbrev sSoT : Stmt := inClass (top 21) 5
abbrev sWhT : Stmt := inClass (top 22) 5
abbrev sLaT : Stmt := inClass (top 23) 5
abbrev sSmT : Stmt := inClass (top 24) 5
def kEq : Kd → Kd → Bool
  | .bk, .bk => true
  | .ah, .ah => true
  | .so, .so => true
  | .wh, .wh => true
  | .la, .la => true
  | .sm, .sm => true
  | _, _ => false
theorem kEq_iff (k j : Kd) : kEq k j = true ↔ k = j := by cases k <;> cases j <;> simp [kEq]
/-- the classes, one to another -/
structure Mx (K : PySem.W.Frag) (G : Kd → Addr) (cT cN : Addr) : Prop where
  is : ∀ k, C8.InsC K (G k)
  kk : ∀ k j, PySem.W.kitOne K (.ref (G k)) (.ref (G j)) = some (kEq k j)
  kT : ∀ k, PySem.W.kitOne K (.ref (G k)) (.ref cT) = some true
  kN : ∀ k, PySem.W.kitOne K (.ref (G k)) (.ref cN) = some (isNum k)
  kB : ∀ k, PySem.W.kitOne K (.type "NoneType") (.ref (G k)) = some false ∧ PySem.W.kitOne K (.type "str") (.ref (G k)) = some false ∧ PySem.W.kitOne K (.type "tuple") (.ref (G k)) = some false ∧ PySem.W.kitOne K (.type "int") (.ref (G k)) = some false
  su : ∀ k j, kEq k j = false → PySem.W.subIn K (.ref (G k)) (.ref (G j)) = some false
  sB : ∀ k, PySem.W.subIn K (.type "NoneType") (.ref (G k)) = some false ∧ PySem.W.subIn K (.type "str") (.ref (G k)) = some false ∧ PySem.W.subIn K (.type "tuple") (.ref (G k)) = some false ∧ PySem.W.subIn K (.type "int") (.ref (G k)) = some false
theorem Mx.ty {K : PySem.W.Frag} {G : Kd → Addr} {cT cN : Addr} (m : Mx K G cT cN) {H : Hp} {q : Addr} {k : Kd} {n : Int} {x : Str} (c : TieX G H q k n x) : TyX K H (.ref q) (.ref (G k)) := let ⟨_, h⟩ := c.ob; let i := m.is k; .base (.ins h i.cl i.ha i.hn i.htk i.hm)
theorem tflV_src (k : Kd) (v n : V) : (tflV k v n).lookup ("source" : Str) = some v := by
  unfold tflV
  split
  · rw [lookup_putF, if_neg num_ne, lookup_putF, if_pos rfl]
  · rw [lookup_putF, if_pos rfl]
theorem tflV_num {k : Kd} (h : isNum k = true) (v n : V) : (tflV k v n).lookup ("number" : Str) = some n := by
  unfold tflV
  rw [if_pos h, lookup_putF, if_pos rfl]
def preOf : Kd → Str
  | .bk => "back "
  | .ah => "ahead "
  | .so => "sofar "
  | .wh => "whole "
  | .la => "last "
  | .sm => "same "
def lineT (k : Kd) (n : Int) (x : Str) : Str := if isNum k = true then (((Str.empty ++ preOf k) ++ (toString n : String)) ++ (" " : Str)) ++ x else (Str.empty ++ preOf k) ++ x
theorem pre_word (k : Kd) : preOf k = wordOf k ++ (" " : Str) := by cases k <;> decide +kernel
theorem line3 {k : Kd} (h : isNum k = true) (n : Int) (x : Str) : Txt.join " " [wordOf k, (toString n : String), x] = lineT k n x := by
  rw [show ∀ (y : Str) (ps : List Str), Txt.join y ps = Str.join y ps from fun y ps => StrLaws.glued_eq_join y ps]
  unfold lineT
  rw [if_pos h, pre_word, Str.empty_append]
  show wordOf k ++ (" " : Str) ++ ((toString n : String) ++ (" " : Str) ++ x) = _
  simp only [Str.append_assoc]
theorem line2 {k : Kd} (h : isNum k = false) (n : Int) (x : Str) : Txt.join " " [wordOf k, x] = lineT k n x := by
  rw [show ∀ (y : Str) (ps : List Str), Txt.join y ps = Str.join y ps from fun y ps => StrLaws.glued_eq_join y ps]
  unfold lineT
  rw [h, pre_word, Str.empty_append]
  rfl
theorem num_len {n : Int} (h0 : 0 ≤ n) (h : n ≤ 60) : (((toString n : String) : Str)).length ≤ 71 := by
  have e : (10 : Nat) ^ 70 = 10000000000000000000000000000000000000000000000000000000000000000000000 := by decide
  exact int_shown (i := n) (by rw [e]; omega)
theorem pre_len (k : Kd) : (preOf k).length ≤ 6 := by cases k <;> decide +kernel
theorem word_len (k : Kd) : (wordOf k).length ≤ 5 := by cases k <;> decide +kernel
theorem log60 {n : Int} (h0 : 0 ≤ n) (h : n ≤ 60) : n.natAbs.log2 < 1920 := by
  have e2 : (2 : Nat) ^ 64 = 18446744073709551616 := by decide
  exact Nat.lt_trans (PySem.Flt.log2_lt_of (k := 64) (by decide) (by rw [e2]; omega)) (by decide)
section
variable {P : Program} {w : World} {K : PySem.W.Frag} {mg : Str → Option Value} {base : Heap} {C fWhole fBetw fDay fChk fName : Addr} {G : Kd → Addr} {cT cN fTI fNI cBN fBN cBU fBU : Addr} {dBN dBU : FuncData}
def spStr (G : Kd → Addr) (k : Kd) : Sp := fun vs H Q _ => ∃ (p : Addr) (n : Int) (x : Str), vs = [.ref p] ∧ TieX G H p k n x ∧ NameOk x ∧ NumOk k n ∧ Q (.str (lineT k n x)) H
def spEq (K : PySem.W.Frag) (G : Kd → Addr) (k : Kd) : Sp := fun vs H Q _ => ∃ (p : Addr) (v : V) (n : Int) (x : Str), vs = [.ref p, v] ∧ TieX G H p k n x ∧
  ((∃ (q : Addr) (j : Kd) (m : Int) (y : Str), v = .ref q ∧ TieX G H q j m y ∧ (j = k → x = y → (isNum k = true → n = m) → Q (.bl true) H) ∧ (¬ (j = k ∧ x = y ∧ (isNum k = true → n = m)) → Q (.bl false) H)) ∨
    (∃ t : String, TyX K H v (.type t) ∧ PySem.W.kitOne K (.type t) (.ref (G k)) = some false ∧ Q (.bl false) H))
theorem scBkE : FnScope ["self", "other"] ["self", "other"] (defScope sBkE) := ⟨rfl, rfl, rfl, by decide +kernel, rfl, by decide +kernel, by decide +kernel⟩
theorem ok_BkE {f : Addr} {fd : FuncData} (F : Fun K "__eq__" "Back.__eq__" sBkE f fd) (T : Txt K mg C fWhole fBetw fDay fChk) (Y : Ty K mg G cT cN fTI fNI fName) (M : Mx K G cT cN) : FnOk P w K mg base CX0 1 f fd ["self", "other"] (spEq K G .bk) := by
  refine F.ok scBkE (fun vs H Q E h => ?_) (fun cdv A outer s H vs Q E hr h => ?_)
  · obtain ⟨p, v, n, x, rfl, _⟩ := h
    rfl
  · obtain ⟨p, v, n, x, rfl, ⟨dx, hp⟩, h⟩ := h
    refine ⟨_, pss_one (ps_ret (pe_and (pe_callB call_isi (by rfl) T.zIsi (by decide +kernel) (pa_cons (pv 1) (pa_cons (pe_glob (v := .ref (G .bk)) rfl Y.gBk rfl) pa_nil))) (pe_and (pe_cmpR op_eq (pe_fld (pv 0) rfl) (pe_fld (pv 1) rfl) (nomark _)) (pe_one (pe_cmpR op_eq (pe_fld (pv 0) rfl) (pe_fld (pv 1) rfl) (nomark _)))))), ?_⟩
    rcases h with ⟨q, j, m, y, rfl, cq, k1, k0⟩ | ⟨t, ty, kt, k⟩
    · refine ⟨_, rfl, .ref q, .ref (G .bk), _, _, _, rfl, .own _, M.ty cq, M.kk j .bk, _, rfl, ?_⟩
      by_cases e : j = .bk
      · subst e
        obtain ⟨dy, hq⟩ := cq
        refine iteT ⟨_, rfl, p, G .bk, dx, _, _, rfl, hp, Y.cl _, Y.nS _, tflV_src _ _ _, _, rfl, q, G .bk, dy, _, _, rfl, hq, Y.cl _, Y.nS _, tflV_src _ _ _, rfl, _, rfl, ?_⟩
        by_cases ex : x = y
        · rw [decide_eq_true (congrArg V.str ex)]
          refine iteT ⟨_, rfl, p, G .bk, dx, _, _, rfl, hp, Y.cl _, Y.nN _, tflV_num rfl _ _, _, rfl, q, G .bk, dy, _, _, rfl, hq, Y.cl _, Y.nN _, tflV_num rfl _ _, rfl, ?_⟩
          by_cases en : n = m
          · have e : numV .bk n = numV .bk m := by rw [en]
            rw [decide_eq_true e]
            exact k1 rfl ex fun _ => en
          · have e : ¬ numV .bk n = numV .bk m := fun z => en (V.int.inj z)
            rw [decide_eq_false e]
            exact k0 fun z => en (z.2.2 rfl)
        · rw [decide_eq_false (fun z => ex (V.str.inj z))]
          exact iteF (k0 fun z => ex z.2.1)
      · rw [show kEq j .bk = false from (Bool.eq_false_iff.mpr fun z => e ((kEq_iff j .bk).mp z))]
        exact iteF (k0 fun z => e z.1)
    · exact ⟨_, rfl, v, .ref (G .bk), _, _, false, rfl, .own _, ty, kt, _, rfl, iteF k⟩
theorem scBkT : FnScope ["self"] ["self"] (defScope sBkT) := ⟨rfl, rfl, rfl, by decide +kernel, rfl, by decide +kernel, by decide +kernel⟩
theorem ok_BkT {f : Addr} {fd : FuncData} (F : Fun K "__str__" "Back.__str__" sBkT f fd) (Y : Ty K mg G cT cN fTI fNI fName) : FnOk P w K mg base CX0 1 f fd ["self"] (spStr G .bk) := by
  refine F.ok scBkT (fun vs H Q E h => ?_) (fun cdv A outer s H vs Q E hr h => ?_)
  · obtain ⟨p, n, x, rfl, _⟩ := h
    rfl
  · obtain ⟨p, n, x, rfl, ⟨dx, hp⟩, nm, ok, k⟩ := h
    refine ⟨_, pss_one (ps_ret (pe_joined (.cons pe_str (.cons (pe_fmt (pe_fld (pv 0) rfl)) (.cons pe_str (.cons (pe_fmt (pe_fld (pv 0) rfl)) .nil)))))), ?_⟩
    have l1 := num_len ok.lo ok.hi
    have l2 := nm.len
    refine ⟨_, rfl, ?_, _, rfl, p, G .bk, dx, _, _, rfl, hp, Y.cl _, Y.nN _, tflV_num rfl _ _, .inr ⟨n, rfl, log60 ok.lo ok.hi, _, rfl, ?_, _, rfl, ?_, _, rfl, p, G .bk, dx, _, _, rfl, hp, Y.cl _, Y.nS _, tflV_src _ _ _, .inl ⟨x, rfl, small_line (by omega), _, rfl, ?_, k⟩⟩⟩
    all_goals
      refine small_line ?_
      simp only [Str.length_append]
      have lp : (Str.empty : Str).length = 0 := rfl
      have l3 : (Str.ofString "back ").length ≤ 6 := pre_len .bk
      have l4 : (Str.ofString " ").length = 1 := rfl
      omega
theorem scAhE : FnScope ["self", "other"] ["self", "other"] (defScope sAhE) := ⟨rfl, rfl, rfl, by decide +kernel, rfl, by decide +kernel, by decide +kernel⟩
theorem ok_AhE {f : Addr} {fd : FuncData} (F : Fun K "__eq__" "Ahead.__eq__" sAhE f fd) (T : Txt K mg C fWhole fBetw fDay fChk) (Y : Ty K mg G cT cN fTI fNI fName) (M : Mx K G cT cN) : FnOk P w K mg base CX0 1 f fd ["self", "other"] (spEq K G .ah) := by
  refine F.ok scAhE (fun vs H Q E h => ?_) (fun cdv A outer s H vs Q E hr h => ?_)
  · obtain ⟨p, v, n, x, rfl, _⟩ := h
    rfl
  · obtain ⟨p, v, n, x, rfl, ⟨dx, hp⟩, h⟩ := h
    refine ⟨_, pss_one (ps_ret (pe_and (pe_callB call_isi (by rfl) T.zIsi (by decide +kernel) (pa_cons (pv 1) (pa_cons (pe_glob (v := .ref (G .ah)) rfl Y.gAh rfl) pa_nil))) (pe_and (pe_cmpR op_eq (pe_fld (pv 0) rfl) (pe_fld (pv 1) rfl) (nomark _)) (pe_one (pe_cmpR op_eq (pe_fld (pv 0) rfl) (pe_fld (pv 1) rfl) (nomark _)))))), ?_⟩
    rcases h with ⟨q, j, m, y, rfl, cq, k1, k0⟩ | ⟨t, ty, kt, k⟩
    · refine ⟨_, rfl, .ref q, .ref (G .ah), _, _, _, rfl, .own _, M.ty cq, M.kk j .ah, _, rfl, ?_⟩
      by_cases e : j = .ah
      · subst e
        obtain ⟨dy, hq⟩ := cq
        refine iteT ⟨_, rfl, p, G .ah, dx, _, _, rfl, hp, Y.cl _, Y.nS _, tflV_src _ _ _, _, rfl, q, G .ah, dy, _, _, rfl, hq, Y.cl _, Y.nS _, tflV_src _ _ _, rfl, _, rfl, ?_⟩
        by_cases ex : x = y
        · rw [decide_eq_true (congrArg V.str ex)]
          refine iteT ⟨_, rfl, p, G .ah, dx, _, _, rfl, hp, Y.cl _, Y.nN _, tflV_num rfl _ _, _, rfl, q, G .ah, dy, _, _, rfl, hq, Y.cl _, Y.nN _, tflV_num rfl _ _, rfl, ?_⟩
          by_cases en : n = m
          · have e : numV .ah n = numV .ah m := by rw [en]
            rw [decide_eq_true e]
            exact k1 rfl ex fun _ => en
          · have e : ¬ numV .ah n = numV .ah m := fun z => en (V.int.inj z)
            rw [decide_eq_false e]
            exact k0 fun z => en (z.2.2 rfl)
        · rw [decide_eq_false (fun z => ex (V.str.inj z))]
          exact iteF (k0 fun z => ex z.2.1)
      · rw [show kEq j .ah = false from (Bool.eq_false_iff.mpr fun z => e ((kEq_iff j .ah).mp z))]
        exact iteF (k0 fun z => e z.1)
    · exact ⟨_, rfl, v, .ref (G .ah), _, _, false, rfl, .own _, ty, kt, _, rfl, iteF k⟩
theorem scAhT : FnScope ["self"] ["self"] (defScope sAhT) := ⟨rfl, rfl, rfl, by decide +kernel, rfl, by decide +kernel, by decide +kernel⟩
theorem ok_AhT {f : Addr} {fd : FuncData} (F : Fun K "__str__" "Ahead.__str__" sAhT f fd) (Y : Ty K mg G cT cN fTI fNI fName) : FnOk P w K mg base CX0 1 f fd ["self"] (spStr G .ah) := by
  refine F.ok scAhT (fun vs H Q E h => ?_) (fun cdv A outer s H vs Q E hr h => ?_)
  · obtain ⟨p, n, x, rfl, _⟩ := h
    rfl
  · obtain ⟨p, n, x, rfl, ⟨dx, hp⟩, nm, ok, k⟩ := h
    refine ⟨_, pss_one (ps_ret (pe_joined (.cons pe_str (.cons (pe_fmt (pe_fld (pv 0) rfl)) (.cons pe_str (.cons (pe_fmt (pe_fld (pv 0) rfl)) .nil)))))), ?_⟩
    have l1 := num_len ok.lo ok.hi
    have l2 := nm.len
    refine ⟨_, rfl, ?_, _, rfl, p, G .ah, dx, _, _, rfl, hp, Y.cl _, Y.nN _, tflV_num rfl _ _, .inr ⟨n, rfl, log60 ok.lo ok.hi, _, rfl, ?_, _, rfl, ?_, _, rfl, p, G .ah, dx, _, _, rfl, hp, Y.cl _, Y.nS _, tflV_src _ _ _, .inl ⟨x, rfl, small_line (by omega), _, rfl, ?_, k⟩⟩⟩
    all_goals
      refine small_line ?_
      simp only [Str.length_append]
      have lp : (Str.empty : Str).length = 0 := rfl
      have l3 : (Str.ofString "ahead ").length ≤ 6 := pre_len .ah
      have l4 : (Str.ofString " ").length = 1 := rfl
      omega
theorem scSoE : FnScope ["self", "other"] ["self", "other"] (defScope sSoE) := ⟨rfl, rfl, rfl, by decide +kernel, rfl, by decide +kernel, by decide +kernel⟩
theorem ok_SoE {f : Addr} {fd : FuncData} (F : Fun K "__eq__" "Sofar.__eq__" sSoE f fd) (T : Txt K mg C fWhole fBetw fDay fChk) (Y : Ty K mg G cT cN fTI fNI fName) (M : Mx K G cT cN) : FnOk P w K mg base CX0 1 f fd ["self", "other"] (spEq K G .so) := by
  refine F.ok scSoE (fun vs H Q E h => ?_) (fun cdv A outer s H vs Q E hr h => ?_)
  · obtain ⟨p, v, n, x, rfl, _⟩ := h
    rfl
  · obtain ⟨p, v, n, x, rfl, ⟨dx, hp⟩, h⟩ := h
    refine ⟨_, pss_one (ps_ret (pe_and (pe_callB call_isi (by rfl) T.zIsi (by decide +kernel) (pa_cons (pv 1) (pa_cons (pe_glob (v := .ref (G .so)) rfl Y.gSo rfl) pa_nil))) (pe_one (pe_cmpR op_eq (pe_fld (pv 0) rfl) (pe_fld (pv 1) rfl) (nomark _))))), ?_⟩
    rcases h with ⟨q, j, m, y, rfl, cq, k1, k0⟩ | ⟨t, ty, kt, k⟩
    · refine ⟨_, rfl, .ref q, .ref (G .so), _, _, _, rfl, .own _, M.ty cq, M.kk j .so, _, rfl, ?_⟩
      by_cases e : j = .so
      · subst e
        obtain ⟨dy, hq⟩ := cq
        refine iteT ⟨_, rfl, p, G .so, dx, _, _, rfl, hp, Y.cl _, Y.nS _, tflV_src _ _ _, _, rfl, q, G .so, dy, _, _, rfl, hq, Y.cl _, Y.nS _, tflV_src _ _ _, rfl, ?_⟩
        by_cases ex : x = y
        · rw [decide_eq_true (congrArg V.str ex)]
          exact k1 rfl ex fun z => nomatch z
        · rw [decide_eq_false (fun z => ex (V.str.inj z))]
          exact k0 fun z => ex z.2.1
      · rw [show kEq j .so = false from (Bool.eq_false_iff.mpr fun z => e ((kEq_iff j .so).mp z))]
        exact iteF (k0 fun z => e z.1)
    · exact ⟨_, rfl, v, .ref (G .so), _, _, false, rfl, .own _, ty, kt, _, rfl, iteF k⟩
theorem scSoT : FnScope ["self"] ["self"] (defScope sSoT) := ⟨rfl, rfl, rfl, by decide +kernel, rfl, by decide +kernel, by decide +kernel⟩
theorem ok_SoT {f : Addr} {fd : FuncData} (F : Fun K "__str__" "Sofar.__str__" sSoT f fd) (Y : Ty K mg G cT cN fTI fNI fName) : FnOk P w K mg base CX0 1 f fd ["self"] (spStr G .so) := by
  refine F.ok scSoT (fun vs H Q E h => ?_) (fun cdv A outer s H vs Q E hr h => ?_)
  · obtain ⟨p, n, x, rfl, _⟩ := h
    rfl
  · obtain ⟨p, n, x, rfl, ⟨dx, hp⟩, nm, ok, k⟩ := h
    refine ⟨_, pss_one (ps_ret (pe_joined (.cons pe_str (.cons (pe_fmt (pe_fld (pv 0) rfl)) .nil)))), ?_⟩
    have l2 := nm.len
    refine ⟨_, rfl, ?_, _, rfl, p, G .so, dx, _, _, rfl, hp, Y.cl _, Y.nS _, tflV_src _ _ _, .inl ⟨x, rfl, small_line (by omega), _, rfl, ?_, k⟩⟩
    all_goals
      refine small_line ?_
      simp only [Str.length_append]
      have lp : (Str.empty : Str).length = 0 := rfl
      have l3 : (Str.ofString "sofar ").length ≤ 6 := pre_len .so
      have l4 : (Str.ofString " ").length = 1 := rfl
      omega
theorem scWhE : FnScope ["self", "other"] ["self", "other"] (defScope sWhE) := ⟨rfl, rfl, rfl, by decide +kernel, rfl, by decide +kernel, by decide +kernel⟩
theorem ok_WhE {f : Addr} {fd : FuncData} (F : Fun K "__eq__" "Whole.__eq__" sWhE f fd) (T : Txt K mg C fWhole fBetw fDay fChk) (Y : Ty K mg G cT cN fTI fNI fName) (M : Mx K G cT cN) : FnOk P w K mg base CX0 1 f fd ["self", "other"] (spEq K G .wh) := by
  refine F.ok scWhE (fun vs H Q E h => ?_) (fun cdv A outer s H vs Q E hr h => ?_)
  · obtain ⟨p, v, n, x, rfl, _⟩ := h
    rfl
  · obtain ⟨p, v, n, x, rfl, ⟨dx, hp⟩, h⟩ := h
    refine ⟨_, pss_one (ps_ret (pe_and (pe_callB call_isi (by rfl) T.zIsi (by decide +kernel) (pa_cons (pv 1) (pa_cons (pe_glob (v := .ref (G .wh)) rfl Y.gWh rfl) pa_nil))) (pe_one (pe_cmpR op_eq (pe_fld (pv 0) rfl) (pe_fld (pv 1) rfl) (nomark _))))), ?_⟩
    rcases h with ⟨q, j, m, y, rfl, cq, k1, k0⟩ | ⟨t, ty, kt, k⟩
    · refine ⟨_, rfl, .ref q, .ref (G .wh), _, _, _, rfl, .own _, M.ty cq, M.kk j .wh, _, rfl, ?_⟩
      by_cases e : j = .wh
      · subst e
        obtain ⟨dy, hq⟩ := cq
        refine iteT ⟨_, rfl, p, G .wh, dx, _, _, rfl, hp, Y.cl _, Y.nS _, tflV_src _ _ _, _, rfl, q, G .wh, dy, _, _, rfl, hq, Y.cl _, Y.nS _, tflV_src _ _ _, rfl, ?_⟩
        by_cases ex : x = y
        · rw [decide_eq_true (congrArg V.str ex)]
          exact k1 rfl ex fun z => nomatch z
        · rw [decide_eq_false (fun z => ex (V.str.inj z))]
          exact k0 fun z => ex z.2.1
      · rw [show kEq j .wh = false from (Bool.eq_false_iff.mpr fun z => e ((kEq_iff j .wh).mp z))]
        exact iteF (k0 fun z => e z.1)
    · exact ⟨_, rfl, v, .ref (G .wh), _, _, false, rfl, .own _, ty, kt, _, rfl, iteF k⟩
theorem scWhT : FnScope ["self"] ["self"] (defScope sWhT) := ⟨rfl, rfl, rfl, by decide +kernel, rfl, by decide +kernel, by decide +kernel⟩
theorem ok_WhT {f : Addr} {fd : FuncData} (F : Fun K "__str__" "Whole.__str__" sWhT f fd) (Y : Ty K mg G cT cN fTI fNI fName) : FnOk P w K mg base CX0 1 f fd ["self"] (spStr G .wh) := by
  refine F.ok scWhT (fun vs H Q E h => ?_) (fun cdv A outer s H vs Q E hr h => ?_)
  · obtain ⟨p, n, x, rfl, _⟩ := h
    rfl
  · obtain ⟨p, n, x, rfl, ⟨dx, hp⟩, nm, ok, k⟩ := h
    refine ⟨_, pss_one (ps_ret (pe_joined (.cons pe_str (.cons (pe_fmt (pe_fld (pv 0) rfl)) .nil)))), ?_⟩
    have l2 := nm.len
    refine ⟨_, rfl, ?_, _, rfl, p, G .wh, dx, _, _, rfl, hp, Y.cl _, Y.nS _, tflV_src _ _ _, .inl ⟨x, rfl, small_line (by omega), _, rfl, ?_, k⟩⟩
    all_goals
      refine small_line ?_
      simp only [Str.length_append]
      have lp : (Str.empty : Str).length = 0 := rfl
      have l3 : (Str.ofString "whole ").length ≤ 6 := pre_len .wh
      have l4 : (Str.ofString " ").length = 1 := rfl
      omega
theorem scLaE : FnScope ["self", "other"] ["self", "other"] (defScope sLaE) := ⟨rfl, rfl, rfl, by decide +kernel, rfl, by decide +kernel, by decide +kernel⟩
theorem ok_LaE {f : Addr} {fd : FuncData} (F : Fun K "__eq__" "Last.__eq__" sLaE f fd) (T : Txt K mg C fWhole fBetw fDay fChk) (Y : Ty K mg G cT cN fTI fNI fName) (M : Mx K G cT cN) : FnOk P w K mg base CX0 1 f fd ["self", "other"] (spEq K G .la) := by
  refine F.ok scLaE (fun vs H Q E h => ?_) (fun cdv A outer s H vs Q E hr h => ?_)
  · obtain ⟨p, v, n, x, rfl, _⟩ := h
    rfl
  · obtain ⟨p, v, n, x, rfl, ⟨dx, hp⟩, h⟩ := h
    refine ⟨_, pss_one (ps_ret (pe_and (pe_callB call_isi (by rfl) T.zIsi (by decide +kernel) (pa_cons (pv 1) (pa_cons (pe_glob (v := .ref (G .la)) rfl Y.gLa rfl) pa_nil))) (pe_one (pe_cmpR op_eq (pe_fld (pv 0) rfl) (pe_fld (pv 1) rfl) (nomark _))))), ?_⟩
    rcases h with ⟨q, j, m, y, rfl, cq, k1, k0⟩ | ⟨t, ty, kt, k⟩
    · refine ⟨_, rfl, .ref q, .ref (G .la), _, _, _, rfl, .own _, M.ty cq, M.kk j .la, _, rfl, ?_⟩
      by_cases e : j = .la
      · subst e
        obtain ⟨dy, hq⟩ := cq
        refine iteT ⟨_, rfl, p, G .la, dx, _, _, rfl, hp, Y.cl _, Y.nS _, tflV_src _ _ _, _, rfl, q, G .la, dy, _, _, rfl, hq, Y.cl _, Y.nS _, tflV_src _ _ _, rfl, ?_⟩
        by_cases ex : x = y
        · rw [decide_eq_true (congrArg V.str ex)]
          exact k1 rfl ex fun z => nomatch z
        · rw [decide_eq_false (fun z => ex (V.str.inj z))]
          exact k0 fun z => ex z.2.1
      · rw [show kEq j .la = false from (Bool.eq_false_iff.mpr fun z => e ((kEq_iff j .la).mp z))]
        exact iteF (k0 fun z => e z.1)
    · exact ⟨_, rfl, v, .ref (G .la), _, _, false, rfl, .own _, ty, kt, _, rfl, iteF k⟩
theorem scLaT : FnScope ["self"] ["self"] (defScope sLaT) := ⟨rfl, rfl, rfl, by decide +kernel, rfl, by decide +kernel, by decide +kernel⟩
theorem ok_LaT {f : Addr} {fd : FuncData} (F : Fun K "__str__" "Last.__str__" sLaT f fd) (Y : Ty K mg G cT cN fTI fNI fName) : FnOk P w K mg base CX0 1 f fd ["self"] (spStr G .la) := by
  refine F.ok scLaT (fun vs H Q E h => ?_) (fun cdv A outer s H vs Q E hr h => ?_)
  · obtain ⟨p, n, x, rfl, _⟩ := h
    rfl
  · obtain ⟨p, n, x, rfl, ⟨dx, hp⟩, nm, ok, k⟩ := h
    refine ⟨_, pss_one (ps_ret (pe_joined (.cons pe_str (.cons (pe_fmt (pe_fld (pv 0) rfl)) .nil)))), ?_⟩
    have l2 := nm.len
    refine ⟨_, rfl, ?_, _, rfl, p, G .la, dx, _, _, rfl, hp, Y.cl _, Y.nS _, tflV_src _ _ _, .inl ⟨x, rfl, small_line (by omega), _, rfl, ?_, k⟩⟩
    all_goals
      refine small_line ?_
      simp only [Str.length_append]
      have lp : (Str.empty : Str).length = 0 := rfl
      have l3 : (Str.ofString "last ").length ≤ 6 := pre_len .la
      have l4 : (Str.ofString " ").length = 1 := rfl
      omega
theorem scSmE : FnScope ["self", "other"] ["self", "other"] (defScope sSmE) := ⟨rfl, rfl, rfl, by decide +kernel, rfl, by decide +kernel, by decide +kernel⟩
theorem ok_SmE {f : Addr} {fd : FuncData} (F : Fun K "__eq__" "Same.__eq__" sSmE f fd) (T : Txt K mg C fWhole fBetw fDay fChk) (Y : Ty K mg G cT cN fTI fNI fName) (M : Mx K G cT cN) : FnOk P w K mg base CX0 1 f fd ["self", "other"] (spEq K G .sm) := by
  refine F.ok scSmE (fun vs H Q E h => ?_) (fun cdv A outer s H vs Q E hr h => ?_)
  · obtain ⟨p, v, n, x, rfl, _⟩ := h
    rfl
  · obtain ⟨p, v, n, x, rfl, ⟨dx, hp⟩, h⟩ := h
    refine ⟨_, pss_one (ps_ret (pe_and (pe_callB call_isi (by rfl) T.zIsi (by decide +kernel) (pa_cons (pv 1) (pa_cons (pe_glob (v := .ref (G .sm)) rfl Y.gSm rfl) pa_nil))) (pe_one (pe_cmpR op_eq (pe_fld (pv 0) rfl) (pe_fld (pv 1) rfl) (nomark _))))), ?_⟩
    rcases h with ⟨q, j, m, y, rfl, cq, k1, k0⟩ | ⟨t, ty, kt, k⟩
    · refine ⟨_, rfl, .ref q, .ref (G .sm), _, _, _, rfl, .own _, M.ty cq, M.kk j .sm, _, rfl, ?_⟩
      by_cases e : j = .sm
      · subst e
        obtain ⟨dy, hq⟩ := cq
        refine iteT ⟨_, rfl, p, G .sm, dx, _, _, rfl, hp, Y.cl _, Y.nS _, tflV_src _ _ _, _, rfl, q, G .sm, dy, _, _, rfl, hq, Y.cl _, Y.nS _, tflV_src _ _ _, rfl, ?_⟩
        by_cases ex : x = y
        · rw [decide_eq_true (congrArg V.str ex)]
          exact k1 rfl ex fun z => nomatch z
        · rw [decide_eq_false (fun z => ex (V.str.inj z))]
          exact k0 fun z => ex z.2.1
      · rw [show kEq j .sm = false from (Bool.eq_false_iff.mpr fun z => e ((kEq_iff j .sm).mp z))]
        exact iteF (k0 fun z => e z.1)
    · exact ⟨_, rfl, v, .ref (G .sm), _, _, false, rfl, .own _, ty, kt, _, rfl, iteF k⟩
theorem scSmT : FnScope ["self"] ["self"] (defScope sSmT) := ⟨rfl, rfl, rfl, by decide +kernel, rfl, by decide +kernel, by decide +kernel⟩
theorem ok_SmT {f : Addr} {fd : FuncData} (F : Fun K "__str__" "Same.__str__" sSmT f fd) (Y : Ty K mg G cT cN fTI fNI fName) : FnOk P w K mg base CX0 1 f fd ["self"] (spStr G .sm) := by
  refine F.ok scSmT (fun vs H Q E h => ?_) (fun cdv A outer s H vs Q E hr h => ?_)
  · obtain ⟨p, n, x, rfl, _⟩ := h
    rfl
  · obtain ⟨p, n, x, rfl, ⟨dx, hp⟩, nm, ok, k⟩ := h
    refine ⟨_, pss_one (ps_ret (pe_joined (.cons pe_str (.cons (pe_fmt (pe_fld (pv 0) rfl)) .nil)))), ?_⟩
    have l2 := nm.len
    refine ⟨_, rfl, ?_, _, rfl, p, G .sm, dx, _, _, rfl, hp, Y.cl _, Y.nS _, tflV_src _ _ _, .inl ⟨x, rfl, small_line (by omega), _, rfl, ?_, k⟩⟩
    all_goals
      refine small_line ?_
      simp only [Str.length_append]
      have lp : (Str.empty : Str).length = 0 := rfl
      have l3 : (Str.ofString "same ").length ≤ 6 := pre_len .sm
      have l4 : (Str.ofString " ").length = 1 := rfl
      omega
end
end My
namespace My
open PySem PySem.Spec PyProof.Rows L2
abbrev sRight : Stmt := top 36
section
variable {P : Program} {w : World} {K : PySem.W.Frag} {mg : Str → Option Value} {base : Heap} {C fWhole fBetw fDay fChk fName : Addr} {G : Kd → Addr} {cT cN fTI fNI cBN fBN cBU fBU : Addr} {dBN dBU : FuncData}
structure LabOk (v : V) : Prop where
  ex : ∀ x, v = .str x → six.contains x = nameB x
def spDue : Sp := fun vs H Q _ => ∃ (k : Kd) (v n : V) (d dn : PyData), vs = [.str (wordOf k), v, n] ∧ AV H v d ∧ AV H n dn ∧ LabOk v ∧
  (nmB v = false → ∀ t H', Same H H' → H' t = some (.tup [.str "name", .str d.shown]) → Q (.ref t) H') ∧
  (nmB v = true → isNum k = true → nuB (loOf k) n = false → ∀ t H', Same H H' → H' t = some (.tup [.str "number", .str dn.shown]) → Q (.ref t) H') ∧
  (nmB v = true → (isNum k = true → nuB (loOf k) n = true) → ∀ H', Same H H' → Q .non H')
theorem scDue : FnScope ["_law_word", "_law_label", "_law_number_so"] ["_law_word", "_law_label", "_law_number_so"] (defScope sDue) := ⟨rfl, rfl, rfl, by decide +kernel, rfl, by decide +kernel, by decide +kernel⟩
theorem inV_strs (x : Str) : ∀ l : List Str, inV (.str x) (l.map V.str) = l.contains x
  | [] => rfl
  | a :: r => by
    have ih := inV_strs x r
    rw [List.contains_cons, ← ih]
    show ((a == x) || inV (.str x) (r.map V.str)) = ((x == a) || inV (.str x) (r.map V.str))
    rw [show (a == x) = (x == a) from by rw [Bool.eq_iff_iff, beq_iff_eq, beq_iff_eq, eq_comm]]
theorem inV_six (x : Str) : inV (.str x) (six.map V.str) = six.contains x := inV_strs x six
theorem ok_due {f : Addr} {fd : FuncData} (F : Fun K "_law_due" "_law_due" sDue f fd) (T : Txt K mg C fWhole fBetw fDay fChk) : FnG P w K mg base CX0 2 f fd ["_law_word", "_law_label", "_law_number_so"] spDue := by
  refine okG F scDue (fun vs H Q E h => ?_) (fun cdv A outer s H vs Q E gd hr h => ?_)
  · obtain ⟨k, v, n, d, dn, rfl, _⟩ := h
    rfl
  · obtain ⟨k, v, n, d, dn, rfl, o, on, lab, k0, k1, k2⟩ := h
    have hu70 : (A.deeper (envOfC "_law_due" (defScope sDue) s.heap.objs.size f cdv)).units + 70 < cLine := by have := hr.un; omega
    refine ⟨_, pss_cons (ps_if (PW.pt (pw_or (pt_not (pt_val (pe_callB call_isi (by rfl) T.zIsi (by decide +kernel) (pa_cons (pv 1) (pa_cons (pe_bltn (v := .ty "str") (by rfl) T.zStr (by decide +kernel) rfl) pa_nil)))))
        (pw_or1 (pt_cmpR op_notIn_seq (pv 1) (pe_lst (pa_cons pe_str (pa_cons pe_str (pa_cons pe_str (pa_cons pe_str (pa_cons pe_str (pa_cons pe_str pa_nil))))))) (by rfl)))))
        (pss_one (ps_ret (pe_tup (pa_cons pe_str (pa_cons (pe_callB (cr_reprO gd hu70) (by rfl) T.zRepr (by decide +kernel) (pa_cons (pv 1) pa_nil)) pa_nil))))) pss_nil)
      (pss_cons (ps_if (pt_cmpR op_notIn_seq (pv 0) (pe_tup (pa_cons pe_str (pa_cons pe_str pa_nil))) (by rfl)) (pss_one (ps_ret pe_non)) pss_nil)
      (pss_cons (ps_if (PW.pt (pw_or (pt_not (pt_val (pe_callB call_isi (by rfl) T.zIsi (by decide +kernel) (pa_cons (pv 2) (pa_cons (pe_bltn (v := .ty "int") (by rfl) T.zInt (by decide +kernel) rfl) pa_nil)))))
        (pw_or1 (pt_val (pe_callB call_isi (by rfl) T.zIsi (by decide +kernel) (pa_cons (pv 2) (pa_cons (pe_bltn (v := .ty "bool") (by rfl) T.zBool (by decide +kernel) rfl) pa_nil)))))))
        (pss_one (ps_ret (pe_tup (pa_cons pe_str (pa_cons (pe_callB (cr_reprO gd hu70) (by rfl) T.zRepr (by decide +kernel) (pa_cons (pv 2) pa_nil)) pa_nil))))) pss_nil)
      (pss_one (ps_ret (pe_ifExp (pt_chain op_le op_le (pe_callTy call_int1 (by rfl) T.zInt (by decide +kernel) (pa_cons (pe_cmpR op_eq (pv 0) pe_str (nomark _)) pa_nil)) (pv 2) pe_int) pe_non
        (pe_tup (pa_cons pe_str (pa_cons (pe_callB (cr_reprO gd hu70) (by rfl) T.zRepr (by decide +kernel) (pa_cons (pv 2) pa_nil)) pa_nil)))))))), ?_⟩
    obtain ⟨t, b1, b2, ty, _, _, h3, _⟩ := (o.kinds (K := K)).ex
    obtain ⟨tn, c1, c2, tyn, g1, g2, _, g3⟩ := (on.kinds (K := K)).ex
    have sh := o.shows (K := K)
    refine ⟨_, rfl, v, .ty "str", _, _, isS v, rfl, .ty "str", ty, kit_ty h3, isS v, rfl, ?_⟩
    cases hs : isS v with
    | false =>
      have e : nmB v = false := by
        cases v with
        | str x => cases hs
        | _ => rfl
      exact iteT ⟨_, rfl, v, d, rfl, sh.dp, sh.sh, sh.dep, sh.sz, (by show 2 ≤ sizeLine; decide), fun q nq => k0 e q _ (same_new nq) upd_same⟩
    | true =>
      obtain ⟨x, rfl⟩ : ∃ x, v = .str x := by
        cases v with
        | str x => exact ⟨x, rfl⟩
        | _ => cases hs
      have hl := lab.ex x rfl
      refine iteF ⟨_, rfl, (by show 6 ≤ sizeLine; decide), fun L nL => ?_⟩
      have s1 := same_new (o := .lst (six.map V.str)) nL
      refine ⟨L, six.map V.str, rfl, .inl (SqL.of upd_same), rfl, by rfl, _, rfl, ?_⟩
      rw [inV_six, hl]
      cases hn : nameB x with
      | false =>
        have sh1 := (o.same s1).shows (K := K)
        exact iteT ⟨_, rfl, _, d, rfl, sh1.dp, sh1.sh, sh1.dep, sh1.sz, (by show 2 ≤ sizeLine; decide), fun q nq => k0 hn q _ (s1.trans (same_new nq)) upd_same⟩
      | true =>
        refine iteF ⟨_, rfl, (by show 2 ≤ sizeLine; decide), fun T2 nT2 => ?_⟩
        have s2 := s1.trans (same_new (o := .tup [.str "back", .str "ahead"]) nT2)
        refine ⟨T2, _, rfl, .inr (SqT.of upd_same), rfl, by rfl, _, rfl, ?_⟩
        rw [in_two k]
        cases hk : isNum k with
        | false => exact iteT (k2 hn (fun z => by rw [hk] at z; cases z) _ s2)
        | true =>
          have shn := (on.same s2).shows (K := K)
          have kn : ∀ e : nuB (loOf k) n = false, ∀ q, (upd (upd H L (.lst (six.map V.str))) T2 (.tup [.str "back", .str "ahead"])) q = none → Q (.ref q) (upd (upd (upd H L (.lst (six.map V.str))) T2 (.tup [.str "back", .str "ahead"])) q (.tup [.str "number", .str dn.shown])) := fun e q nq => k1 hn hk e q _ (s2.trans (same_new nq)) upd_same
          have tyn2 := (on.same s2).kinds (K := K)
          obtain ⟨tn, c1, c2, tyn, g1, g2, _, g3⟩ := tyn2.ex
          refine iteF ⟨_, rfl, n, .ty "int", _, _, c1, rfl, .ty "int", tyn, kit_ty g1, c1, rfl, ?_⟩
          cases c1 with
          | false =>
            have e : nuB (loOf k) n = false := by
              cases n with
              | int i => cases g3
              | _ => rfl
            exact iteT ⟨_, rfl, n, dn, rfl, shn.dp, shn.sh, shn.dep, shn.sz, (by show 2 ≤ sizeLine; decide), kn e⟩
          | true =>
            refine iteF ⟨_, rfl, n, .ty "bool", _, _, c2, rfl, .ty "bool", tyn, kit_ty g2, c2, rfl, ?_⟩
            cases c2 with
            | true =>
              have e : nuB (loOf k) n = false := by
                cases n with
                | int i => cases g3
                | _ => rfl
              exact iteT ⟨_, rfl, n, dn, rfl, shn.dp, shn.sh, shn.dep, shn.sz, (by show 2 ≤ sizeLine; decide), kn e⟩
            | false =>
              obtain ⟨i, rfl⟩ : ∃ i, n = .int i := by
                cases n with
                | int i => exact ⟨i, rfl⟩
                | _ => cases g3
              have hl0 : ∀ (lo : Int), lo = loOf k → (if decide (V.str (wordOf k) = V.str "ahead") = true then (1 : Int) else 0) = lo := fun lo e => by
                subst e
                cases k with
                | bk => rw [decide_eq_false (fun z => absurd (V.str.inj z) (by decide +kernel))]; rfl
                | ah => rw [decide_eq_true (show V.str (wordOf .ah) = V.str "ahead" from rfl)]; rfl
                | _ => cases hk
              refine iteF ⟨_, rfl, rfl, .inr ⟨_, rfl, _, rfl, _, _, rfl, rfl, _, rfl, ?_⟩⟩
              rw [hl0 _ rfl]
              by_cases c : loOf k ≤ i
              · rw [decide_eq_true c]
                refine iteT ⟨_, _, rfl, rfl, _, rfl, ?_⟩
                by_cases c60 : i ≤ 60
                · rw [decide_eq_true c60]
                  exact iteT (k2 hn (fun _ => by show (decide (loOf k ≤ i) && decide (i ≤ 60)) = true; rw [decide_eq_true c, decide_eq_true c60]; rfl) _ s2)
                · rw [decide_eq_false c60]
                  have e : nuB (loOf k) (.int i) = false := by show (decide (loOf k ≤ i) && decide (i ≤ 60)) = false; rw [decide_eq_false c60, Bool.and_false]
                  exact iteF ⟨_, rfl, _, dn, rfl, shn.dp, shn.sh, shn.dep, shn.sz, (by show 2 ≤ sizeLine; decide), kn e⟩
              · rw [decide_eq_false c]
                have e : nuB (loOf k) (.int i) = false := by show (decide (loOf k ≤ i) && decide (i ≤ 60)) = false; rw [decide_eq_false c]; rfl
                refine iteF ⟨_, rfl, iteF ⟨_, rfl, _, dn, rfl, shn.dp, shn.sh, shn.dep, shn.sz, (by show 2 ≤ sizeLine; decide), kn e⟩⟩
end
end My
namespace My
open PySem PySem.Spec PyProof.Rows L2
section
variable {P : Program} {w : World} {K : PySem.W.Frag} {mg : Str → Option Value} {base : Heap} {C fWhole fBetw fDay fChk fName : Addr} {G : Kd → Addr} {cT cN fTI fNI cBN fBN cBU fBU : Addr} {dBN dBU : FuncData}
def spLine : Sp := fun vs H Q _ => ∃ (t : Addr) (k : Kd) (n : Int) (x : Str), vs = [.ref t] ∧ H t = some (.tup [.str (wordOf k), numV k n, .str x]) ∧ NameOk x ∧ NumOk k n ∧ ∀ H', Same H H' → Q (.str (lineT k n x)) H'
theorem scLine : FnScope ["_law_plain_here"] ["_law_plain_here"] (defScope sLine) := ⟨rfl, rfl, rfl, by decide +kernel, rfl, by decide +kernel, by decide +kernel⟩
theorem ok_line {f : Addr} {fd : FuncData} (F : Fun K "_law_line" "_law_line" sLine f fd) (T : Txt K mg C fWhole fBetw fDay fChk) : FnOk P w K mg base CX0 1 f fd ["_law_plain_here"] spLine := by
  refine F.ok scLine (fun vs H Q E h => ?_) (fun cdv A outer s H vs Q E hr h => ?_)
  · obtain ⟨t, k, n, x, rfl, _⟩ := h
    rfl
  · obtain ⟨t, k, n, x, rfl, ht, nm, ok, kk⟩ := h
    refine ⟨_, pss_one (ps_ret (pe_join pe_str (pe_op op_cat (pe_op op_cat (pe_lst (pa_cons (pe_ix ix_tup (pv 0) pe_int (fun _ _ => rfl)) pa_nil))
        (pe_ifExp (pt_cmp (pc_notN (pe_ix ix_tup (pv 0) pe_int (fun _ _ => rfl)))) (pe_lst (pa_cons (pe_callTy call_str_int (by rfl) T.zStr (by decide +kernel) (pa_cons (pe_ix ix_tup (pv 0) pe_int (fun _ _ => rfl)) pa_nil)) pa_nil)) (pe_lst pa_nil)))
        (pe_lst (pa_cons (pe_ix ix_tup (pv 0) pe_int (fun _ _ => rfl)) pa_nil))))), ?_⟩
    have w0 : ([.str (wordOf k), numV k n, .str x] : List V)[0]? = some (.str (wordOf k)) := rfl
    have w1 : ([.str (wordOf k), numV k n, .str x] : List V)[1]? = some (numV k n) := rfl
    have w2 : ([.str (wordOf k), numV k n, .str x] : List V)[2]? = some (.str x) := rfl
    have lw := word_len k
    have lx := nm.len
    refine ⟨⟨_, rfl⟩, _, rfl, t, _, _, _, rfl, rfl, SqT.of ht, atI_nat (j := 0) w0, (by show 1 ≤ sizeLine; decide), fun a na => ?_⟩
    have s1 := same_new (o := .lst [.str (wordOf k)]) na
    have ha := upd_same (H := H) (a := a) (o := .lst [.str (wordOf k)])
    refine ⟨_, rfl, t, _, _, _, rfl, rfl, SqT.of (s1 _ _ ht), atI_nat (j := 1) w1, _, rfl, ?_⟩
    cases hk : isNum k with
    | true =>
      have hn : numV k n = .int n := by unfold numV; rw [if_pos hk]
      have ln := num_len ok.lo ok.hi
      rw [hn] at w1 ht
      rw [hn, decide_eq_false (fun z => by cases z)]
      refine iteT ⟨_, rfl, t, _, _, _, rfl, rfl, SqT.of (s1 _ _ ht), atI_nat (j := 1) w1, n, rfl, log60 ok.lo ok.hi, (by show 1 ≤ sizeLine; decide), fun b nb => ?_⟩
      have s2 := same_new (o := .lst [.str (toString n : String)]) nb
      refine ⟨a, b, _, _, rfl, rfl, s2 _ _ ha, upd_same, (by show 1 + 1 ≤ sizeLine; decide), fun c nc => ?_⟩
      have s3 := same_new (o := .lst ([.str (wordOf k)] ++ [.str (toString n : String)])) nc
      have hc := upd_same (H := upd (upd H a (.lst [.str (wordOf k)])) b (.lst [.str (toString n : String)])) (a := c) (o := .lst ([.str (wordOf k)] ++ [.str (toString n : String)]))
      refine ⟨_, rfl, t, _, _, _, rfl, rfl, SqT.of (s3 _ _ (s2 _ _ (s1 _ _ ht))), atI_nat (j := 2) w2, (by show 1 ≤ sizeLine; decide), fun d nd => ?_⟩
      have s4 := same_new (o := .lst [.str x]) nd
      refine ⟨c, d, _, _, rfl, rfl, s4 _ _ hc, upd_same, (by show 2 + 1 ≤ sizeLine; decide), fun e ne => ?_⟩
      refine ⟨" ", e, [wordOf k, (toString n : String), x], rfl, rfl, .inl (SqL.of (by rw [upd_same]; rfl)), ?_, ?_⟩
      · show (wordOf k).length + ((Str.ofString (toString n)).length + (x.length + 0)) + 3 * 1 ≤ 16777216
        omega
      · rw [line3 hk]
        exact kk _ (s1.trans (s2.trans (s3.trans (s4.trans (same_new ne)))))
    | false =>
      have hn : numV k n = .non := by unfold numV; rw [hk]; rfl
      rw [hn, decide_eq_true rfl]
      refine iteF ⟨(by show 0 ≤ sizeLine; decide), fun b nb => ?_⟩
      have s2 := same_new (o := .lst []) nb
      refine ⟨a, b, _, _, rfl, rfl, s2 _ _ ha, upd_same, (by show 1 + 0 ≤ sizeLine; decide), fun c nc => ?_⟩
      have s3 := same_new (o := .lst ([.str (wordOf k)] ++ [])) nc
      have hc := upd_same (H := upd (upd H a (.lst [.str (wordOf k)])) b (.lst [])) (a := c) (o := .lst ([.str (wordOf k)] ++ []))
      refine ⟨_, rfl, t, _, _, _, rfl, rfl, SqT.of (s3 _ _ (s2 _ _ (s1 _ _ ht))), atI_nat (j := 2) w2, (by show 1 ≤ sizeLine; decide), fun d nd => ?_⟩
      have s4 := same_new (o := .lst [.str x]) nd
      refine ⟨c, d, _, _, rfl, rfl, s4 _ _ hc, upd_same, (by show 1 + 1 ≤ sizeLine; decide), fun e ne => ?_⟩
      refine ⟨" ", e, [wordOf k, x], rfl, rfl, .inl (SqL.of (by rw [upd_same]; rfl)), ?_, ?_⟩
      · show (wordOf k).length + (x.length + 0) + 2 * 1 ≤ 16777216
        omega
      · rw [line2 hk]
        exact kk _ (s1.trans (s2.trans (s3.trans (s4.trans (same_new ne)))))
end
end My
namespace My
open PySem PySem.Spec PyProof.Rows L2
section
variable {P : Program} {w : World} {K : PySem.W.Frag} {mg : Str → Option Value} {base : Heap} {C fWhole fBetw fDay fChk fName : Addr} {G : Kd → Addr} {cT cN fTI fNI cBN fBN cBU fBU fLine : Addr} {dBN dBU dLine : FuncData} {fT : Kd → Addr} {dT : Kd → FuncData}
theorem pe_exK {X : Cx} {e : Expr} {t : Kd → TE} (h : ∀ k, PE X e (t k)) : PE X e (fun σ H Q => ∃ k, t k σ H Q) := ⟨fun pins s σ H Q I ⟨k, q⟩ => (h k).run pins s σ H Q I q⟩
/-- what stands in the list of kinds -/
def kindsV (k : Kd) : List V := [.bl (kEq k .bk), .bl (kEq k .ah), .bl (kEq k .so), .bl (kEq k .wh)] ++ [.bl (kEq k .la), .bl (kEq k .sm), .bl (isNum k)]
def wordsV : List V := [.str "back", .str "ahead", .str "sofar", .str "whole", .str "last", .str "same"]
def sameV (k : Kd) : List V := wordsV.map fun y => .bl (decide (y = .str (wordOf k)))
def bitsD (k : Kd) : List PyData := [.bool (kEq k .bk), .bool (kEq k .ah), .bool (kEq k .so), .bool (kEq k .wh), .bool (kEq k .la), .bool (kEq k .sm), .bool (isNum k)]
theorem kinds_same (k : Kd) : sameV k ++ [.bl (isNum k)] = kindsV k := by cases k <;> decide +kernel
theorem kinds_dp {H : Hp} (k : Kd) : DpAll K H (kindsV k) (bitsD k) := .cons (.bl _) (.cons (.bl _) (.cons (.bl _) (.cons (.bl _) (.cons (.bl _) (.cons (.bl _) (.cons (.bl _) .nil))))))
theorem bits_shaped (k : Kd) : SeqAt.shaped (.list (bitsD k)) = true := by cases k <;> decide +kernel
theorem bits_eqv (k : Kd) : PyData.eqv (.list (bitsD k)) (.list (bitsD k)) = true := SeqAt.eqv_refl _ (SeqAt.canLay_of_shaped (bits_shaped k))
def spRight (G : Kd → Addr) : Sp := fun vs H Q _ => ∃ (p t : Addr) (k : Kd) (n : Int) (x : Str), vs = [.ref p, .ref t] ∧ TieX G H p k n x ∧ H t = some (.tup [.str (wordOf k), numV k n, .str x]) ∧ NameOk x ∧ NumOk k n ∧ ∀ H', Same H H' → Q (.bl true) H'
theorem scRight : FnScope ["_law_made", "_law_plain_here", "_law_word", "_law_kinds", "_law_words_so", "_law_one"] ["_law_made", "_law_plain_here"] (defScope sRight) := ⟨rfl, rfl, rfl, by decide +kernel, rfl, by decide +kernel, by decide +kernel⟩
/-- the six __str__ -/
structure StrT (P : Program) (w : World) (K : PySem.W.Frag) (mg : Str → Option Value) (base : Heap) (G : Kd → Addr) (fT : Kd → Addr) (dT : Kd → FuncData) : Prop where
  F : ∀ k, FnOk P w K mg base CX0 1 (fT k) (dT k) ["self"] (spStr G k)
  b : ∀ k, Binds K (dT k) ["self"] []
  at_ : ∀ k, PySem.W.findIn K (.ref (G k)) "__str__" = some (some (.ref (fT k)))
  fn : ∀ k, PySem.W.isFn K (.ref (fT k)) = true
set_option maxHeartbeats 8000000 in
theorem ok_right {f : Addr} {fd : FuncData} (F : Fun K "_law_right" "_law_right" sRight f fd) (T : Txt K mg C fWhole fBetw fDay fChk) (Y : Ty K mg G cT cN fTI fNI fName) (M : Mx K G cT cN) (ST : StrT P w K mg base G fT dT) (LN : Df P w K mg base "_law_line" 1 fLine dLine ["_law_plain_here"] spLine) :
    FnG P w K mg base CX0 4 f fd ["_law_made", "_law_plain_here"] (spRight G) := by
  refine okG F scRight (fun vs H Q E h => ?_) (fun cdv A outer s H vs Q E gd hr h => ?_)
  · obtain ⟨p, t, k, n, x, rfl, _⟩ := h
    rfl
  · obtain ⟨p, t, k, n, x, rfl, c, ht, nm, ok, kk⟩ := h
    have hr1 : Room 1 _ := hr.mono (by decide)
    have hu70 : (A.deeper (envOfC "_law_right" (defScope sRight) s.heap.objs.size f cdv)).units + 70 < cLine := by have := hr.un; omega
    refine ⟨_, pss_cons (ps_set (i := 2) scRight.nd rfl (Or.inr rfl) (pe_ix ix_tup (pv 1) pe_int (fun _ _ => rfl)))
      (pss_cons (ps_set (i := 3) scRight.nd rfl (Or.inl rfl) (pe_lst (pa_cons (pe_callB call_isi (by rfl) T.zIsi (by decide +kernel) (pa_cons (pv 0) (pa_cons (pe_glob (v := .ref (G .bk)) rfl Y.gBk rfl) pa_nil))) (pa_cons (pe_callB call_isi (by rfl) T.zIsi (by decide +kernel) (pa_cons (pv 0) (pa_cons (pe_glob (v := .ref (G .ah)) rfl Y.gAh rfl) pa_nil))) (pa_cons (pe_callB call_isi (by rfl) T.zIsi (by decide +kernel) (pa_cons (pv 0) (pa_cons (pe_glob (v := .ref (G .so)) rfl Y.gSo rfl) pa_nil))) (pa_cons (pe_callB call_isi (by rfl) T.zIsi (by decide +kernel) (pa_cons (pv 0) (pa_cons (pe_glob (v := .ref (G .wh)) rfl Y.gWh rfl) pa_nil))) pa_nil))))))
      (pss_cons (ps_set (i := 3) scRight.nd rfl (Or.inl rfl) (pe_op op_cat (pv 3) (pe_lst (pa_cons (pe_callB call_isi (by rfl) T.zIsi (by decide +kernel) (pa_cons (pv 0) (pa_cons (pe_glob (v := .ref (G .la)) rfl Y.gLa rfl) pa_nil))) (pa_cons (pe_callB call_isi (by rfl) T.zIsi (by decide +kernel) (pa_cons (pv 0) (pa_cons (pe_glob (v := .ref (G .sm)) rfl Y.gSm rfl) pa_nil))) (pa_cons (pe_callB call_isi (by rfl) T.zIsi (by decide +kernel) (pa_cons (pv 0) (pa_cons (pe_glob (v := .ref cN) rfl Y.gN rfl) pa_nil))) pa_nil))))))
      (pss_cons (ps_set (i := 4) scRight.nd rfl (Or.inl rfl) (pe_lst (pa_cons pe_str (pa_cons pe_str (pa_cons pe_str (pa_cons pe_str (pa_cons pe_str (pa_cons pe_str pa_nil))))))))
      (pss_cons (ps_if (PW.pt (pw_or (pt_cmpR (op_neD hr.units) (pv 3) (pe_op op_cat (pe_lc (own := [("_law_one", 5)]) (g := gName 5) (tt := tYes) rfl scRight.nd (pi_list (pv 4)) (blkOk_by (N := ["_law_made", "_law_plain_here", "_law_word", "_law_kinds", "_law_words_so", "_law_one"]) (sc := defScope sRight) (by decide +kernel)) (fun _ _ _ _ _ => pg_name (i := 5) scRight.nd rfl (Or.inl rfl)) (fun _ _ _ _ _ => pts_nil)
          (fun _ _ _ _ _ => pe_cmpR (r := rEq) op_eq (pv 5) (pv 2) (nomark _))) (pe_lst (pa_cons (pe_cmpR op_in_seq (pv 2) (pe_tup (pa_cons pe_str (pa_cons pe_str pa_nil))) (by rfl)) pa_nil))) (nomark _))
        (pw_or1 (pt_not (pt_val (pe_callB call_isi (by rfl) T.zIsi (by decide +kernel) (pa_cons (pv 0) (pa_cons (pe_glob (v := .ref cT) rfl Y.gT rfl) pa_nil)))))))) pss_never pss_nil)
      (pss_cons (ps_if (PW.pt (pw_and (pt_cmpR op_in_seq (pv 2) (pe_tup (pa_cons pe_str (pa_cons pe_str pa_nil))) (by rfl)) (pw_and1 (pt_cmpR op_ne (pe_callB (cr_reprO gd hu70) (by rfl) T.zRepr (by decide +kernel) (pa_cons (pe_fld (pv 0) rfl) pa_nil)) (pe_callB (cr_reprO gd hu70) (by rfl) T.zRepr (by decide +kernel) (pa_cons (pe_ix ix_tup (pv 1) pe_int (fun _ _ => rfl)) pa_nil)) (nomark _))))) pss_never pss_nil)
      (pss_one (ps_ret (pe_and (pe_cmpR op_eq (pe_fld (pv 0) rfl) (pe_ix ix_tup (pv 1) pe_int (fun _ _ => rfl)) (nomark _)) (pe_one (pe_cmpR op_eq (pe_exK fun k => pe_callTy (call_strO (ST.at_ k) (ST.fn k) ((ST.F k).raw (ST.b k) .nil) hr pass0) (by rfl) T.zStr (by decide +kernel) (pa_cons (pv 0) pa_nil)) (pe_call LN.F hr1 rfl LN.g LN.kp LN.b .nil pass0 (pa_cons (pv 1) pa_nil)) (nomark _))))))))))), ?_⟩
    have w0 : ([.str (wordOf k), numV k n, .str x] : List V)[0]? = some (.str (wordOf k)) := rfl
    have w1 : ([.str (wordOf k), numV k n, .str x] : List V)[1]? = some (numV k n) := rfl
    have w2 : ([.str (wordOf k), numV k n, .str x] : List V)[2]? = some (.str x) := rfl
    refine ⟨_, rfl, t, _, _, _, rfl, rfl, SqT.of ht, atI_nat (j := 0) w0, ?_⟩
    refine ⟨_, rfl, .ref p, .ref (G .bk), _, _, _, rfl, .own _, M.ty c, M.kk k .bk, _, rfl, .ref p, .ref (G .ah), _, _, _, rfl, .own _, M.ty c, M.kk k .ah, _, rfl, .ref p, .ref (G .so), _, _, _, rfl, .own _, M.ty c, M.kk k .so, _, rfl, .ref p, .ref (G .wh), _, _, _, rfl, .own _, M.ty c, M.kk k .wh, (by show 4 ≤ sizeLine; decide), fun a na => ?_⟩
    have s1 := same_new (o := .lst [.bl (kEq k .bk), .bl (kEq k .ah), .bl (kEq k .so), .bl (kEq k .wh)]) na
    have ha := upd_same (H := H) (a := a) (o := .lst [.bl (kEq k .bk), .bl (kEq k .ah), .bl (kEq k .so), .bl (kEq k .wh)])
    generalize upd H a (.lst [.bl (kEq k .bk), .bl (kEq k .ah), .bl (kEq k .so), .bl (kEq k .wh)]) = H1 at s1 ha ⊢
    refine ⟨_, rfl, _, rfl, .ref p, .ref (G .la), _, _, _, rfl, .own _, M.ty (c.same s1), M.kk k .la, _, rfl, .ref p, .ref (G .sm), _, _, _, rfl, .own _, M.ty (c.same s1), M.kk k .sm, _, rfl, .ref p, .ref cN, _, _, _, rfl, .own _, M.ty (c.same s1), M.kN k, (by show 3 ≤ sizeLine; decide), fun b nb => ?_⟩
    have s2 := s1.trans (same_new (o := .lst [.bl (kEq k .la), .bl (kEq k .sm), .bl (isNum k)]) nb)
    refine ⟨a, b, _, _, rfl, rfl, (same_new nb) _ _ ha, upd_same, (by show 4 + 3 ≤ sizeLine; decide), fun d nd => ?_⟩
    have s3 := s2.trans (same_new (o := .lst (kindsV k)) nd)
    have hd := upd_same (H := upd H1 b (.lst [.bl (kEq k .la), .bl (kEq k .sm), .bl (isNum k)])) (a := d) (o := .lst (kindsV k))
    change tSeq _ _ _ _ (upd (upd H1 b (.lst [.bl (kEq k .la), .bl (kEq k .sm), .bl (isNum k)])) d (.lst (kindsV k)))
    generalize upd (upd H1 b (.lst [.bl (kEq k .la), .bl (kEq k .sm), .bl (isNum k)])) d (.lst (kindsV k)) = H2 at s3 hd ⊢
    clear s2 ha s1 nb nd na
    refine ⟨(by show 6 ≤ sizeLine; decide), fun l nl => ?_⟩
    have s4 := s3.trans (same_new (o := .lst wordsV) nl)
    have hl := upd_same (H := H2) (a := l) (o := .lst wordsV)
    have hd1 := (same_new (o := .lst wordsV) nl) _ _ hd
    change tSeq _ _ _ _ (upd H2 l (.lst wordsV))
    generalize upd H2 l (.lst wordsV) = H3 at s4 hl hd1 ⊢
    clear s3 hd nl
    refine ⟨_, rfl, _, rfl, l, rfl, ⟨_, SqL.of hl⟩, fun D hD => ?_⟩
    refine lc_list (K := K) (a := l) (xs := wordsV) (fun i H' => H' D = some (.lst ((sameV k).take i)) ∧ ∀ b o, b ≠ D → H3 b = some o → H' b = some o) ⟨upd_same, fun b o nb e => by rw [upd_ne nb]; exact e⟩ (fun i H' _ ⟨_, q⟩ => SqL.of (q _ _ (ne_of_none hl hD) hl)) ?_ ?_
    · rintro i y H' hy ⟨hD', q⟩
      refine ⟨rfl, ?_⟩
      unfold tYes
      dsimp only
      rw [if_pos rfl]
      have hi : i < 6 := (List.getElem?_eq_some_iff.mp hy).1
      have hb : (sameV k)[i]? = some (.bl (decide (y = .str (wordOf k)))) := by
        show (wordsV.map _)[i]? = _
        rw [List.getElem?_map, hy]
        rfl
      have sc : scal y (.str (wordOf k)) = true := by
        have := List.mem_of_getElem? hy
        simp only [wordsV, List.mem_cons, List.not_mem_nil, or_false] at this
        rcases this with rfl | rfl | rfl | rfl | rfl | rfl <;> rfl
      refine ⟨_, rfl, _, rfl, sc, _, hD', ?_, ?_, fun b o nb e => ?_⟩
      · exact Nat.lt_of_le_of_lt (List.length_take_le _ _) (Nat.lt_of_lt_of_le (show i < 7 by omega) (by decide))
      · rw [upd_same, List.take_succ, hb]
        rfl
      · rw [upd_ne nb]
        exact q b o nb e
    · rintro H4 ⟨hD', q⟩
      have e6 : (sameV k).take wordsV.length = sameV k := by
        rw [List.take_of_length_le]
        show (wordsV.map _).length ≤ wordsV.length
        rw [List.length_map]
        exact Nat.le_refl _
      rw [e6] at hD'
      have sC : Same H3 H4 := fun b o e => q b o (ne_of_none e hD) e
      have s5 := s4.trans sC
      have hd2 := sC _ _ hd1
      clear hd1 q
      refine ⟨_, rfl, (by show 2 ≤ sizeLine; decide), fun u nu => ?_⟩
      have s6 := same_new (o := .tup [.str "back", .str "ahead"]) nu
      refine ⟨u, _, rfl, .inr (SqT.of upd_same), rfl, by rfl, ?_⟩
      have ein : (if false = true then !inV (.str (wordOf k)) [.str "back", .str "ahead"] else inV (.str (wordOf k)) [.str "back", .str "ahead"]) = isNum k := in_two k
      rw [ein]
      refine ⟨(by show 1 ≤ sizeLine; decide), fun e ne => ?_⟩
      have s7 := s6.trans (same_new (o := .lst [.bl (isNum k)]) ne)
      refine ⟨D, e, _, _, rfl, rfl, s7 _ _ hD', upd_same, (by show 6 + 1 ≤ sizeLine; decide), fun g ng => ?_⟩
      rw [kinds_same k]
      have s8 := s7.trans (same_new (o := .lst (kindsV k)) ng)
      have hg := upd_same (H := upd (upd H4 u (.tup [.str "back", .str "ahead"])) e (.lst [.bl (isNum k)])) (a := g) (o := .lst (kindsV k))
      have hd3 := s8 _ _ hd2
      have s9 := s5.trans s8
      generalize upd (upd (upd H4 u (.tup [.str "back", .str "ahead"])) e (.lst [.bl (isNum k)])) g (.lst (kindsV k)) = H5 at hg hd3 s9 ⊢
      clear s8 s7 s6 hD' sC s5 hd2 nu ne ng hl s4
      refine ⟨_, _, .lst (SqL.of hd3) (kinds_dp k), .lst (SqL.of hg) (kinds_dp k), bits_shaped k, bits_shaped k, _, rfl, ?_⟩
      rw [bits_eqv k]
      refine iteF ⟨_, rfl, .ref p, .ref cT, _, _, true, rfl, .own _, M.ty (c.same s9), M.kT k, _, rfl, iteF ?_⟩
      refine ⟨_, rfl, (by show 2 ≤ sizeLine; decide), fun u nu => ?_⟩
      have sA := s9.trans (same_new (o := .tup [.str "back", .str "ahead"]) nu)
      refine ⟨u, _, rfl, .inr (SqT.of upd_same), rfl, by rfl, _, rfl, ?_⟩
      generalize upd H5 u (.tup [.str "back", .str "ahead"]) = H6 at sA ⊢
      rw [in_two k]
      obtain ⟨dn, on⟩ := ok.av H6
      have shn := on.shows (K := K)
      have c6 := c.same sA
      obtain ⟨dx, hp⟩ := c6.ob
      have ht6 := sA _ _ ht
      cases hk : isNum k with
      | true =>
        refine iteT ⟨_, rfl, p, G k, dx, _, _, rfl, hp, Y.cl k, Y.nN k, tflV_num hk _ _, numV k n, dn, rfl, shn.dp, shn.sh, shn.dep, shn.sz, _, rfl, t, _, _, _, rfl, rfl, SqT.of ht6, atI_nat (j := 1) w1, numV k n, dn, rfl, shn.dp, shn.sh, shn.dep, shn.sz, rfl, _, rfl, ?_⟩
        rw [decide_eq_true rfl]
        refine iteF ⟨_, rfl, p, G k, dx, _, _, rfl, hp, Y.cl k, Y.nS k, tflV_src _ _ _, _, rfl, t, _, _, _, rfl, rfl, SqT.of ht6, atI_nat (j := 2) w2, rfl, _, rfl, ?_⟩
        rw [decide_eq_true rfl]
        refine iteT ⟨k, _, rfl, p, dx, _, rfl, hp, p, n, x, rfl, c6, nm, ok, _, rfl, _, rfl, t, k, n, x, rfl, ht6, nm, ok, fun H7 s7 => ⟨rfl, ?_⟩⟩
        rw [decide_eq_true rfl]
        exact kk _ (sA.trans s7)
      | false =>
        refine iteF ⟨_, rfl, p, G k, dx, _, _, rfl, hp, Y.cl k, Y.nS k, tflV_src _ _ _, _, rfl, t, _, _, _, rfl, rfl, SqT.of ht6, atI_nat (j := 2) w2, rfl, _, rfl, ?_⟩
        rw [decide_eq_true rfl]
        refine iteT ⟨k, _, rfl, p, dx, _, rfl, hp, p, n, x, rfl, c6, nm, ok, _, rfl, _, rfl, t, k, n, x, rfl, ht6, nm, ok, fun H7 s7 => ⟨rfl, ?_⟩⟩
        rw [decide_eq_true rfl]
        exact kk _ (sA.trans s7)
end
end My
namespace My
open PySem PySem.Spec PyProof.Rows L2
abbrev sLaw : Stmt := top 39
theorem opr_ex {X : Cx} {c : Value → Value → Sem Value} {r : Kd → R2} (h : ∀ k, OpR X c (r k)) : OpR X c (fun x y H Q => ∃ k, r k x y H Q) := fun pins s σ H x y v u Q I rx ry ⟨k, q⟩ => h k pins s σ H x y v u Q I rx ry q
section
variable {X : Cx} {CX : CXT} {k : Nat} {f : Addr} {fd : FuncData} {ps : List Str} {sp : Sp} {E : XK} {x : Str} {e : Expr} {es : List Expr} {t : TA} {p pos : Pos}
/-- x(e, ..) of a def that is called while no repr is under way -/
def tCallG (sp : Sp) (E : XK) (t : TA) : TE := fun σ H Q => t σ H fun vs H1 => sp vs H1 Q E
theorem pe_callG (F : FnG X.prog X.w X.K X.mg X.base CX k f fd ps sp) (gd : X.A.guards = some []) (hr : Room k X.A) (hg : Gl X x) (hm : X.mg x = some (.ref f)) (hk : PySem.W.keepIn X.K (.ref f) = true) (hb : Binds X.K fd ps []) (hx : Passes CX X E) (ha : PA X (e :: es) t)
    (hdb : (x == ("__debug__" : Str)) = false := by decide) (he : starEach (e :: es) X.env = (false, eval e X.env) :: starEach es X.env := by rfl) (hpl : (backTo pos (starEach es X.env)).any (·.1) = false := by rfl) : PE X (.Call (.Name x p) (e :: es) [] pos) (tCallG sp E t) := by
  refine ⟨fun pins s σ H Q I h => wpAny_Call_Name_kw (ld_glob I hg hm (PySem.W.callWith_K (h₀ := X.base) I.ok.mod.kin hk (thn (ha.run pos pins s σ H _ I h) fun us s1 z => ?_) he hpl) hdb)⟩
  obtain ⟨vs, H1, I1, r, q⟩ := z
  refine ⟨I1.kIn, wpAny_call (codeAny_mono (F.run X.A X.stack s1 H1 ⟨us, []⟩ us vs Q E gd hr I1.env0 ?_ r q) fun res s2 hq => ?_)⟩
  · have hl : (us ++ []).length = ps.length := by
      rw [List.append_nil, ← r.length]
      exact F.len _ _ _ _ q
    have := hb s1 us I1.kIn hl
    rw [List.append_nil] at this
    exact this
  · match res, hq with
    | .error e, hq => exact hx pins σ H1 s1 e s2 I1 hq
    | .ok (.ret u), hq => exact I1.after hq
    | .ok .next, hq => exact hq.elim
    | .ok .brk, hq => exact hq.elim
    | .ok .cont, hq => exact hq.elim
end
/-- the six __eq__ -/
structure EqT (P : Program) (w : World) (K : PySem.W.Frag) (mg : Str → Option Value) (base : Heap) (G : Kd → Addr) (fE : Kd → Addr) (dE : Kd → FuncData) : Prop where
  F : ∀ k, FnOk P w K mg base CX0 1 (fE k) (dE k) ["self", "other"] (spEq K G k)
  b : ∀ k, Binds K (dE k) ["self", "other"] []
  eo : ∀ k, EqO K (G k) (fE k)
  no : ∀ k, NeO K (G k) (fE k)
def spLawT (K : PySem.W.Frag) (Pt : Addr) : Sp := fun vs H Q _ => ∃ (a : Addr) (ns : List Int), vs = [.ref a] ∧ H Pt = some (.tbl #[]) ∧ SqL K H a (ns.map V.int) ∧ ns.length ≤ 63 ∧ ∀ H', Q (.bl true) H'
theorem tabs_but {T : List (Addr × Str)} {H H' : Hp} {L : Addr} {xs : List V} (t : LamX.Tabs T H) (s : SameBut L H H') (hL : H L = some (.lst xs)) : LamX.Tabs T H' := fun q hq => by
  obtain ⟨ps, h1, h2, h3⟩ := t q hq
  refine ⟨ps, s _ _ (ne_of h1 hL (by intro z; cases z)) h1, h2, fun pos cv hc => ?_⟩
  obtain ⟨c, e1, e2⟩ := h3 pos cv hc
  exact ⟨c, e1, s _ _ (ne_of e2 hL (by intro z; unfold LamX.CodeO at z; cases z)) e2⟩
theorem tabs_same {T : List (Addr × Str)} {H H' : Hp} (t : LamX.Tabs T H) (s : Same H H') : LamX.Tabs T H' := t.ext s
theorem ext_same {H H' : Hp} (s : Same H H') : LamX.ExtN H H' := .of s
theorem pen_ext {H H' : Hp} {p l : Addr} {N : Int} (h : PenAt H p l N) (s : LamX.ExtN H H') : PenAt H' p l N := by
  obtain ⟨ms, n, c, e1, e2, z⟩ := h.ex
  exact ⟨ms, n, c, s _ _ e1 (fun _ q => by cases q), s _ _ e2 (fun _ q => by cases q), z⟩
theorem pen_new {H : Hp} {p l : Addr} {N : Int} (pen : PenAt H p l N) {q : Addr} (hq : H q = none) : q ≠ p := let ⟨_, e⟩ := pen.lst; Ne.symm (ne_of_none e hq)
/-- the labels at b, the pen, the table -/
structure OkW (Pt : Addr) (q : Str) (b p l : Addr) (H : Hp) (N : Int) : Prop where
  li : H b = some (.lst (six.map V.str))
  nb : b ≠ p
  pen : PenAt H p l N
  tb : LamX.Tabs [(Pt, q)] H
theorem OkW.ext {Pt : Addr} {q : Str} {b p l : Addr} {H H' : Hp} {N : Int} (o : OkW Pt q b p l H N) (s : LamX.ExtN H H') (t : LamX.Tabs [(Pt, q)] H') : OkW Pt q b p l H' N := ⟨s _ _ o.li (fun _ q => by cases q), o.nb, pen_ext o.pen s, t⟩
theorem OkW.same {Pt : Addr} {q : Str} {b p l : Addr} {H H' : Hp} {N : Int} (o : OkW Pt q b p l H N) (s : Same H H') : OkW Pt q b p l H' N := o.ext (ext_same s) (tabs_same o.tb s)
theorem OkW.but {Pt : Addr} {q : Str} {b p l : Addr} {H H' : Hp} {N M : Int} (o : OkW Pt q b p l H N) (s : SameBut p H H') (pn : PenAt H' p l M) : OkW Pt q b p l H' M := ⟨s _ _ o.nb o.li, o.nb, pn, let ⟨_, e⟩ := o.pen.lst; tabs_but o.tb s e⟩
theorem OkW.le {Pt : Addr} {q : Str} {b p l : Addr} {H : Hp} {N M : Int} (o : OkW Pt q b p l H N) (z : N ≤ M) : OkW Pt q b p l H M := ⟨o.li, o.nb, o.pen.le z, o.tb⟩
theorem OkW.tup {Pt : Addr} {q : Str} {b p l t : Addr} {H H' : Hp} {N : Int} {xs : List V} (o : OkW Pt q b p l H N) (s : SameBut p H H') (h : H t = some (.tup xs)) : H' t = some (.tup xs) := let ⟨_, e⟩ := o.pen.lst; s _ _ (ne_of h e (by intro z; cases z)) h
def kd3 (k : Kd) (n : Int) (x : Str) : List V := [.str (wordOf k), numV k n, .str x]
/-- a tuple that tells a tie -/
structure PlAt (H : Hp) (t : Addr) (k : Kd) (n : Int) (x : Str) : Prop where
  h : H t = some (.tup (kd3 k n x))
  nm : NameOk x
  ok : NumOk k n
theorem PlAt.same {H H' : Hp} {t : Addr} {k : Kd} {n : Int} {x : Str} (o : PlAt H t k n x) (s : Same H H') : PlAt H' t k n x := ⟨s _ _ o.h, o.nm, o.ok⟩
theorem PlAt.ext {H H' : Hp} {t : Addr} {k : Kd} {n : Int} {x : Str} (o : PlAt H t k n x) (s : LamX.ExtN H H') : PlAt H' t k n x := ⟨s _ _ o.h (fun _ q => by cases q), o.nm, o.ok⟩
theorem PlAt.but {H H' : Hp} {p l t : Addr} {N : Int} {k : Kd} {n : Int} {x : Str} (o : PlAt H t k n x) (pn : PenAt H p l N) (s : SameBut p H H') : PlAt H' t k n x := ⟨let ⟨_, e⟩ := pn.lst; s _ _ (ne_of o.h e (by intro z; cases z)) o.h, o.nm, o.ok⟩
theorem pair_shaped {a b : Str} (ha : PyData.strOk a = true) (hb : PyData.strOk b = true) : SeqAt.shaped (.tuple [.str a, .str b]) = true := by
  show (PyData.canLay0 _ && decide (PyData.depth _ ≤ 64)) = true
  rw [Bool.and_eq_true, decide_eq_true_eq]
  refine ⟨?_, ?_⟩
  · simp only [PyData.canLay0, PyData.canLayAll0, ha, hb, Bool.and_self]
  · simp only [PyData.depth, PyData.depthAll]
    omega
theorem lab_six {x : Str} (h : NameOk x) : LabOk (.str x) := ⟨fun y e => by
  cases e
  rw [h.nb, List.contains_iff_mem]
  exact h.mem⟩
theorem kll : kitB "list" "list" = some true := by decide +kernel
theorem word_inj {k j : Kd} (h : wordOf k = wordOf j) : k = j := by
  cases k <;> cases j <;> first | rfl | exact absurd h (by decide +kernel)
def numD (k : Kd) (n : Int) : PyData := if isNum k = true then .int n else .none
def tupD (k : Kd) (n : Int) (x : Str) : PyData := .tuple [.str (wordOf k), numD k n, .str x]
theorem dp_num {K : PySem.W.Frag} {H : Hp} (k : Kd) (n : Int) : Dp K H (numV k n) (numD k n) := by
  unfold numV numD
  split
  · exact .int n
  · exact .non
theorem dp_tup {K : PySem.W.Frag} {H : Hp} {t : Addr} {k : Kd} {n : Int} {x : Str} (h : PlAt H t k n x) : Dp K H (.ref t) (tupD k n x) := .tup (SqT.of h.h) (.cons (.str _) (.cons (dp_num k n) (.cons (.str _) .nil)))
theorem tup_shaped {k : Kd} {n : Int} {x : Str} (nm : NameOk x) : SeqAt.shaped (tupD k n x) = true := by
  have hw : PyData.strOk (wordOf k) = true := by cases k <;> exact strOk_of _
  have hn : PyData.canLay0 (numD k n) = true ∧ PyData.depth (numD k n) ≤ 4 := by
    unfold numD
    split <;> simp [PyData.canLay0, PyData.depth]
  show (PyData.canLay0 _ && decide (PyData.depth _ ≤ 64)) = true
  rw [Bool.and_eq_true, decide_eq_true_eq]
  refine ⟨?_, ?_⟩
  · simp only [tupD, PyData.canLay0, PyData.canLayAll0, hw, hn.1, nm.ok, Bool.and_self]
  · simp only [tupD, PyData.depth, PyData.depthAll]
    omega
theorem tup_eqv (k : Kd) (n : Int) (x : Str) (j : Kd) (m : Int) (y : Str) : PyData.eqv (tupD k n x) (tupD j m y) = true ↔ (j = k ∧ x = y ∧ (isNum k = true → n = m)) := by
  simp only [tupD, PyData.eqv, PyData.eqvAll, Bool.and_true, Bool.and_eq_true, beq_iff_eq]
  constructor
  · rintro ⟨h1, h2, h3⟩
    have e := word_inj h1
    subst e
    refine ⟨rfl, h3, fun hk => ?_⟩
    unfold numD at h2
    rw [if_pos hk, if_pos hk] at h2
    simpa [PyData.eqv] using h2
  · rintro ⟨rfl, rfl, h⟩
    refine ⟨rfl, ?_, rfl⟩
    unfold numD
    split
    · rename_i hk
      simp [PyData.eqv, h hk]
    · simp [PyData.eqv]
section
variable {P : Program} {w : World} {K : PySem.W.Frag} {mg : Str → Option Value} {base : Heap} {C fWhole fBetw fDay fChk fName fDraw fPick fPen fPl fTO fRi fNa fDu fHe c Pt : Addr} {G : Kd → Addr} {cT cN fTI fNI cBN fBN cBU fBU cDE fLine : Addr} {dBN dBU dDraw dPick dPen dPl dTO dRi dNa dDu dHe : FuncData} {fT fE : Kd → Addr} {dT dE : Kd → FuncData}
theorem scLaw : FnScope ["_law_script", "_law_pen_here", "_law_labels", "_law_turn", "_law_plain_here", "_law_other", "_law_made", "_law_mate", "_law_one", "_law_label", "_law_number_so", "_law_due_here", "_law_heard_here"] ["_law_script"] (defScope sLaw) := ⟨rfl, rfl, rfl, by decide +kernel, rfl, by decide +kernel, by decide +kernel⟩
set_option maxHeartbeats 8000000 in
theorem ok_law {f : Addr} {fd : FuncData} (F : Fun K "law" "law" sLaw f fd) (hc : fd.code = .ref c) (T : Txt K mg C fWhole fBetw fDay fChk) (Y : Ty K mg G cT cN fTI fNI fName) (M : Mx K G cT cN) (ST : StrT P w K mg base G fT dT) (EQ : EqT P w K mg base G fE dE) (TB : LamX.TabB base mg c Pt)
    (DP : Df P w K mg base "_law_pen" 1 fPen dPen ["_law_script"] (spPen K)) (DD : Df P w K mg base "_law_draw" 1 fDraw dDraw ["_law_pen_here", "_law_many"] spDraw)
    (DI : Df P w K mg base "_law_pick" 2 fPick dPick ["_law_pen_here", "_law_some"] spPick) (DN : Df P w K mg base "_law_plain" 3 fPl dPl ["_law_pen_here", "_law_labels"] spPlain) (DT : Df P w K mg base "_law_tie" 6 fTO dTO ["_law_plain_here"] (spTieOf G))
    (RF : FnG P w K mg base CX0 4 fRi dRi ["_law_made", "_law_plain_here"] (spRight G)) (bR : Binds K dRi ["_law_made", "_law_plain_here"] []) (kR : PySem.W.keepIn K (.ref fRi) = true) (gR : mg "_law_right" = some (.ref fRi))
    (DU : FnG P w K mg base CX0 2 fDu dDu ["_law_word", "_law_label", "_law_number_so"] spDue) (bU : Binds K dDu ["_law_word", "_law_label", "_law_number_so"] []) (kU : PySem.W.keepIn K (.ref fDu) = true) (gU : mg "_law_due" = some (.ref fDu))
    (NF : FnOk P w K mg base (L2.CX P w) 6 fNa dNa ["_law_word", "_law_label", "_law_number_so"] (spNamed G cBN cBU)) (bN : Binds K dNa ["_law_word", "_law_label", "_law_number_so"] []) (kN : PySem.W.keepIn K (.ref fNa) = true) (gN : mg "_law_named" = some (.ref fNa))
    (FH : Fun K "_law_heard" "_law_heard" sHeard fHe dHe) (bH : Binds K dHe ["_law_ask"] []) (gH : mg "_law_heard" = some (.ref fHe)) (HT : HeardT K mg cBN cBU cDE fBN fBU) : FnG P w K mg base CX0 9 f fd ["_law_script"] (spLawT K Pt) := by
  refine okGc F hc scLaw (fun vs H Q E h => ?_) (fun A outer s H vs Q E gd hr h => ?_)
  · obtain ⟨a, ns, rfl, _⟩ := h
    rfl
  · obtain ⟨a, ns, rfl, hT, hS, hlen, kk⟩ := h
    have hr1 : Room 1 _ := hr.mono (by decide)
    have hr2 : Room 2 _ := hr.mono (by decide)
    have hr3 : Room 3 _ := hr.mono (by decide)
    have hr4 : Room 4 _ := hr.mono (by decide)
    have hr6 : Room 6 _ := hr.mono (by decide)
    refine ⟨_, pss_cons (ps_set (i := 1) scLaw.nd rfl (Or.inl rfl) (pe_call DP.F hr1 rfl DP.g DP.kp DP.b .nil pass0 (pa_cons (pv 0) pa_nil)))
        (pss_cons (ps_set (i := 2) scLaw.nd rfl (Or.inl rfl) (pe_lst (pa_cons pe_str (pa_cons pe_str (pa_cons pe_str (pa_cons pe_str (pa_cons pe_str (pa_cons pe_str pa_nil))))))))
        (pss_cons (ps_for PassesOwn.never rfl (pi_range1 rfl T.zRange (pa_cons pe_int pa_nil)) (pg_name (i := 3) scLaw.nd rfl (Or.inl rfl))
        (pss_cons (ps_asg (pe_tup (pa_cons (pe_call DN.F hr3 rfl DN.g DN.kp DN.b .nil pass0 (pa_cons (pv 1) (pa_cons (pv 2) pa_nil))) (pa_cons (pe_call DN.F hr3 rfl DN.g DN.kp DN.b .nil pass0 (pa_cons (pv 1) (pa_cons (pe_slice sl_list (pv 2) po_none (po_some pe_int)) pa_nil))) pa_nil))) (pg_tup rfl (pgs_cons (pg_name (i := 4) scLaw.nd rfl (Or.inr rfl)) (pgs_cons (pg_name (i := 5) scLaw.nd rfl (Or.inl rfl)) pgs_nil))))
        (C8.pss_cut (ps_if (pt_cmpR op_eq (pe_call DD.F hr1 rfl DD.g DD.kp DD.b .nil pass0 (pa_cons (pv 1) (pa_cons pe_int pa_nil))) pe_int (nomark _)) (pss_cons (ps_set (i := 5) scLaw.nd rfl (Or.inl rfl) (pe_tup (pa_cons (pe_call DI.F hr2 rfl DI.g DI.kp DI.b .nil pass0 (pa_cons (pv 1) (pa_cons (pe_lst (pa_cons pe_str (pa_cons pe_str (pa_cons pe_str pa_nil)))) pa_nil))) (pa_cons (pe_ix ix_tup (pv 4) pe_int (fun _ _ => rfl)) (pa_cons (pe_ix ix_tup (pv 4) pe_int (fun _ _ => rfl)) pa_nil))))) (pss_one (ps_set (i := 5) scLaw.nd rfl (Or.inl rfl) (pe_tup (pa_cons (pe_ix ix_tup (pv 5) pe_int (fun _ _ => rfl)) (pa_cons (pe_ifExp (pt_cmp (pc_isN (pe_ix ix_tup (pv 5) pe_int (fun _ _ => rfl)))) pe_int (pe_ix ix_tup (pv 5) pe_int (fun _ _ => rfl))) (pa_cons (pe_ix ix_tup (pv 5) pe_int (fun _ _ => rfl)) pa_nil))))))) pss_nil)
        (C8.pss_cut (ps_if (pt_cmpR op_notIn_seq (pe_ix ix_tup (pv 5) pe_int (fun _ _ => rfl)) (pe_tup (pa_cons pe_str (pa_cons pe_str pa_nil))) (by rfl)) (pss_one (ps_set (i := 5) scLaw.nd rfl (Or.inl rfl) (pe_tup (pa_cons (pe_ix ix_tup (pv 5) pe_int (fun _ _ => rfl)) (pa_cons pe_non (pa_cons (pe_ix ix_tup (pv 5) pe_int (fun _ _ => rfl)) pa_nil)))))) pss_nil)
        (pss_cons (ps_asg (pe_tup (pa_cons (pe_call DT.F hr6 rfl DT.g DT.kp DT.b .nil pass0 (pa_cons (pv 4) pa_nil)) (pa_cons (pe_call DT.F hr6 rfl DT.g DT.kp DT.b .nil pass0 (pa_cons (pv 5) pa_nil)) pa_nil))) (pg_tup rfl (pgs_cons (pg_name (i := 6) scLaw.nd rfl (Or.inr rfl)) (pgs_cons (pg_name (i := 7) scLaw.nd rfl (Or.inl rfl)) pgs_nil))))
        (C8.pss_cut (ps_if (PW.pt (pw_or (pt_not (pt_val (pe_callG RF gd hr4 rfl gR kR bR pass0 (pa_cons (pv 6) (pa_cons (pv 4) pa_nil))))) (pw_or (pt_cmpR op_ne (pe_cmpR (opr_ex fun k => op_eqO (EQ.eo k) ((EQ.F k).raw (EQ.b k) .nil) hr2 pass0) (pv 6) (pv 7) (nomark _)) (pe_cmpR (op_eqD hr.units) (pv 4) (pv 5) (nomark _)) (nomark _)) (pw_or1 (pt_cmpR (opr_ex fun k => op_neO (EQ.no k) ((EQ.F k).raw (EQ.b k) .nil) hr2 pass0) (pv 6) (pe_call DT.F hr6 rfl DT.g DT.kp DT.b .nil pass0 (pa_cons (pv 4) pa_nil)) (nomark _)))))) pss_never pss_nil)
        (pss_cons (ps_if (pt_cmpR (op_neD hr.units) (pe_lc (own := [("_law_one", 8)]) (g := gName 8) rfl scLaw.nd (pi_list (pe_lst (pa_cons pe_non (pa_cons (pe_exK fun k => pe_callTy (call_strO (ST.at_ k) (ST.fn k) ((ST.F k).raw (ST.b k) .nil) hr3 pass0) (by rfl) T.zStr (by decide +kernel) (pa_cons (pv 6) pa_nil)) (pa_cons (pv 4) (pa_cons (pe_fld (pv 6) rfl) (pa_cons pe_int pa_nil))))))) (blkOk_by (N := ["_law_script", "_law_pen_here", "_law_labels", "_law_turn", "_law_plain_here", "_law_other", "_law_made", "_law_mate", "_law_one", "_law_label", "_law_number_so", "_law_due_here", "_law_heard_here"]) (sc := defScope sLaw) (by decide +kernel)) (fun _ _ _ _ _ => pg_name (i := 8) scLaw.nd rfl (Or.inl rfl))
          (fun _ _ _ _ _ => pts_one (pt_cmpR (r := fun x y H Q => ∃ k, rEqO K (G k) (fun vs H Q E => spEq K G k (vs ++ []) H Q E) E0 x y H Q) (opr_ex fun k => op_eqO (EQ.eo k) ((EQ.F k).raw (EQ.b k) .nil) hr2 pass0) (pv 6) (pv 8) (nomark _))) (fun _ _ _ _ _ => pv 8)) (pe_lst pa_nil) (nomark _)) pss_never pss_nil)
        (pss_cons (ps_set (i := 9) scLaw.nd rfl (Or.inr rfl) (pe_call DI.F hr2 rfl DI.g DI.kp DI.b .nil pass0 (pa_cons (pv 1) (pa_cons (pe_op op_cat (pv 2) (pe_lst (pa_cons pe_str (pa_cons pe_str (pa_cons pe_non (pa_cons pe_int (pa_cons (pe_tup (pa_cons pe_str pa_nil)) (pa_cons (pe_lst (pa_cons pe_str pa_nil)) (pa_cons pe_dnewK (pa_cons pe_str (pa_cons pe_str pa_nil))))))))))) pa_nil))))
        (pss_cons (ps_set (i := 10) scLaw.nd rfl (Or.inr rfl) (pe_call DI.F hr2 rfl DI.g DI.kp DI.b .nil pass0 (pa_cons (pv 1) (pa_cons (pe_lst (pa_cons pe_int (pa_cons pe_int (pa_cons pe_int (pa_cons pe_int (pa_cons (pe_un un_neg pe_int) (pa_cons pe_non (pa_cons pe_bl (pa_cons pe_str (pa_cons (pe_tup (pa_cons pe_int pa_nil)) (pa_cons (pe_lst (pa_cons pe_int pa_nil)) (pa_cons (pe_op op_pow pe_int pe_int) pa_nil)))))))))))) pa_nil))))
        (pss_cons (ps_par (i := 11) (j := 12) (by rfl) scLaw.nd rfl rfl (by decide) rfl rfl (pa_cons (pe_callG DU gd hr2 rfl gU kU bU pass0 (pa_cons (pe_ix ix_tup (pv 4) pe_int (fun _ _ => rfl)) (pa_cons (pv 9) (pa_cons (pv 10) pa_nil)))) (pa_cons (pe_heard (Str.ofString "law" ++ Str.ofString ".<locals>.") (by rfl) FH bH gH HT gd TB rfl hr rfl (defScope sLaw) rfl (by decide +kernel) rfl (fun _ _ _ _ _ => rfl) (fun A outer s H E f c' hr => pe_call NF (hr.mono (by decide)) rfl gN kN bN .nil (passes_call (takes_of rfl rfl rfl rfl) fun _ _ _ _ h => h) (pa_cons (pe_ix (r := rIxT K) ix_tup (pv 4) pe_int (fun _ _ => rfl)) (pa_cons (pv 9) (pa_cons (pv 10) pa_nil))))) pa_nil)) (by rfl))
        (pss_cons (ps_if (PW.pt (pw_or (PW.pt (pw_and (pt_cmp (pc_notN (pv 11))) (pw_and1 (pt_cmpR (op_neD hr.units) (pv 12) (pv 11) (nomark _))))) (pw_or1 (PW.pt (pw_and (pt_cmp (pc_isN (pv 11))) (pw_and1 (pt_not (pt_val (pe_callB call_isi (by rfl) T.zIsi (by decide +kernel) (pa_cons (pv 12) (pa_cons (pe_bltn (v := .ty "list") (by rfl) T.zList (by decide +kernel) rfl) pa_nil))))))))))) pss_never pss_nil)
        (pss_one (ps_if (PW.pt (pw_and (pt_cmp (pc_isN (pv 11))) (pw_and1 (pt_cmpR op_ne (pe_exK fun k => pe_fld (pe_ix ix_list (pv 12) pe_int (fun _ _ => rfl)) rfl) (pv 9) (nomark _))))) pss_never pss_nil)))))))))))))
        (pss_one (ps_ret pe_bl)))), ?_⟩
    refine ⟨_, rfl, a, ns, rfl, hS, hlen, fun p l H1 s1 pen0 => ?_⟩
    have tb0 : LamX.Tabs [(Pt, ((Str.ofString "law" ++ Str.ofString ".<locals>.") ++ Str.ofString "<lambda>"))] H1 := fun q hq => by
      rw [List.mem_singleton.mp hq]
      exact .nil (s1 _ _ hT)
    generalize hQ : ((Str.ofString "law" ++ Str.ofString ".<locals>.") ++ Str.ofString "<lambda>") = qq at tb0 ⊢
    refine ⟨(by show 6 ≤ sizeLine; decide), fun b nb => ?_⟩
    have o0 : OkW Pt qq b p l (upd H1 b (.lst (six.map V.str))) 0 := ⟨upd_same, pen_new pen0 nb, pen0.same (same_new nb), tabs_same tb0 (same_new nb)⟩
    refine ⟨14, rfl, by decide, by decide, for_range (lo := 0) (n := 14) (fun i σ H' => ∃ v3 v4 v5 v6 v7 v8 v9 v10 v11 v12 : Option V, σ = [some (.ref a), some (.ref p), some (.ref b), v3, v4, v5, v6, v7, v8, v9, v10, v11, v12] ∧ OkW Pt qq b p l H' (200 * i)) ⟨none, none, none, none, none, none, none, none, none, none, rfl, o0.le (by omega)⟩ ?_ ?_⟩
    · rintro i σ H2 hi ⟨v3, v4, v5, v6, v7, v8, v9, v10, v11, v12, rfl, o2⟩
      clear tb0 pen0 o0
      refine ⟨_, rfl, _, rfl, p, l, b, 200 * i, six, rfl, o2.pen, by omega, o2.li, o2.nb, by decide, by decide, (fun x hx => ⟨hx⟩), fun tp k n x H3 sb3 pen3 hp nm ok => ?_⟩
      have o3 := o2.but sb3 pen3
      have pl3 : PlAt H3 tp k n x := ⟨hp, nm, ok⟩
      clear hp pen3 sb3 o2
      refine ⟨_, rfl, _, rfl, _, rfl, b, _, rfl, SqL.of o3.li, fun q nq => ?_⟩
      have o4 := o3.same (same_new (o := .lst (cutV (six.map V.str) none (some 2))) nq)
      have pl4 := pl3.same (same_new (o := .lst (cutV (six.map V.str) none (some 2))) nq)
      refine ⟨p, l, q, 200 * i + 4, ["a", "back"], rfl, o4.pen, by omega, by rw [upd_same]; rfl, pen_new o3.pen nq, by decide, by decide, (fun x hx => ⟨by rcases List.mem_cons.mp hx with rfl | hx; (· simp [six]); (rw [List.mem_singleton.mp hx]; simp [six])⟩), fun tq k2 n2 x2 H5 sb5 pen5 hq2 nm2 ok2 => ?_⟩
      have o5 := o4.but sb5 pen5
      have pl5 := pl4.but o4.pen sb5
      have pq5 : PlAt H5 tq k2 n2 x2 := ⟨hq2, nm2, ok2⟩
      clear hq2 pen5 sb5 o4 pl4 nq pl3 o3
      refine ⟨(by show 2 ≤ sizeLine; decide), fun t0 nt0 => ⟨t0, _, rfl, SqT.of upd_same, rfl, _, _, rfl, _, _, rfl, rfl, ?_⟩⟩
      have o6 := o5.same (same_new (o := .tup [.ref tp, .ref tq]) nt0)
      have pl6 := pl5.same (same_new (o := .tup [.ref tp, .ref tq]) nt0)
      have pq6 := pq5.same (same_new (o := .tup [.ref tp, .ref tq]) nt0)
      generalize upd H5 t0 (.tup [.ref tp, .ref tq]) = H6 at o6 pl6 pq6 ⊢
      clear o5 pl5 pq5 nt0
      refine ⟨fun σ' H' => ∃ (tq : Addr) (k2 : Kd) (n2 : Int) (x2 : Str) (w2 : V), σ' = [some (.ref a), some (.ref p), some (.ref b), some (.int (0 + i)), some (.ref tp), some (.ref tq), v6, v7, v8, v9, v10, v11, v12] ∧ OkW Pt qq b p l H' (200 * i + 20) ∧ PlAt H' tp k n x ∧
        H' tq = some (.tup [.str (wordOf k2), w2, .str x2]) ∧ NameOk x2 ∧ NumOk k2 n2 ∧ (isNum k2 = true → w2 = .int n2), ?_, ?_⟩
      · refine ⟨_, rfl, p, l, _, 3, rfl, o6.pen, by decide, log_small (by decide) (by decide), by omega, fun r H7 r0 r1 sb7 pen7 => ⟨rfl, _, rfl, ?_⟩⟩
        have o7 := o6.but sb7 pen7
        have pl7 := pl6.but o6.pen sb7
        have pq7 := pq6.but o6.pen sb7
        clear o6 pl6 pq6 sb7 pen7
        by_cases er : r = 0
        · rw [decide_eq_true (congrArg V.int er)]
          refine iteT ⟨_, rfl, (by show 3 ≤ sizeLine; decide), fun q nq => ?_⟩
          have o8 := o7.same (same_new (o := .lst [.str "back", .str "sofar", .str "whole"]) nq)
          have pl8 := pl7.same (same_new (o := .lst [.str "back", .str "sofar", .str "whole"]) nq)
          refine ⟨p, l, q, _, _, rfl, o8.pen, by omega, upd_same, pen_new o7.pen nq, (by show 0 < 3; decide), (by show 3 ≤ 1000; decide), fun j v H9 hv sb9 pen9 => ?_⟩
          have o9 := o8.but sb9 pen9
          have pl9 := pl8.but o8.pen sb9
          obtain ⟨k3, rfl, hk3⟩ : ∃ k3, v = .str (wordOf k3) ∧ (k3 = .bk ∨ isNum k3 = false) := by
            have hv := List.mem_of_getElem? hv
            simp only [List.mem_cons, List.not_mem_nil, or_false] at hv
            rcases hv with rfl | rfl | rfl
            · exact ⟨.bk, rfl, .inl rfl⟩
            · exact ⟨.so, rfl, .inr rfl⟩
            · exact ⟨.wh, rfl, .inr rfl⟩
          clear hv sb9 pen9 o8 pl8 nq o7 pl7 pq7
          have w1 : (kd3 k n x)[1]? = some (numV k n) := rfl
          have w2 : (kd3 k n x)[2]? = some (.str x) := rfl
          refine ⟨_, rfl, tp, _, _, _, rfl, rfl, SqT.of pl9.h, atI_nat (j := 1) w1, _, rfl, tp, _, _, _, rfl, rfl, SqT.of pl9.h, atI_nat (j := 2) w2, (by show 3 ≤ sizeLine; decide), fun t nt => ?_⟩
          have oA := o9.same (same_new (o := .tup [.str (wordOf k3), numV k n, .str x]) nt)
          have plA := pl9.same (same_new (o := .tup [.str (wordOf k3), numV k n, .str x]) nt)
          have hA := upd_same (H := H9) (a := t) (o := .tup [.str (wordOf k3), numV k n, .str x])
          generalize upd H9 t (.tup [.str (wordOf k3), numV k n, .str x]) = HA at oA plA hA ⊢
          have y0 : ([.str (wordOf k3), numV k n, .str x] : List V)[0]? = some (.str (wordOf k3)) := rfl
          have y1 : ([.str (wordOf k3), numV k n, .str x] : List V)[1]? = some (numV k n) := rfl
          have y2 : ([.str (wordOf k3), numV k n, .str x] : List V)[2]? = some (.str x) := rfl
          refine ⟨_, rfl, t, _, _, _, rfl, rfl, SqT.of hA, atI_nat (j := 0) y0, _, rfl, t, _, _, _, rfl, rfl, SqT.of hA, atI_nat (j := 1) y1, _, rfl, ?_⟩
          have fin : ∀ (m : Int) (u : Addr), 0 ≤ m → m ≤ 60 → HA u = none → ∃ (tq : Addr) (k2 : Kd) (n2 : Int) (x2 : Str) (w2 : V), (some (V.ref u)) = some (V.ref tq) ∧ OkW Pt qq b p l (upd HA u (.tup [.str (wordOf k3), .int m, .str x])) (200 * i + 20) ∧ PlAt (upd HA u (.tup [.str (wordOf k3), .int m, .str x])) tp k n x ∧
              (upd HA u (.tup [.str (wordOf k3), .int m, .str x])) tq = some (.tup [.str (wordOf k2), w2, .str x2]) ∧ NameOk x2 ∧ NumOk k2 n2 ∧ (isNum k2 = true → w2 = .int n2) := fun m u m0 m1 nu => by
            refine ⟨u, k3, if isNum k3 = true then m else 0, x, .int m, rfl, (oA.same (same_new nu)).le (by omega), plA.same (same_new nu), upd_same, plA.nm, ⟨?_, ?_, ?_, ?_⟩, fun h => by rw [if_pos h]⟩
            · split <;> omega
            · intro e
              subst e
              rcases hk3 with h | h <;> cases h
            · split <;> omega
            · intro h
              rw [h]
              rfl
          cases hk : isNum k with
          | true =>
            have hn : numV k n = .int n := by unfold numV; rw [if_pos hk]
            rw [decide_eq_false (by rw [hn]; intro z; cases z)]
            rw [hn] at y1 y2 hA
            refine iteF ⟨_, rfl, t, _, _, _, rfl, rfl, SqT.of hA, atI_nat (j := 1) y1, _, rfl, t, _, _, _, rfl, rfl, SqT.of hA, atI_nat (j := 2) y2, (by show 3 ≤ sizeLine; decide), fun u nu => ?_⟩
            obtain ⟨tq, k2, n2, x2, w2, e, h⟩ := fin n u plA.ok.lo plA.ok.hi nu
            exact ⟨tq, k2, n2, x2, w2, by rw [← e]; rfl, h⟩
          | false =>
            have hn : numV k n = .non := by unfold numV; rw [hk]; rfl
            rw [decide_eq_true hn]
            refine iteT ⟨_, rfl, t, _, _, _, rfl, rfl, SqT.of hA, atI_nat (j := 2) y2, (by show 3 ≤ sizeLine; decide), fun u nu => ?_⟩
            obtain ⟨tq, k2, n2, x2, w2, e, h⟩ := fin 7 u (by decide) (by decide) nu
            exact ⟨tq, k2, n2, x2, w2, by rw [← e]; rfl, h⟩
        · rw [decide_eq_false (fun z => er (V.int.inj z))]
          exact iteF ⟨tq, k2, n2, x2, numV k2 n2, rfl, o7.le (by omega), pl7, pq7.h, pq7.nm, pq7.ok, fun h => by unfold numV; rw [if_pos h]⟩
      · rintro σ' H7 ⟨tq, k2, n2, x2, w2, rfl, o7, pl7, hq7, nm2, ok2, ew2⟩
        refine ⟨fun σ' H' => ∃ (tq : Addr), σ' = [some (.ref a), some (.ref p), some (.ref b), some (.int (0 + i)), some (.ref tp), some (.ref tq), v6, v7, v8, v9, v10, v11, v12] ∧ OkW Pt qq b p l H' (200 * i + 20) ∧ PlAt H' tp k n x ∧ PlAt H' tq k2 n2 x2, ?_, ?_⟩
        · have y0 : ([.str (wordOf k2), w2, .str x2] : List V)[0]? = some (.str (wordOf k2)) := rfl
          have y2 : ([.str (wordOf k2), w2, .str x2] : List V)[2]? = some (.str x2) := rfl
          refine ⟨_, rfl, tq, _, _, _, rfl, rfl, SqT.of hq7, atI_nat (j := 0) y0, (by show 2 ≤ sizeLine; decide), fun u nu => ?_⟩
          have s8 := same_new (o := .tup [.str "back", .str "ahead"]) nu
          refine ⟨u, _, rfl, .inr (SqT.of upd_same), rfl, by rfl, _, rfl, ?_⟩
          rw [in_two k2]
          have hq8 := s8 _ _ hq7
          cases hk : isNum k2 with
          | true =>
            refine iteF ⟨tq, rfl, o7.same s8, pl7.same s8, ⟨?_, nm2, ok2⟩⟩
            rw [hq8, ew2 hk]
            show _ = some (HO.tup [.str (wordOf k2), numV k2 n2, .str x2])
            unfold numV
            rw [if_pos hk]
          | false =>
            refine iteT ⟨_, rfl, tq, _, _, _, rfl, rfl, SqT.of hq8, atI_nat (j := 0) y0, _, rfl, tq, _, _, _, rfl, rfl, SqT.of hq8, atI_nat (j := 2) y2, (by show 3 ≤ sizeLine; decide), fun v nv => ⟨v, rfl, (o7.same s8).same (same_new nv), (pl7.same s8).same (same_new nv), ⟨?_, nm2, ok2⟩⟩⟩
            rw [upd_same]
            show _ = some (HO.tup [.str (wordOf k2), numV k2 n2, .str x2])
            unfold numV
            rw [hk]
            rfl
        · rintro σ' H8 ⟨tq, rfl, o8, pl8, pq8⟩
          clear hq7 o7 pl7 ew2
          refine ⟨_, rfl, tp, k, n, x, rfl, pl8.h, pl8.nm, pl8.ok, fun P1 H9 s9 c1 => ⟨_, rfl, tq, k2, n2, x2, rfl, s9 _ _ pq8.h, pq8.nm, pq8.ok, fun P2 HA sA c2 => ⟨(by show 2 ≤ sizeLine; decide), fun t0 nt0 => ⟨t0, _, rfl, SqT.of upd_same, rfl, _, _, rfl, _, _, rfl, rfl, ?_⟩⟩⟩⟩
          have sB := s9.trans (sA.trans (same_new (o := .tup [.ref P1, .ref P2]) nt0))
          have oB := o8.same sB
          have plB := pl8.same sB
          have pqB := pq8.same sB
          have c1B := c1.same (sA.trans (same_new (o := .tup [.ref P1, .ref P2]) nt0))
          have c2B := c2.same (same_new (o := .tup [.ref P1, .ref P2]) nt0)
          generalize upd HA t0 (.tup [.ref P1, .ref P2]) = HB at oB plB pqB c1B c2B ⊢
          clear sB o8 pl8 pq8 c1 c2 s9 sA nt0
          refine ⟨fun σ' H' => σ' = [some (.ref a), some (.ref p), some (.ref b), some (.int (0 + i)), some (.ref tp), some (.ref tq), some (.ref P1), some (.ref P2), v8, v9, v10, v11, v12] ∧ OkW Pt qq b p l H' (200 * i + 20) ∧ PlAt H' tp k n x ∧ TieX G H' P1 k n x, ?_, ?_⟩
          · refine ⟨_, rfl, _, rfl, P1, tp, k, n, x, rfl, c1B, plB.h, plB.nm, plB.ok, fun HC sC => ⟨_, rfl, iteF ?_⟩⟩
            have oC := oB.same sC
            have plC := plB.same sC
            have pqC := pqB.same sC
            have c1C := c1B.same sC
            have c2C := c2B.same sC
            obtain ⟨dx1, h1⟩ := c1C.ob
            have su : (Value.ref (G k2)) = .ref (G k) ∨ PySem.W.subIn K (.ref (G k2)) (.ref (G k)) = some false := by
              cases e : kEq k2 k with
              | true => exact .inl (by rw [(kEq_iff _ _).mp e])
              | false => exact .inr (M.su _ _ e)
            refine ⟨_, rfl, _, rfl, k, P1, dx1, _, _, rfl, h1, M.ty c2C, su, P1, .ref P2, n, x, rfl, c1C, .inl ⟨P2, k2, n2, x2, rfl, c2C, fun e1 e2 e3 => ⟨true, rfl, ?_⟩, fun ne => ⟨false, rfl, ?_⟩⟩⟩
            all_goals
              refine ⟨_, rfl, _, rfl, _, _, dp_tup plC, dp_tup pqC, tup_shaped plC.nm, tup_shaped pqC.nm, rfl, _, rfl, ?_⟩
            · rw [(tup_eqv k n x k2 n2 x2).mpr ⟨e1, e2, e3⟩, decide_eq_true rfl]
              refine iteF ⟨_, rfl, _, rfl, tp, k, n, x, rfl, plC.h, plC.nm, plC.ok, fun P3 HD sD c3 => ?_⟩
              obtain ⟨dx3, h3⟩ := c3.ob
              exact ⟨k, P1, P3, dx1, dx3, _, _, rfl, rfl, sD _ _ h1, h3, P1, .ref P3, n, x, rfl, c1C.same sD, .inl ⟨P3, k, n, x, rfl, c3, fun _ _ _ => ⟨true, rfl, _, rfl, iteF ⟨rfl, oC.same sD, plC.same sD, c1C.same sD⟩⟩, fun z => absurd ⟨rfl, rfl, fun _ => rfl⟩ z⟩⟩
            · rw [Bool.eq_false_iff.mpr fun z => ne ((tup_eqv k n x k2 n2 x2).mp z), decide_eq_true rfl]
              refine iteF ⟨_, rfl, _, rfl, tp, k, n, x, rfl, plC.h, plC.nm, plC.ok, fun P3 HD sD c3 => ?_⟩
              obtain ⟨dx3, h3⟩ := c3.ob
              exact ⟨k, P1, P3, dx1, dx3, _, _, rfl, rfl, sD _ _ h1, h3, P1, .ref P3, n, x, rfl, c1C.same sD, .inl ⟨P3, k, n, x, rfl, c3, fun _ _ _ => ⟨true, rfl, _, rfl, iteF ⟨rfl, oC.same sD, plC.same sD, c1C.same sD⟩⟩, fun z => absurd ⟨rfl, rfl, fun _ => rfl⟩ z⟩⟩
          · rintro σ' HC ⟨rfl, oC, plC, cC⟩
            obtain ⟨dx1, h1⟩ := cC.ob
            refine ⟨k, _, rfl, P1, dx1, _, rfl, h1, P1, n, x, rfl, cC, plC.nm, plC.ok, _, rfl, _, rfl, _, rfl, P1, G k, dx1, _, _, rfl, h1, Y.cl k, Y.nS k, tflV_src _ _ _, (by show 5 ≤ sizeLine; decide), fun L nL => ⟨L, rfl, ⟨_, SqL.of upd_same⟩, fun D hD => ?_⟩⟩
            have sL := same_new (o := .lst [.non, .str (lineT k n x), .ref tp, .str x, .int 0]) nL
            have hL := upd_same (H := HC) (a := L) (o := .lst [.non, .str (lineT k n x), .ref tp, .str x, .int 0])
            refine lc_list (K := K) (a := L) (xs := [.non, .str (lineT k n x), .ref tp, .str x, .int 0]) (fun i H' => H' D = some (.lst []) ∧ Same (upd HC L (.lst [.non, .str (lineT k n x), .ref tp, .str x, .int 0])) H') ⟨upd_same, same_new hD⟩ (fun i H' _ ⟨_, q⟩ => SqL.of (q _ _ hL)) ?_ ?_
            · rintro j y H' hy ⟨hD', q⟩
              refine ⟨rfl, ?_⟩
              have sH := sL.trans q
              have ty : ∃ t : String, TyX K H' y (.type t) ∧ PySem.W.kitOne K (.type t) (.ref (G k)) = some false ∧ PySem.W.subIn K (.type t) (.ref (G k)) = some false := by
                have hy := List.mem_of_getElem? hy
                have m1 := M.kB k
                have m2 := M.sB k
                simp only [List.mem_cons, List.not_mem_nil, or_false] at hy
                rcases hy with rfl | rfl | rfl | rfl | rfl
                · exact ⟨"NoneType", .base .non, m1.1, m2.1⟩
                · exact ⟨"str", .base (.str _), m1.2.1, m2.2.1⟩
                · exact ⟨"tuple", .base (.tup (plC.same sH).h), m1.2.2.1, m2.2.2.1⟩
                · exact ⟨"str", .base (.str _), m1.2.1, m2.2.1⟩
                · exact ⟨"int", .base (.int _), m1.2.2.2, m2.2.2.2⟩
              obtain ⟨t, ty, tk, ts⟩ := ty
              exact ⟨_, rfl, _, rfl, k, P1, dx1, _, .type t, rfl, sH _ _ h1, ty, .inr ts, P1, y, n, x, rfl, cC.same sH, .inr ⟨t, ty, tk, false, rfl, _, rfl, iteF ⟨hD', q⟩⟩⟩
            · rintro HD ⟨hD', q⟩
              refine ⟨Nat.zero_le _, fun u nu => ?_⟩
              refine ⟨_, _, .lst (SqL.of ((same_new nu) _ _ hD')) .nil, .lst (SqL.of upd_same) .nil, PySem.W.shaped_ints [], PySem.W.shaped_ints [], _, rfl, iteF ?_⟩
              have sD := sL.trans (q.trans (same_new (o := .lst []) nu))
              have oD := oC.same sD
              have plD := plC.same sD
              generalize upd HD u (.lst []) = HE at oD plD ⊢
              clear sD hD' q hL sL nL hD nu oC plC cC h1
              -- the label
              refine ⟨_, rfl, _, rfl, (by show 1 ≤ sizeLine; decide), fun t1 nt1 => ⟨(by show 1 ≤ sizeLine; decide), fun u1 nu1 => fun d1 nd1 => ⟨(by show 9 ≤ sizeLine; decide), fun q1 nq1 => ?_⟩⟩⟩
              have z1 := same_new (o := .tup [.str "a"]) nt1
              have z2 := same_new (o := .lst [.str "a"]) nu1
              have z3 := same_new (o := .dK []) nd1
              have z4 := same_new (o := .lst [.str "", .str "A", .non, .int 3, .ref t1, .ref u1, .ref d1, .str "a b", .str "aaaaaaaaa"]) nq1
              have z := z1.trans (z2.trans (z3.trans z4))
              have oE := oD.same z
              have plE := plD.same z
              have hE := upd_same (H := upd (upd (upd HE t1 (.tup [.str "a"])) u1 (.lst [.str "a"])) d1 (.dK [])) (a := q1) (o := .lst [.str "", .str "A", .non, .int 3, .ref t1, .ref u1, .ref d1, .str "a b", .str "aaaaaaaaa"])
              have gt := (z2.trans (z3.trans z4)) _ _ (upd_same (H := HE) (a := t1) (o := .tup [.str "a"]))
              have gu := (z3.trans z4) _ _ (upd_same (H := upd HE t1 (.tup [.str "a"])) (a := u1) (o := .lst [.str "a"]))
              have gd1 := z4 _ _ (upd_same (H := upd (upd HE t1 (.tup [.str "a"])) u1 (.lst [.str "a"])) (a := d1) (o := .dK []))
              have u1p : u1 ≠ p := pen_new (oD.same z1).pen nu1
              generalize upd (upd (upd (upd HE t1 (.tup [.str "a"])) u1 (.lst [.str "a"])) d1 (.dK [])) q1 (.lst [.str "", .str "A", .non, .int 3, .ref t1, .ref u1, .ref d1, .str "a b", .str "aaaaaaaaa"]) = HF at oE plE hE gt gu gd1 ⊢
              clear z z1 z2 z3 z4 nt1 nu1 nd1 nq1 oD plD
              refine ⟨b, q1, _, _, rfl, rfl, oE.li, hE, (by show 6 + 9 ≤ sizeLine; decide), fun r1 nr1 => ?_⟩
              have y1 := same_new (o := .lst (six.map V.str ++ [.str "", .str "A", .non, .int 3, .ref t1, .ref u1, .ref d1, .str "a b", .str "aaaaaaaaa"])) nr1
              have oF := oE.same y1
              have plF := plE.same y1
              refine ⟨p, l, r1, _, _, rfl, oF.pen, by omega, upd_same, pen_new oE.pen nr1, (by show 0 < 15; decide), (by show 15 ≤ 1000; decide), fun j1 lv HG hv1 sb1 pn1 => ?_⟩
              have oG := oF.but sb1 pn1
              have plG := plF.but oF.pen sb1
              have avl0 : ∃ dl, AV HG lv dl ∧ LabOk lv := by
                have hv := List.mem_of_getElem? hv1
                obtain ⟨px, hpx⟩ := oF.pen.lst
                have gt' := sb1 _ _ (ne_of (y1 _ _ gt) hpx (by intro z; cases z)) (y1 _ _ gt)
                have gu' := sb1 _ _ u1p (y1 _ _ gu)
                have gd' := sb1 _ _ (ne_of (y1 _ _ gd1) hpx (by intro z; cases z)) (y1 _ _ gd1)
                rcases List.mem_append.mp hv with h | h
                · obtain ⟨y, hy, rfl⟩ := List.mem_map.mp h
                  exact ⟨_, NameOk.av ⟨hy⟩ _, lab_six ⟨hy⟩⟩
                · simp only [List.mem_cons, List.not_mem_nil, or_false] at h
                  rcases h with rfl | rfl | rfl | rfl | rfl | rfl | rfl | rfl | rfl
                  · exact ⟨_, .str _ (by decide +kernel) (by decide +kernel) (by decide +kernel), ⟨fun y e => by cases e; decide +kernel⟩⟩
                  · exact ⟨_, .str _ (by decide +kernel) (by decide +kernel) (by decide +kernel), ⟨fun y e => by cases e; decide +kernel⟩⟩
                  · exact ⟨_, .non, ⟨fun y e => by cases e⟩⟩
                  · exact ⟨_, .int 3 (by decide), ⟨fun y e => by cases e⟩⟩
                  · exact ⟨_, .tup .a gt', ⟨fun y e => by cases e⟩⟩
                  · exact ⟨_, .lst .a gu', ⟨fun y e => by cases e⟩⟩
                  · exact ⟨_, .dct gd', ⟨fun y e => by cases e⟩⟩
                  · exact ⟨_, .str _ (by decide +kernel) (by decide +kernel) (by decide +kernel), ⟨fun y e => by cases e; decide +kernel⟩⟩
                  · exact ⟨_, .str _ (by decide +kernel) (by decide +kernel) (by decide +kernel), ⟨fun y e => by cases e; decide +kernel⟩⟩
              obtain ⟨dl, avG, lab⟩ := avl0
              clear hv1 sb1 pn1 oF plF y1 nr1 oE plE hE gt gu gd1 u1p
              -- the number
              refine ⟨_, rfl, _, rfl, (by show 1 ≤ sizeLine; decide), fun t1 nt1 => ⟨(by show 1 ≤ sizeLine; decide), fun u1 nu1 => ⟨_, _, rfl, rfl, ⟨by decide, by decide, by decide⟩, (by show 11 ≤ sizeLine; decide), fun q1 nq1 => ?_⟩⟩⟩
              have z1 := same_new (o := .tup [.int 1]) nt1
              have z2 := same_new (o := .lst [.int 1]) nu1
              have z4 := same_new (o := .lst [.int 0, .int 1, .int 60, .int 61, .int (-1), .non, .bl true, .str "1", .ref t1, .ref u1, .int (10 ^ (30 : Int).toNat)]) nq1
              have z := z1.trans (z2.trans z4)
              have oH := oG.same z
              have plH := plG.same z
              have avH := avG.same z
              have gt := (z2.trans z4) _ _ (upd_same (H := HG) (a := t1) (o := .tup [.int 1]))
              have gu := z4 _ _ (upd_same (H := upd HG t1 (.tup [.int 1])) (a := u1) (o := .lst [.int 1]))
              have u1p : u1 ≠ p := pen_new (oG.same z1).pen nu1
              have q1p : q1 ≠ p := pen_new ((oG.same z1).same z2).pen nq1
              refine ⟨p, l, q1, _, _, rfl, oH.pen, by omega, upd_same, q1p, (by show 0 < 11; decide), (by show 11 ≤ 1000; decide), fun j1 nv HI hv1 sb1 pn1 => ?_⟩
              have oL := (oH.but sb1 pn1).le (show _ ≤ 200 * ((i : Int) + 1) by omega)
              have plL := plH.but oH.pen sb1
              obtain ⟨px, hpx⟩ := oH.pen.lst
              have avl : AV HI lv dl := by
                cases avH with
                | non => exact .non
                | bl b => exact .bl b
                | int i hb => exact .int i hb
                | str z h hl hk => exact .str z h hl hk
                | tup o h => exact .tup o (sb1 _ _ (ne_of h hpx (by intro z; cases z)) h)
                | dct h => exact .dct (sb1 _ _ (ne_of h hpx (by intro z; cases z)) h)
                | @lst aa vv dd o h =>
                  refine .lst o (sb1 _ _ (fun e => ?_) h)
                  obtain ⟨ms, m1, m2, e1, _⟩ := oH.pen.ex
                  rw [e, e1] at h
                  have := congrArg List.length (HO.lst.inj (Option.some.inj h))
                  cases this
              have avn0 : ∃ dn, AV HI nv dn := by
                have hv := List.mem_of_getElem? hv1
                have gt' := sb1 _ _ (ne_of gt hpx (by intro z; cases z)) gt
                have gu' := sb1 _ _ u1p gu
                simp only [List.mem_cons, List.not_mem_nil, or_false] at hv
                rcases hv with rfl | rfl | rfl | rfl | rfl | rfl | rfl | rfl | rfl | rfl | rfl
                · exact ⟨_, .int _ (by decide)⟩
                · exact ⟨_, .int _ (by decide)⟩
                · exact ⟨_, .int _ (by decide)⟩
                · exact ⟨_, .int _ (by decide)⟩
                · exact ⟨_, .int _ (by decide)⟩
                · exact ⟨_, .non⟩
                · exact ⟨_, .bl _⟩
                · exact ⟨_, .str _ (by decide +kernel) (by decide +kernel) (by decide +kernel)⟩
                · exact ⟨_, .tup .one gt'⟩
                · exact ⟨_, .lst .one gu'⟩
                · exact ⟨_, .int _ (by decide)⟩
              obtain ⟨dn, avn⟩ := avn0
              clear hv1 sb1 pn1 oH plH avH gt gu u1p q1p z z1 z2 z4 nt1 nu1 nq1 oG plG avG hpx
              refine ⟨_, rfl, tp, _, _, _, rfl, rfl, SqT.of plL.h, atI_nat (j := 0) (show (kd3 k n x)[0]? = some (.str (wordOf k)) from rfl), _, rfl, _, rfl, k, lv, nv, dl, dn, rfl, avl, avn, lab, ?_, ?_, ?_⟩
              · intro e0 td HD sD hdd0
                exact ⟨(oL.same sD).tb, fun Ha ea ta Hb Q1 sb hQ => ⟨_, rfl, tp, _, _, _, rfl, rfl, SqT.of (((plL.same sD).ext ea).same sb).h, atI_nat (j := 0) (show (kd3 k n x)[0]? = some (.str (wordOf k)) from rfl), _, rfl, _, rfl, k, lv, nv, rfl, ⟨⟨dl, ((avl.same sD).ext ea).same sb⟩, fun _ => ⟨dn, ((avn.same sD).ext ea).same sb⟩,
                (fun e dd Hc sc hdd => ⟨dd, lv, dl, "name", .inl ⟨rfl, rfl⟩, rfl, hdd, ((((avl.same sD).ext ea).same sb).same sc).shows, fun t Hd sd ht => ⟨_, _, rfl, by
                  have hdue := sd _ _ (sc _ _ (sb _ _ (ea _ _ hdd0 fun _ q => by cases q)))
                  have shp := pair_shaped (a := "name") (b := dl.shown) (strOk_of _) avl.ok
                  refine ⟨_, rfl, _, rfl, iteT ⟨_, rfl, _, rfl, _, _, .tup (SqT.of ht) (.cons (.str _) (.cons (.str _) .nil)), .tup (SqT.of hdue) (.cons (.str _) (.cons (.str _) .nil)), shp, shp, _, rfl, ?_⟩⟩
                  rw [SeqAt.eqv_refl _ (SeqAt.canLay_of_shaped shp)]
                  refine iteF ⟨_, rfl, _, rfl, iteF ⟨_, rfl, _, rfl, iteF ?_⟩⟩
                  exact ⟨_, _, _, _, _, _, _, _, _, _, rfl, (((((oL.same sD).ext ea ta).same sb).same sc).same sd).le (by omega)⟩⟩⟩),
                (fun e => by rw [e0] at e; cases e),
                (fun e => by rw [e0] at e; cases e)⟩⟩⟩
              · intro e0 ek0 eu td HD sD hdd0
                exact ⟨(oL.same sD).tb, fun Ha ea ta Hb Q1 sb hQ => ⟨_, rfl, tp, _, _, _, rfl, rfl, SqT.of (((plL.same sD).ext ea).same sb).h, atI_nat (j := 0) (show (kd3 k n x)[0]? = some (.str (wordOf k)) from rfl), _, rfl, _, rfl, k, lv, nv, rfl, ⟨⟨dl, ((avl.same sD).ext ea).same sb⟩, fun _ => ⟨dn, ((avn.same sD).ext ea).same sb⟩,
                (fun e => by rw [e0] at e; cases e),
                (fun e ek e2 dd Hc sc hdd => ⟨dd, nv, dn, "number", .inr ⟨rfl, rfl⟩, rfl, hdd, ((((avn.same sD).ext ea).same sb).same sc).shows, fun t Hd sd ht => ⟨_, _, rfl, by
                  have hdue := sd _ _ (sc _ _ (sb _ _ (ea _ _ hdd0 fun _ q => by cases q)))
                  have shp := pair_shaped (a := "number") (b := dn.shown) (strOk_of _) avn.ok
                  refine ⟨_, rfl, _, rfl, iteT ⟨_, rfl, _, rfl, _, _, .tup (SqT.of ht) (.cons (.str _) (.cons (.str _) .nil)), .tup (SqT.of hdue) (.cons (.str _) (.cons (.str _) .nil)), shp, shp, _, rfl, ?_⟩⟩
                  rw [SeqAt.eqv_refl _ (SeqAt.canLay_of_shaped shp)]
                  refine iteF ⟨_, rfl, _, rfl, iteF ⟨_, rfl, _, rfl, iteF ?_⟩⟩
                  exact ⟨_, _, _, _, _, _, _, _, _, _, rfl, (((((oL.same sD).ext ea ta).same sb).same sc).same sd).le (by omega)⟩⟩⟩),
                (fun e z => by rw [z ek0] at eu; cases eu)⟩⟩⟩
              · intro e0 eu HD sD
                exact ⟨(oL.same sD).tb, fun Ha ea ta Hb Q1 sb hQ => ⟨_, rfl, tp, _, _, _, rfl, rfl, SqT.of (((plL.same sD).ext ea).same sb).h, atI_nat (j := 0) (show (kd3 k n x)[0]? = some (.str (wordOf k)) from rfl), _, rfl, _, rfl, k, lv, nv, rfl, ⟨⟨dl, ((avl.same sD).ext ea).same sb⟩, fun _ => ⟨dn, ((avn.same sD).ext ea).same sb⟩,
                (fun e => by rw [e0] at e; cases e),
                (fun e ek e2 => by rw [eu ek] at e2; cases e2),
                (fun e z r dx Hc sc hr0 => hQ (.ref r) Hc fun t Hd sd ht => ⟨_, _, rfl, by
                  have hr1 := sd _ _ hr0
                  have lq : ([V.ref r] : List V)[0]? = some (.ref r) := rfl
                  refine ⟨_, rfl, _, rfl, iteF ⟨_, rfl, _, rfl, iteT ⟨_, rfl, .ref t, .ty "list", _, _, true, rfl, .ty "list", .base (.lst ht), kit_ty kll, _, rfl, iteF ?_⟩⟩⟩
                  refine ⟨_, rfl, _, rfl, iteT ⟨k, _, rfl, t, _, _, _, rfl, rfl, SqL.of ht, atI_nat (j := 0) lq, r, G k, dx, _, _, rfl, hr1, Y.cl k, Y.nS k, tflV_src _ _ _, _, rfl, ?_⟩⟩
                  obtain ⟨y, rfl⟩ : ∃ y, lv = .str y := by
                    cases lv with
                    | str y => exact ⟨y, rfl⟩
                    | _ => cases e0
                  refine ⟨rfl, _, rfl, ?_⟩
                  rw [decide_eq_true rfl]
                  refine iteF ?_
                  exact ⟨_, _, _, _, _, _, _, _, _, _, rfl, (((((oL.same sD).ext ea ta).same sb).same sc).same sd).le (by omega)⟩⟩)⟩⟩⟩
    · rintro σ H2 ⟨v3, v4, v5, v6, v7, v8, v9, v10, v11, v12, rfl, o2⟩
      exact kk _
end
end My
namespace My
open PySem PySem.Spec PyProof.Rows L2
theorem kit_self {K : PySem.W.Frag} {t : Value} : PySem.W.kitOne K t t = some true := by
  unfold PySem.W.kitOne
  rw [if_pos (beq_iff_eq.mpr rfl)]
theorem kit_tyR {K : PySem.W.Frag} {t : String} {D : Addr} {b : Bool} (hd : PySem.W.hasDictIn K D = true) (ty : PySem.W.typeIn K (.ref D) = some (.type "type")) (sub : PySem.W.subIn K (.type t) (.ref D) = some b) : PySem.W.kitOne K (.type t) (.ref D) = some b := by
  unfold PySem.W.kitOne
  rw [if_neg (fun q => by cases beq_iff_eq.mp q)]
  obtain ⟨cd, hc, _⟩ := PySem.W.any_some hd
  unfold PySem.W.kitCls
  have z : ((PySem.W.clsIn K D).isSome && PySem.W.typeIn K (.ref D) == some (.type "type")) = true := by rw [hc, ty]; rfl
  simp only [z, if_true]
  exact sub
set_option maxHeartbeats 16000000 in
theorem all_mk {l : PySem.W.OpenLaw} {w : World} {K : PySem.W.Frag} {h : Heap} {mg : Str → Option Value} {fa : Addr} (X : K.In h) (G : h.Ns mainGlobals mg) (hfa : mg "law" = some (.ref fa)) (OT : OwnT K mg h "law")
    {odF0 anF0 : Option Addr} {slF0 : Array (Option Value)} {ocF0 kVF0 dcF0 pmF0 cdF0 ctF0 : Value} {fF0 : Addr}
    {odF1 anF1 : Option Addr} {slF1 : Array (Option Value)} {ocF1 kVF1 dcF1 pmF1 cdF1 ctF1 : Value} {fF1 : Addr}
    {odF2 anF2 : Option Addr} {slF2 : Array (Option Value)} {ocF2 kVF2 dcF2 pmF2 cdF2 ctF2 : Value} {fF2 : Addr}
    {odF3 anF3 : Option Addr} {slF3 : Array (Option Value)} {ocF3 kVF3 dcF3 pmF3 cdF3 ctF3 : Value} {fF3 : Addr}
    {odF4 anF4 : Option Addr} {slF4 : Array (Option Value)} {ocF4 kVF4 dcF4 pmF4 cdF4 ctF4 : Value} {fF4 : Addr}
    {odF5 anF5 : Option Addr} {slF5 : Array (Option Value)} {ocF5 kVF5 dcF5 pmF5 cdF5 ctF5 : Value} {fF5 : Addr}
    {odF6 anF6 : Option Addr} {slF6 : Array (Option Value)} {ocF6 kVF6 dcF6 pmF6 cdF6 ctF6 : Value} {fF6 : Addr}
    {odF7 anF7 : Option Addr} {slF7 : Array (Option Value)} {ocF7 kVF7 dcF7 pmF7 cdF7 ctF7 : Value} {fF7 : Addr}
    {odF8 anF8 : Option Addr} {slF8 : Array (Option Value)} {ocF8 kVF8 dcF8 pmF8 cdF8 ctF8 : Value} {fF8 : Addr}
    {odF9 anF9 : Option Addr} {slF9 : Array (Option Value)} {ocF9 kVF9 dcF9 pmF9 cdF9 ctF9 : Value} {fF9 : Addr}
    {odF10 anF10 : Option Addr} {slF10 : Array (Option Value)} {ocF10 kVF10 dcF10 pmF10 cdF10 ctF10 : Value} {fF10 : Addr}
    {odF11 anF11 : Option Addr} {slF11 : Array (Option Value)} {ocF11 kVF11 dcF11 pmF11 cdF11 ctF11 : Value} {fF11 : Addr}
    {odF12 anF12 : Option Addr} {slF12 : Array (Option Value)} {ocF12 kVF12 dcF12 pmF12 cdF12 ctF12 : Value} {fF12 : Addr}
    {odF13 anF13 : Option Addr} {slF13 : Array (Option Value)} {ocF13 kVF13 dcF13 pmF13 cdF13 ctF13 : Value} {fF13 : Addr}
    {tkMN : Tok}
    {cDE : Addr}
    {odJBN anJBN : Option Addr} {slJBN : Array (Option Value)} {ocJBN kVJBN dcJBN pmJBN cdJBN ctJBN : Value} {fJBN : Addr}
    {cBN : Addr} {nmBN qBN : Str} {NBN : Addr} {bsBN : List Value} {snBN : List Str} {subBN : List Value} {abBN : Bool} {colBN : Option Bool} {ddBN : Option Addr} {m0BN m1BN m2BN m3BN m5BN : Option Value}
    {odJBU anJBU : Option Addr} {slJBU : Array (Option Value)} {ocJBU kVJBU dcJBU pmJBU cdJBU ctJBU : Value} {fJBU : Addr}
    {cBU : Addr} {nmBU qBU : Str} {NBU : Addr} {bsBU : List Value} {snBU : List Str} {subBU : List Value} {abBU : Bool} {colBU : Option Bool} {ddBU : Option Addr} {m0BU m1BU m2BU m3BU m5BU : Option Value}
    {cT cN : Addr}
    {odTI anTI : Option Addr} {slTI : Array (Option Value)} {ocTI kVTI dcTI pmTI cdTI ctTI : Value} {fTI : Addr}
    {odNI anNI : Option Addr} {slNI : Array (Option Value)} {ocNI kVNI dcNI pmNI cdNI ctNI : Value} {fNI : Addr}
    {gBk gAh gSo gWh gLa gSm : Addr}
    {odBkI anBkI : Option Addr} {slBkI : Array (Option Value)} {ocBkI kVBkI dcBkI pmBkI cdBkI ctBkI : Value} {fBkI : Addr}
    {odBkE anBkE : Option Addr} {slBkE : Array (Option Value)} {ocBkE kVBkE dcBkE pmBkE cdBkE ctBkE : Value} {fBkE : Addr}
    {odBkT anBkT : Option Addr} {slBkT : Array (Option Value)} {ocBkT kVBkT dcBkT pmBkT cdBkT ctBkT : Value} {fBkT : Addr}
    {odAhI anAhI : Option Addr} {slAhI : Array (Option Value)} {ocAhI kVAhI dcAhI pmAhI cdAhI ctAhI : Value} {fAhI : Addr}
    {odAhE anAhE : Option Addr} {slAhE : Array (Option Value)} {ocAhE kVAhE dcAhE pmAhE cdAhE ctAhE : Value} {fAhE : Addr}
    {odAhT anAhT : Option Addr} {slAhT : Array (Option Value)} {ocAhT kVAhT dcAhT pmAhT cdAhT ctAhT : Value} {fAhT : Addr}
    {odSoI anSoI : Option Addr} {slSoI : Array (Option Value)} {ocSoI kVSoI dcSoI pmSoI cdSoI ctSoI : Value} {fSoI : Addr}
    {odSoE anSoE : Option Addr} {slSoE : Array (Option Value)} {ocSoE kVSoE dcSoE pmSoE cdSoE ctSoE : Value} {fSoE : Addr}
    {odSoT anSoT : Option Addr} {slSoT : Array (Option Value)} {ocSoT kVSoT dcSoT pmSoT cdSoT ctSoT : Value} {fSoT : Addr}
    {odWhI anWhI : Option Addr} {slWhI : Array (Option Value)} {ocWhI kVWhI dcWhI pmWhI cdWhI ctWhI : Value} {fWhI : Addr}
    {odWhE anWhE : Option Addr} {slWhE : Array (Option Value)} {ocWhE kVWhE dcWhE pmWhE cdWhE ctWhE : Value} {fWhE : Addr}
    {odWhT anWhT : Option Addr} {slWhT : Array (Option Value)} {ocWhT kVWhT dcWhT pmWhT cdWhT ctWhT : Value} {fWhT : Addr}
    {odLaI anLaI : Option Addr} {slLaI : Array (Option Value)} {ocLaI kVLaI dcLaI pmLaI cdLaI ctLaI : Value} {fLaI : Addr}
    {odLaE anLaE : Option Addr} {slLaE : Array (Option Value)} {ocLaE kVLaE dcLaE pmLaE cdLaE ctLaE : Value} {fLaE : Addr}
    {odLaT anLaT : Option Addr} {slLaT : Array (Option Value)} {ocLaT kVLaT dcLaT pmLaT cdLaT ctLaT : Value} {fLaT : Addr}
    {odSmI anSmI : Option Addr} {slSmI : Array (Option Value)} {ocSmI kVSmI dcSmI pmSmI cdSmI ctSmI : Value} {fSmI : Addr}
    {odSmE anSmE : Option Addr} {slSmE : Array (Option Value)} {ocSmE kVSmE dcSmE pmSmE cdSmE ctSmE : Value} {fSmE : Addr}
    {odSmT anSmT : Option Addr} {slSmT : Array (Option Value)} {ocSmT kVSmT dcSmT pmSmT cdSmT ctSmT : Value} {fSmT : Addr}
    {cR Pt : Addr} {eR : Value} {dR : Option Addr} {vR : Array Value} {sR : Array (Option Value)}
    (aF0 : PySem.W.nsIn K mainGlobals "is_whole" = some (some (.ref fF0)))
    (lF0 : K.lookup fF0 = some ⟨ocF0, odF0, .func (PySem.W.fnOf "is_whole" "is_whole" (defArgs sWhole) (defBody sWhole) (defScope sWhole) .none kVF0 dcF0 pmF0 anF0 cdF0 ctF0), slF0⟩)
    (cF0 : PySem.W.codeIn K cdF0 "is_whole" = true)
    (kF0 : PySem.W.keepIn K (.ref fF0) = true)
    (aF1 : PySem.W.nsIn K mainGlobals "is_between" = some (some (.ref fF1)))
    (lF1 : K.lookup fF1 = some ⟨ocF1, odF1, .func (PySem.W.fnOf "is_between" "is_between" (defArgs sBetw) (defBody sBetw) (defScope sBetw) .none kVF1 dcF1 pmF1 anF1 cdF1 ctF1), slF1⟩)
    (cF1 : PySem.W.codeIn K cdF1 "is_between" = true)
    (kF1 : PySem.W.keepIn K (.ref fF1) = true)
    (aF2 : PySem.W.nsIn K mainGlobals "is_name" = some (some (.ref fF2)))
    (lF2 : K.lookup fF2 = some ⟨ocF2, odF2, .func (PySem.W.fnOf "is_name" "is_name" (defArgs sName) (defBody sName) (defScope sName) .none kVF2 dcF2 pmF2 anF2 cdF2 ctF2), slF2⟩)
    (cF2 : PySem.W.codeIn K cdF2 "is_name" = true)
    (kF2 : PySem.W.keepIn K (.ref fF2) = true)
    (aF3 : PySem.W.nsIn K mainGlobals "_law_pen" = some (some (.ref fF3)))
    (lF3 : K.lookup fF3 = some ⟨ocF3, odF3, .func (PySem.W.fnOf "_law_pen" "_law_pen" (defArgs sPen) (defBody sPen) (defScope sPen) .none kVF3 dcF3 pmF3 anF3 cdF3 ctF3), slF3⟩)
    (cF3 : PySem.W.codeIn K cdF3 "_law_pen" = true)
    (kF3 : PySem.W.keepIn K (.ref fF3) = true)
    (aF4 : PySem.W.nsIn K mainGlobals "_law_draw" = some (some (.ref fF4)))
    (lF4 : K.lookup fF4 = some ⟨ocF4, odF4, .func (PySem.W.fnOf "_law_draw" "_law_draw" (defArgs sDraw) (defBody sDraw) (defScope sDraw) .none kVF4 dcF4 pmF4 anF4 cdF4 ctF4), slF4⟩)
    (cF4 : PySem.W.codeIn K cdF4 "_law_draw" = true)
    (kF4 : PySem.W.keepIn K (.ref fF4) = true)
    (aF5 : PySem.W.nsIn K mainGlobals "_law_pick" = some (some (.ref fF5)))
    (lF5 : K.lookup fF5 = some ⟨ocF5, odF5, .func (PySem.W.fnOf "_law_pick" "_law_pick" (defArgs sPick) (defBody sPick) (defScope sPick) .none kVF5 dcF5 pmF5 anF5 cdF5 ctF5), slF5⟩)
    (cF5 : PySem.W.codeIn K cdF5 "_law_pick" = true)
    (kF5 : PySem.W.keepIn K (.ref fF5) = true)
    (aF6 : PySem.W.nsIn K mainGlobals "_law_tie" = some (some (.ref fF6)))
    (lF6 : K.lookup fF6 = some ⟨ocF6, odF6, .func (PySem.W.fnOf "_law_tie" "_law_tie" (defArgs sTieOf) (defBody sTieOf) (defScope sTieOf) .none kVF6 dcF6 pmF6 anF6 cdF6 ctF6), slF6⟩)
    (cF6 : PySem.W.codeIn K cdF6 "_law_tie" = true)
    (kF6 : PySem.W.keepIn K (.ref fF6) = true)
    (aF7 : PySem.W.nsIn K mainGlobals "_law_plain" = some (some (.ref fF7)))
    (lF7 : K.lookup fF7 = some ⟨ocF7, odF7, .func (PySem.W.fnOf "_law_plain" "_law_plain" (defArgs sPlain) (defBody sPlain) (defScope sPlain) .none kVF7 dcF7 pmF7 anF7 cdF7 ctF7), slF7⟩)
    (cF7 : PySem.W.codeIn K cdF7 "_law_plain" = true)
    (kF7 : PySem.W.keepIn K (.ref fF7) = true)
    (aF8 : PySem.W.nsIn K mainGlobals "_law_heard" = some (some (.ref fF8)))
    (lF8 : K.lookup fF8 = some ⟨ocF8, odF8, .func (PySem.W.fnOf "_law_heard" "_law_heard" (defArgs sHeard) (defBody sHeard) (defScope sHeard) .none kVF8 dcF8 pmF8 anF8 cdF8 ctF8), slF8⟩)
    (cF8 : PySem.W.codeIn K cdF8 "_law_heard" = true)
    (kF8 : PySem.W.keepIn K (.ref fF8) = true)
    (aF9 : PySem.W.nsIn K mainGlobals "_law_line" = some (some (.ref fF9)))
    (lF9 : K.lookup fF9 = some ⟨ocF9, odF9, .func (PySem.W.fnOf "_law_line" "_law_line" (defArgs sLine) (defBody sLine) (defScope sLine) .none kVF9 dcF9 pmF9 anF9 cdF9 ctF9), slF9⟩)
    (cF9 : PySem.W.codeIn K cdF9 "_law_line" = true)
    (kF9 : PySem.W.keepIn K (.ref fF9) = true)
    (aF10 : PySem.W.nsIn K mainGlobals "_law_right" = some (some (.ref fF10)))
    (lF10 : K.lookup fF10 = some ⟨ocF10, odF10, .func (PySem.W.fnOf "_law_right" "_law_right" (defArgs sRight) (defBody sRight) (defScope sRight) .none kVF10 dcF10 pmF10 anF10 cdF10 ctF10), slF10⟩)
    (cF10 : PySem.W.codeIn K cdF10 "_law_right" = true)
    (kF10 : PySem.W.keepIn K (.ref fF10) = true)
    (aF11 : PySem.W.nsIn K mainGlobals "_law_named" = some (some (.ref fF11)))
    (lF11 : K.lookup fF11 = some ⟨ocF11, odF11, .func (PySem.W.fnOf "_law_named" "_law_named" (defArgs sNamed) (defBody sNamed) (defScope sNamed) .none kVF11 dcF11 pmF11 anF11 cdF11 ctF11), slF11⟩)
    (cF11 : PySem.W.codeIn K cdF11 "_law_named" = true)
    (kF11 : PySem.W.keepIn K (.ref fF11) = true)
    (aF12 : PySem.W.nsIn K mainGlobals "_law_due" = some (some (.ref fF12)))
    (lF12 : K.lookup fF12 = some ⟨ocF12, odF12, .func (PySem.W.fnOf "_law_due" "_law_due" (defArgs sDue) (defBody sDue) (defScope sDue) .none kVF12 dcF12 pmF12 anF12 cdF12 ctF12), slF12⟩)
    (cF12 : PySem.W.codeIn K cdF12 "_law_due" = true)
    (kF12 : PySem.W.keepIn K (.ref fF12) = true)
    (aF13 : PySem.W.nsIn K mainGlobals "law" = some (some (.ref fF13)))
    (lF13 : K.lookup fF13 = some ⟨ocF13, odF13, .func (PySem.W.fnOf "law" "law" (defArgs sLaw) (defBody sLaw) (defScope sLaw) .none kVF13 dcF13 pmF13 anF13 cdF13 ctF13), slF13⟩)
    (cF13 : PySem.W.codeIn K cdF13 "law" = true)
    (kF13 : PySem.W.keepIn K (.ref fF13) = true)
    (mn : PySem.W.nsIn K mainGlobals "MOST_NUMBER" = some (some (.int 60 tkMN)))
    (z_isinstance : PySem.W.nsIn K mainGlobals "isinstance" = some none)
    (z_int : PySem.W.nsIn K mainGlobals "int" = some none)
    (z_bool : PySem.W.nsIn K mainGlobals "bool" = some none)
    (z_str : PySem.W.nsIn K mainGlobals "str" = some none)
    (z_max : PySem.W.nsIn K mainGlobals "max" = some none)
    (z_repr : PySem.W.nsIn K mainGlobals "repr" = some none)
    (z_len : PySem.W.nsIn K mainGlobals "len" = some none)
    (z_list : PySem.W.nsIn K mainGlobals "list" = some none)
    (z_range : PySem.W.nsIn K mainGlobals "range" = some none)
    (z_abs : PySem.W.nsIn K mainGlobals "abs" = some none)
    (clsG : PySem.W.specialIn K (.builtin "object.__class__") "__get__" = some (some (.builtin "getset_descriptor.__get__")))
    (clsT : PySem.W.takesIn K (.builtin "object.__class__") = some true)
    (aDE : PySem.W.nsIn K mainGlobals "DayError" = some (some (.ref cDE)))
    (exDE : PySem.W.subIn K (.ref cDE) (.type "BaseException") = some true)
    (hdDE : PySem.W.hasDictIn K cDE = true)
    (tyDE : PySem.W.typeIn K (.ref cDE) = some (.type "type"))
    (nBN : PySem.W.nsIn K mainGlobals "BadName" = some (some (.ref cBN)))
    (xBN : K.lookup cBN = some (excClassObj nmBN qBN cBN NBN bsBN [.ref cDE, .type "ValueError", .type "Exception", .type "BaseException", .type "object"] true snBN subBN abBN colBN ddBN m0BN m1BN m2BN m3BN m5BN "ValueError.__new__"))
    (saBN : PySem.W.findIn K (.ref cBN) "__setattr__" = some (some (.builtin "object.__setattr__")))
    (exBN : PySem.W.subIn K (.ref cBN) (.type "BaseException") = some true)
    (tyBN : PySem.W.typeIn K (.ref cBN) = some (.type "type"))
    (kcBN : PySem.W.keepIn K (.ref cBN) = true)
    (aJBN : PySem.W.findIn K (.ref cBN) "__init__" = some (some (.ref fJBN)))
    (tiBN : PySem.W.typeIn K (.ref fJBN) = some (.type "function"))
    (lJBN : K.lookup fJBN = some ⟨ocJBN, odJBN, .func (PySem.W.fnOf "__init__" "BadName.__init__" (defArgs sBNI) (defBody sBNI) (defScope sBNI) .none kVJBN dcJBN pmJBN anJBN cdJBN ctJBN), slJBN⟩)
    (cJBN : PySem.W.codeIn K cdJBN "BadName.__init__" = true)
    (kJBN : PySem.W.keepIn K (.ref fJBN) = true)
    (noBN : PySem.W.findIn K (.ref cBN) "value" = some none)
    (ggBN : PySem.W.findIn K (.ref cBN) "__getattribute__" = some (some (.builtin "BaseException.__getattribute__")))
    (gtBN : PySem.W.findIn K (.ref cBN) "__getattr__" = some none)
    (hdBN : PySem.W.hasDictIn K cBN = true)
    (ccBN : PySem.W.findIn K (.ref cBN) "__class__" = some (some (.builtin "object.__class__")))
    (moBN : PySem.W.mroIn K cBN (.type "object") = some true)
    (sdBN : PySem.W.subIn K (.ref cBN) (.ref cDE) = some true)
    (nBU : PySem.W.nsIn K mainGlobals "BadNumber" = some (some (.ref cBU)))
    (xBU : K.lookup cBU = some (excClassObj nmBU qBU cBU NBU bsBU [.ref cDE, .type "ValueError", .type "Exception", .type "BaseException", .type "object"] true snBU subBU abBU colBU ddBU m0BU m1BU m2BU m3BU m5BU "ValueError.__new__"))
    (saBU : PySem.W.findIn K (.ref cBU) "__setattr__" = some (some (.builtin "object.__setattr__")))
    (exBU : PySem.W.subIn K (.ref cBU) (.type "BaseException") = some true)
    (tyBU : PySem.W.typeIn K (.ref cBU) = some (.type "type"))
    (kcBU : PySem.W.keepIn K (.ref cBU) = true)
    (aJBU : PySem.W.findIn K (.ref cBU) "__init__" = some (some (.ref fJBU)))
    (tiBU : PySem.W.typeIn K (.ref fJBU) = some (.type "function"))
    (lJBU : K.lookup fJBU = some ⟨ocJBU, odJBU, .func (PySem.W.fnOf "__init__" "BadNumber.__init__" (defArgs sBUI) (defBody sBUI) (defScope sBUI) .none kVJBU dcJBU pmJBU anJBU cdJBU ctJBU), slJBU⟩)
    (cJBU : PySem.W.codeIn K cdJBU "BadNumber.__init__" = true)
    (kJBU : PySem.W.keepIn K (.ref fJBU) = true)
    (noBU : PySem.W.findIn K (.ref cBU) "value" = some none)
    (ggBU : PySem.W.findIn K (.ref cBU) "__getattribute__" = some (some (.builtin "BaseException.__getattribute__")))
    (gtBU : PySem.W.findIn K (.ref cBU) "__getattr__" = some none)
    (hdBU : PySem.W.hasDictIn K cBU = true)
    (ccBU : PySem.W.findIn K (.ref cBU) "__class__" = some (some (.builtin "object.__class__")))
    (moBU : PySem.W.mroIn K cBU (.type "object") = some true)
    (sdBU : PySem.W.subIn K (.ref cBU) (.ref cDE) = some true)
    (sUN : PySem.W.subIn K (.ref cBU) (.ref cBN) = some false)
    (sUU : PySem.W.subIn K (.ref cBU) (.ref cBU) = some true)
    (acT : PySem.W.nsIn K mainGlobals "Tie" = some (some (.ref cT)))
    (rdcT : PySem.W.readsIn K cT (.type "type") = true)
    (gacT : PySem.W.specialIn K (.ref cT) "__getattribute__" = some (some (.builtin "type.__getattribute__")))
    (atcT : PySem.W.findCls K (.ref cT) (.type "type") "__init__" = some (.val (.ref fTI)))
    (hdcT : PySem.W.hasDictIn K cT = true)
    (tycT : PySem.W.typeIn K (.ref cT) = some (.type "type"))
    (lTI : K.lookup fTI = some ⟨ocTI, odTI, .func (PySem.W.fnOf "__init__" "Tie.__init__" (defArgs sTieI) (defBody sTieI) (defScope sTieI) .none kVTI dcTI pmTI anTI cdTI ctTI), slTI⟩)
    (cTI : PySem.W.codeIn K cdTI "Tie.__init__" = true)
    (kTI : PySem.W.keepIn K (.ref fTI) = true)
    (acN : PySem.W.nsIn K mainGlobals "Numbered" = some (some (.ref cN)))
    (rdcN : PySem.W.readsIn K cN (.type "type") = true)
    (gacN : PySem.W.specialIn K (.ref cN) "__getattribute__" = some (some (.builtin "type.__getattribute__")))
    (atcN : PySem.W.findCls K (.ref cN) (.type "type") "__init__" = some (.val (.ref fNI)))
    (hdcN : PySem.W.hasDictIn K cN = true)
    (tycN : PySem.W.typeIn K (.ref cN) = some (.type "type"))
    (lNI : K.lookup fNI = some ⟨ocNI, odNI, .func (PySem.W.fnOf "__init__" "Numbered.__init__" (defArgs sNumI) (defBody sNumI) (defScope sNumI) .none kVNI dcNI pmNI anNI cdNI ctNI), slNI⟩)
    (cNI : PySem.W.codeIn K cdNI "Numbered.__init__" = true)
    (kNI : PySem.W.keepIn K (.ref fNI) = true)
    (nBk : PySem.W.nsIn K mainGlobals "Back" = some (some (.ref gBk)))
    (pgBk : PySem.W.plainGet K gBk Str.empty = true)
    (hdBk : PySem.W.hasDictIn K gBk = true)
    (tyBk : PySem.W.typeIn K (.ref gBk) = some (.type "type"))
    (poBk : PySem.W.plainOver K gBk = true)
    (saBk : PySem.W.findIn K (.ref gBk) "__setattr__" = some (some (.builtin "object.__setattr__")))
    (mkBk : PySem.W.makesIn K gBk = true)
    (kcBk : PySem.W.keepIn K (.ref gBk) = true)
    (nSBk : PySem.W.findIn K (.ref gBk) "source" = some none)
    (nNBk : PySem.W.findIn K (.ref gBk) "number" = some none)
    (aBkI : PySem.W.findIn K (.ref gBk) "__init__" = some (some (.ref fBkI)))
    (iBkI : PySem.W.isFn K (.ref fBkI) = true)
    (lBkI : K.lookup fBkI = some ⟨ocBkI, odBkI, .func (PySem.W.fnOf "__init__" "Back.__init__" (defArgs sBkI) (defBody sBkI) (defScope sBkI) .none kVBkI dcBkI pmBkI anBkI cdBkI ctBkI), slBkI⟩)
    (cBkI : PySem.W.codeIn K cdBkI "Back.__init__" = true)
    (kBkI : PySem.W.keepIn K (.ref fBkI) = true)
    (aBkE : PySem.W.findIn K (.ref gBk) "__eq__" = some (some (.ref fBkE)))
    (iBkE : PySem.W.isFn K (.ref fBkE) = true)
    (lBkE : K.lookup fBkE = some ⟨ocBkE, odBkE, .func (PySem.W.fnOf "__eq__" "Back.__eq__" (defArgs sBkE) (defBody sBkE) (defScope sBkE) .none kVBkE dcBkE pmBkE anBkE cdBkE ctBkE), slBkE⟩)
    (cBkE : PySem.W.codeIn K cdBkE "Back.__eq__" = true)
    (kBkE : PySem.W.keepIn K (.ref fBkE) = true)
    (aBkT : PySem.W.findIn K (.ref gBk) "__str__" = some (some (.ref fBkT)))
    (iBkT : PySem.W.isFn K (.ref fBkT) = true)
    (lBkT : K.lookup fBkT = some ⟨ocBkT, odBkT, .func (PySem.W.fnOf "__str__" "Back.__str__" (defArgs sBkT) (defBody sBkT) (defScope sBkT) .none kVBkT dcBkT pmBkT anBkT cdBkT ctBkT), slBkT⟩)
    (cBkT : PySem.W.codeIn K cdBkT "Back.__str__" = true)
    (kBkT : PySem.W.keepIn K (.ref fBkT) = true)
    (ccBk : PySem.W.findIn K (.ref gBk) "__class__" = some (some (.builtin "object.__class__")))
    (moBk : PySem.W.mroIn K gBk (.type "object") = some true)
    (neBk : PySem.W.findIn K (.ref gBk) "__ne__" = some (some (.builtin "object.__ne__")))
    (sTBk : PySem.W.subIn K (.ref gBk) (.ref cT) = some true)
    (sNBk : PySem.W.subIn K (.ref gBk) (.ref cN) = some true)
    (sb0Bk : PySem.W.subIn K (.type "NoneType") (.ref gBk) = some false)
    (sb1Bk : PySem.W.subIn K (.type "str") (.ref gBk) = some false)
    (sb2Bk : PySem.W.subIn K (.type "tuple") (.ref gBk) = some false)
    (sb3Bk : PySem.W.subIn K (.type "int") (.ref gBk) = some false)
    (nAh : PySem.W.nsIn K mainGlobals "Ahead" = some (some (.ref gAh)))
    (pgAh : PySem.W.plainGet K gAh Str.empty = true)
    (hdAh : PySem.W.hasDictIn K gAh = true)
    (tyAh : PySem.W.typeIn K (.ref gAh) = some (.type "type"))
    (poAh : PySem.W.plainOver K gAh = true)
    (saAh : PySem.W.findIn K (.ref gAh) "__setattr__" = some (some (.builtin "object.__setattr__")))
    (mkAh : PySem.W.makesIn K gAh = true)
    (kcAh : PySem.W.keepIn K (.ref gAh) = true)
    (nSAh : PySem.W.findIn K (.ref gAh) "source" = some none)
    (nNAh : PySem.W.findIn K (.ref gAh) "number" = some none)
    (aAhI : PySem.W.findIn K (.ref gAh) "__init__" = some (some (.ref fAhI)))
    (iAhI : PySem.W.isFn K (.ref fAhI) = true)
    (lAhI : K.lookup fAhI = some ⟨ocAhI, odAhI, .func (PySem.W.fnOf "__init__" "Ahead.__init__" (defArgs sAhI) (defBody sAhI) (defScope sAhI) .none kVAhI dcAhI pmAhI anAhI cdAhI ctAhI), slAhI⟩)
    (cAhI : PySem.W.codeIn K cdAhI "Ahead.__init__" = true)
    (kAhI : PySem.W.keepIn K (.ref fAhI) = true)
    (aAhE : PySem.W.findIn K (.ref gAh) "__eq__" = some (some (.ref fAhE)))
    (iAhE : PySem.W.isFn K (.ref fAhE) = true)
    (lAhE : K.lookup fAhE = some ⟨ocAhE, odAhE, .func (PySem.W.fnOf "__eq__" "Ahead.__eq__" (defArgs sAhE) (defBody sAhE) (defScope sAhE) .none kVAhE dcAhE pmAhE anAhE cdAhE ctAhE), slAhE⟩)
    (cAhE : PySem.W.codeIn K cdAhE "Ahead.__eq__" = true)
    (kAhE : PySem.W.keepIn K (.ref fAhE) = true)
    (aAhT : PySem.W.findIn K (.ref gAh) "__str__" = some (some (.ref fAhT)))
    (iAhT : PySem.W.isFn K (.ref fAhT) = true)
    (lAhT : K.lookup fAhT = some ⟨ocAhT, odAhT, .func (PySem.W.fnOf "__str__" "Ahead.__str__" (defArgs sAhT) (defBody sAhT) (defScope sAhT) .none kVAhT dcAhT pmAhT anAhT cdAhT ctAhT), slAhT⟩)
    (cAhT : PySem.W.codeIn K cdAhT "Ahead.__str__" = true)
    (kAhT : PySem.W.keepIn K (.ref fAhT) = true)
    (ccAh : PySem.W.findIn K (.ref gAh) "__class__" = some (some (.builtin "object.__class__")))
    (moAh : PySem.W.mroIn K gAh (.type "object") = some true)
    (neAh : PySem.W.findIn K (.ref gAh) "__ne__" = some (some (.builtin "object.__ne__")))
    (sTAh : PySem.W.subIn K (.ref gAh) (.ref cT) = some true)
    (sNAh : PySem.W.subIn K (.ref gAh) (.ref cN) = some true)
    (sb0Ah : PySem.W.subIn K (.type "NoneType") (.ref gAh) = some false)
    (sb1Ah : PySem.W.subIn K (.type "str") (.ref gAh) = some false)
    (sb2Ah : PySem.W.subIn K (.type "tuple") (.ref gAh) = some false)
    (sb3Ah : PySem.W.subIn K (.type "int") (.ref gAh) = some false)
    (nSo : PySem.W.nsIn K mainGlobals "Sofar" = some (some (.ref gSo)))
    (pgSo : PySem.W.plainGet K gSo Str.empty = true)
    (hdSo : PySem.W.hasDictIn K gSo = true)
    (tySo : PySem.W.typeIn K (.ref gSo) = some (.type "type"))
    (poSo : PySem.W.plainOver K gSo = true)
    (saSo : PySem.W.findIn K (.ref gSo) "__setattr__" = some (some (.builtin "object.__setattr__")))
    (mkSo : PySem.W.makesIn K gSo = true)
    (kcSo : PySem.W.keepIn K (.ref gSo) = true)
    (nSSo : PySem.W.findIn K (.ref gSo) "source" = some none)
    (nNSo : PySem.W.findIn K (.ref gSo) "number" = some none)
    (aSoI : PySem.W.findIn K (.ref gSo) "__init__" = some (some (.ref fSoI)))
    (iSoI : PySem.W.isFn K (.ref fSoI) = true)
    (lSoI : K.lookup fSoI = some ⟨ocSoI, odSoI, .func (PySem.W.fnOf "__init__" "Sofar.__init__" (defArgs sSoI) (defBody sSoI) (defScope sSoI) .none kVSoI dcSoI pmSoI anSoI cdSoI ctSoI), slSoI⟩)
    (cSoI : PySem.W.codeIn K cdSoI "Sofar.__init__" = true)
    (kSoI : PySem.W.keepIn K (.ref fSoI) = true)
    (aSoE : PySem.W.findIn K (.ref gSo) "__eq__" = some (some (.ref fSoE)))
    (iSoE : PySem.W.isFn K (.ref fSoE) = true)
    (lSoE : K.lookup fSoE = some ⟨ocSoE, odSoE, .func (PySem.W.fnOf "__eq__" "Sofar.__eq__" (defArgs sSoE) (defBody sSoE) (defScope sSoE) .none kVSoE dcSoE pmSoE anSoE cdSoE ctSoE), slSoE⟩)
    (cSoE : PySem.W.codeIn K cdSoE "Sofar.__eq__" = true)
    (kSoE : PySem.W.keepIn K (.ref fSoE) = true)
    (aSoT : PySem.W.findIn K (.ref gSo) "__str__" = some (some (.ref fSoT)))
    (iSoT : PySem.W.isFn K (.ref fSoT) = true)
    (lSoT : K.lookup fSoT = some ⟨ocSoT, odSoT, .func (PySem.W.fnOf "__str__" "Sofar.__str__" (defArgs sSoT) (defBody sSoT) (defScope sSoT) .none kVSoT dcSoT pmSoT anSoT cdSoT ctSoT), slSoT⟩)
    (cSoT : PySem.W.codeIn K cdSoT "Sofar.__str__" = true)
    (kSoT : PySem.W.keepIn K (.ref fSoT) = true)
    (ccSo : PySem.W.findIn K (.ref gSo) "__class__" = some (some (.builtin "object.__class__")))
    (moSo : PySem.W.mroIn K gSo (.type "object") = some true)
    (neSo : PySem.W.findIn K (.ref gSo) "__ne__" = some (some (.builtin "object.__ne__")))
    (sTSo : PySem.W.subIn K (.ref gSo) (.ref cT) = some true)
    (sNSo : PySem.W.subIn K (.ref gSo) (.ref cN) = some false)
    (sb0So : PySem.W.subIn K (.type "NoneType") (.ref gSo) = some false)
    (sb1So : PySem.W.subIn K (.type "str") (.ref gSo) = some false)
    (sb2So : PySem.W.subIn K (.type "tuple") (.ref gSo) = some false)
    (sb3So : PySem.W.subIn K (.type "int") (.ref gSo) = some false)
    (nWh : PySem.W.nsIn K mainGlobals "Whole" = some (some (.ref gWh)))
    (pgWh : PySem.W.plainGet K gWh Str.empty = true)
    (hdWh : PySem.W.hasDictIn K gWh = true)
    (tyWh : PySem.W.typeIn K (.ref gWh) = some (.type "type"))
    (poWh : PySem.W.plainOver K gWh = true)
    (saWh : PySem.W.findIn K (.ref gWh) "__setattr__" = some (some (.builtin "object.__setattr__")))
    (mkWh : PySem.W.makesIn K gWh = true)
    (kcWh : PySem.W.keepIn K (.ref gWh) = true)
    (nSWh : PySem.W.findIn K (.ref gWh) "source" = some none)
    (nNWh : PySem.W.findIn K (.ref gWh) "number" = some none)
    (aWhI : PySem.W.findIn K (.ref gWh) "__init__" = some (some (.ref fWhI)))
    (iWhI : PySem.W.isFn K (.ref fWhI) = true)
    (lWhI : K.lookup fWhI = some ⟨ocWhI, odWhI, .func (PySem.W.fnOf "__init__" "Whole.__init__" (defArgs sWhI) (defBody sWhI) (defScope sWhI) .none kVWhI dcWhI pmWhI anWhI cdWhI ctWhI), slWhI⟩)
    (cWhI : PySem.W.codeIn K cdWhI "Whole.__init__" = true)
    (kWhI : PySem.W.keepIn K (.ref fWhI) = true)
    (aWhE : PySem.W.findIn K (.ref gWh) "__eq__" = some (some (.ref fWhE)))
    (iWhE : PySem.W.isFn K (.ref fWhE) = true)
    (lWhE : K.lookup fWhE = some ⟨ocWhE, odWhE, .func (PySem.W.fnOf "__eq__" "Whole.__eq__" (defArgs sWhE) (defBody sWhE) (defScope sWhE) .none kVWhE dcWhE pmWhE anWhE cdWhE ctWhE), slWhE⟩)
    (cWhE : PySem.W.codeIn K cdWhE "Whole.__eq__" = true)
    (kWhE : PySem.W.keepIn K (.ref fWhE) = true)
    (aWhT : PySem.W.findIn K (.ref gWh) "__str__" = some (some (.ref fWhT)))
    (iWhT : PySem.W.isFn K (.ref fWhT) = true)
    (lWhT : K.lookup fWhT = some ⟨ocWhT, odWhT, .func (PySem.W.fnOf "__str__" "Whole.__str__" (defArgs sWhT) (defBody sWhT) (defScope sWhT) .none kVWhT dcWhT pmWhT anWhT cdWhT ctWhT), slWhT⟩)
    (cWhT : PySem.W.codeIn K cdWhT "Whole.__str__" = true)
    (kWhT : PySem.W.keepIn K (.ref fWhT) = true)
    (ccWh : PySem.W.findIn K (.ref gWh) "__class__" = some (some (.builtin "object.__class__")))
    (moWh : PySem.W.mroIn K gWh (.type "object") = some true)
    (neWh : PySem.W.findIn K (.ref gWh) "__ne__" = some (some (.builtin "object.__ne__")))
    (sTWh : PySem.W.subIn K (.ref gWh) (.ref cT) = some true)
    (sNWh : PySem.W.subIn K (.ref gWh) (.ref cN) = some false)
    (sb0Wh : PySem.W.subIn K (.type "NoneType") (.ref gWh) = some false)
    (sb1Wh : PySem.W.subIn K (.type "str") (.ref gWh) = some false)
    (sb2Wh : PySem.W.subIn K (.type "tuple") (.ref gWh) = some false)
    (sb3Wh : PySem.W.subIn K (.type "int") (.ref gWh) = some false)
    (nLa : PySem.W.nsIn K mainGlobals "Last" = some (some (.ref gLa)))
    (pgLa : PySem.W.plainGet K gLa Str.empty = true)
    (hdLa : PySem.W.hasDictIn K gLa = true)
    (tyLa : PySem.W.typeIn K (.ref gLa) = some (.type "type"))
    (poLa : PySem.W.plainOver K gLa = true)
    (saLa : PySem.W.findIn K (.ref gLa) "__setattr__" = some (some (.builtin "object.__setattr__")))
    (mkLa : PySem.W.makesIn K gLa = true)
    (kcLa : PySem.W.keepIn K (.ref gLa) = true)
    (nSLa : PySem.W.findIn K (.ref gLa) "source" = some none)
    (nNLa : PySem.W.findIn K (.ref gLa) "number" = some none)
    (aLaI : PySem.W.findIn K (.ref gLa) "__init__" = some (some (.ref fLaI)))
    (iLaI : PySem.W.isFn K (.ref fLaI) = true)
    (lLaI : K.lookup fLaI = some ⟨ocLaI, odLaI, .func (PySem.W.fnOf "__init__" "Last.__init__" (defArgs sLaI) (defBody sLaI) (defScope sLaI) .none kVLaI dcLaI pmLaI anLaI cdLaI ctLaI), slLaI⟩)
    (cLaI : PySem.W.codeIn K cdLaI "Last.__init__" = true)
    (kLaI : PySem.W.keepIn K (.ref fLaI) = true)
    (aLaE : PySem.W.findIn K (.ref gLa) "__eq__" = some (some (.ref fLaE)))
    (iLaE : PySem.W.isFn K (.ref fLaE) = true)
    (lLaE : K.lookup fLaE = some ⟨ocLaE, odLaE, .func (PySem.W.fnOf "__eq__" "Last.__eq__" (defArgs sLaE) (defBody sLaE) (defScope sLaE) .none kVLaE dcLaE pmLaE anLaE cdLaE ctLaE), slLaE⟩)
    (cLaE : PySem.W.codeIn K cdLaE "Last.__eq__" = true)
    (kLaE : PySem.W.keepIn K (.ref fLaE) = true)
    (aLaT : PySem.W.findIn K (.ref gLa) "__str__" = some (some (.ref fLaT)))
    (iLaT : PySem.W.isFn K (.ref fLaT) = true)
    (lLaT : K.lookup fLaT = some ⟨ocLaT, odLaT, .func (PySem.W.fnOf "__str__" "Last.__str__" (defArgs sLaT) (defBody sLaT) (defScope sLaT) .none kVLaT dcLaT pmLaT anLaT cdLaT ctLaT), slLaT⟩)
    (cLaT : PySem.W.codeIn K cdLaT "Last.__str__" = true)
    (kLaT : PySem.W.keepIn K (.ref fLaT) = true)
    (ccLa : PySem.W.findIn K (.ref gLa) "__class__" = some (some (.builtin "object.__class__")))
    (moLa : PySem.W.mroIn K gLa (.type "object") = some true)
    (neLa : PySem.W.findIn K (.ref gLa) "__ne__" = some (some (.builtin "object.__ne__")))
    (sTLa : PySem.W.subIn K (.ref gLa) (.ref cT) = some true)
    (sNLa : PySem.W.subIn K (.ref gLa) (.ref cN) = some false)
    (sb0La : PySem.W.subIn K (.type "NoneType") (.ref gLa) = some false)
    (sb1La : PySem.W.subIn K (.type "str") (.ref gLa) = some false)
    (sb2La : PySem.W.subIn K (.type "tuple") (.ref gLa) = some false)
    (sb3La : PySem.W.subIn K (.type "int") (.ref gLa) = some false)
    (nSm : PySem.W.nsIn K mainGlobals "Same" = some (some (.ref gSm)))
    (pgSm : PySem.W.plainGet K gSm Str.empty = true)
    (hdSm : PySem.W.hasDictIn K gSm = true)
    (tySm : PySem.W.typeIn K (.ref gSm) = some (.type "type"))
    (poSm : PySem.W.plainOver K gSm = true)
    (saSm : PySem.W.findIn K (.ref gSm) "__setattr__" = some (some (.builtin "object.__setattr__")))
    (mkSm : PySem.W.makesIn K gSm = true)
    (kcSm : PySem.W.keepIn K (.ref gSm) = true)
    (nSSm : PySem.W.findIn K (.ref gSm) "source" = some none)
    (nNSm : PySem.W.findIn K (.ref gSm) "number" = some none)
    (aSmI : PySem.W.findIn K (.ref gSm) "__init__" = some (some (.ref fSmI)))
    (iSmI : PySem.W.isFn K (.ref fSmI) = true)
    (lSmI : K.lookup fSmI = some ⟨ocSmI, odSmI, .func (PySem.W.fnOf "__init__" "Same.__init__" (defArgs sSmI) (defBody sSmI) (defScope sSmI) .none kVSmI dcSmI pmSmI anSmI cdSmI ctSmI), slSmI⟩)
    (cSmI : PySem.W.codeIn K cdSmI "Same.__init__" = true)
    (kSmI : PySem.W.keepIn K (.ref fSmI) = true)
    (aSmE : PySem.W.findIn K (.ref gSm) "__eq__" = some (some (.ref fSmE)))
    (iSmE : PySem.W.isFn K (.ref fSmE) = true)
    (lSmE : K.lookup fSmE = some ⟨ocSmE, odSmE, .func (PySem.W.fnOf "__eq__" "Same.__eq__" (defArgs sSmE) (defBody sSmE) (defScope sSmE) .none kVSmE dcSmE pmSmE anSmE cdSmE ctSmE), slSmE⟩)
    (cSmE : PySem.W.codeIn K cdSmE "Same.__eq__" = true)
    (kSmE : PySem.W.keepIn K (.ref fSmE) = true)
    (aSmT : PySem.W.findIn K (.ref gSm) "__str__" = some (some (.ref fSmT)))
    (iSmT : PySem.W.isFn K (.ref fSmT) = true)
    (lSmT : K.lookup fSmT = some ⟨ocSmT, odSmT, .func (PySem.W.fnOf "__str__" "Same.__str__" (defArgs sSmT) (defBody sSmT) (defScope sSmT) .none kVSmT dcSmT pmSmT anSmT cdSmT ctSmT), slSmT⟩)
    (cSmT : PySem.W.codeIn K cdSmT "Same.__str__" = true)
    (kSmT : PySem.W.keepIn K (.ref fSmT) = true)
    (ccSm : PySem.W.findIn K (.ref gSm) "__class__" = some (some (.builtin "object.__class__")))
    (moSm : PySem.W.mroIn K gSm (.type "object") = some true)
    (neSm : PySem.W.findIn K (.ref gSm) "__ne__" = some (some (.builtin "object.__ne__")))
    (sTSm : PySem.W.subIn K (.ref gSm) (.ref cT) = some true)
    (sNSm : PySem.W.subIn K (.ref gSm) (.ref cN) = some false)
    (sb0Sm : PySem.W.subIn K (.type "NoneType") (.ref gSm) = some false)
    (sb1Sm : PySem.W.subIn K (.type "str") (.ref gSm) = some false)
    (sb2Sm : PySem.W.subIn K (.type "tuple") (.ref gSm) = some false)
    (sb3Sm : PySem.W.subIn K (.type "int") (.ref gSm) = some false)
    (sBkBk : PySem.W.subIn K (.ref gBk) (.ref gBk) = some true)
    (sBkAh : PySem.W.subIn K (.ref gBk) (.ref gAh) = some false)
    (sBkSo : PySem.W.subIn K (.ref gBk) (.ref gSo) = some false)
    (sBkWh : PySem.W.subIn K (.ref gBk) (.ref gWh) = some false)
    (sBkLa : PySem.W.subIn K (.ref gBk) (.ref gLa) = some false)
    (sBkSm : PySem.W.subIn K (.ref gBk) (.ref gSm) = some false)
    (sAhBk : PySem.W.subIn K (.ref gAh) (.ref gBk) = some false)
    (sAhAh : PySem.W.subIn K (.ref gAh) (.ref gAh) = some true)
    (sAhSo : PySem.W.subIn K (.ref gAh) (.ref gSo) = some false)
    (sAhWh : PySem.W.subIn K (.ref gAh) (.ref gWh) = some false)
    (sAhLa : PySem.W.subIn K (.ref gAh) (.ref gLa) = some false)
    (sAhSm : PySem.W.subIn K (.ref gAh) (.ref gSm) = some false)
    (sSoBk : PySem.W.subIn K (.ref gSo) (.ref gBk) = some false)
    (sSoAh : PySem.W.subIn K (.ref gSo) (.ref gAh) = some false)
    (sSoSo : PySem.W.subIn K (.ref gSo) (.ref gSo) = some true)
    (sSoWh : PySem.W.subIn K (.ref gSo) (.ref gWh) = some false)
    (sSoLa : PySem.W.subIn K (.ref gSo) (.ref gLa) = some false)
    (sSoSm : PySem.W.subIn K (.ref gSo) (.ref gSm) = some false)
    (sWhBk : PySem.W.subIn K (.ref gWh) (.ref gBk) = some false)
    (sWhAh : PySem.W.subIn K (.ref gWh) (.ref gAh) = some false)
    (sWhSo : PySem.W.subIn K (.ref gWh) (.ref gSo) = some false)
    (sWhWh : PySem.W.subIn K (.ref gWh) (.ref gWh) = some true)
    (sWhLa : PySem.W.subIn K (.ref gWh) (.ref gLa) = some false)
    (sWhSm : PySem.W.subIn K (.ref gWh) (.ref gSm) = some false)
    (sLaBk : PySem.W.subIn K (.ref gLa) (.ref gBk) = some false)
    (sLaAh : PySem.W.subIn K (.ref gLa) (.ref gAh) = some false)
    (sLaSo : PySem.W.subIn K (.ref gLa) (.ref gSo) = some false)
    (sLaWh : PySem.W.subIn K (.ref gLa) (.ref gWh) = some false)
    (sLaLa : PySem.W.subIn K (.ref gLa) (.ref gLa) = some true)
    (sLaSm : PySem.W.subIn K (.ref gLa) (.ref gSm) = some false)
    (sSmBk : PySem.W.subIn K (.ref gSm) (.ref gBk) = some false)
    (sSmAh : PySem.W.subIn K (.ref gSm) (.ref gAh) = some false)
    (sSmSo : PySem.W.subIn K (.ref gSm) (.ref gSo) = some false)
    (sSmWh : PySem.W.subIn K (.ref gSm) (.ref gWh) = some false)
    (sSmLa : PySem.W.subIn K (.ref gSm) (.ref gLa) = some false)
    (sSmSm : PySem.W.subIn K (.ref gSm) (.ref gSm) = some true)
    (eCR : cdF13 = .ref cR)
    (lR : K.lookup cR = some ⟨eR, dR, .fields vR, sR⟩)
    (pR : vR[11]? = some (.ref Pt))
    (nR : K.lookup Pt = none)
    : ∃ (fd : FuncData) (c Pt : Addr), (∀ (s : Shared) (v : Value), BindsTo s fd ⟨[v], []⟩ [("_law_script", v)]) ∧ Maker K h c Pt ∧ ∀ base : Heap, K.In base → base.Ns mainGlobals mg → LamX.TabB base mg c Pt → FnG l.prog w K mg base CX0 9 fa fd ["_law_script"] (spLawT K Pt) := by
  subst eCR
  have e := hfa.symm.trans (PySem.W.mg_of X G aF13)
  cases e
  have GF0 := PySem.W.mg_of X G aF0
  have HF0 := fun_mk (st := sWhole) lF0 cF0 kF0
  have GF1 := PySem.W.mg_of X G aF1
  have HF1 := fun_mk (st := sBetw) lF1 cF1 kF1
  have GF2 := PySem.W.mg_of X G aF2
  have HF2 := fun_mk (st := sName) lF2 cF2 kF2
  have GF3 := PySem.W.mg_of X G aF3
  have HF3 := fun_mk (st := sPen) lF3 cF3 kF3
  have GF4 := PySem.W.mg_of X G aF4
  have HF4 := fun_mk (st := sDraw) lF4 cF4 kF4
  have GF5 := PySem.W.mg_of X G aF5
  have HF5 := fun_mk (st := sPick) lF5 cF5 kF5
  have GF6 := PySem.W.mg_of X G aF6
  have HF6 := fun_mk (st := sTieOf) lF6 cF6 kF6
  have GF7 := PySem.W.mg_of X G aF7
  have HF7 := fun_mk (st := sPlain) lF7 cF7 kF7
  have GF8 := PySem.W.mg_of X G aF8
  have HF8 := fun_mk (st := sHeard) lF8 cF8 kF8
  have GF9 := PySem.W.mg_of X G aF9
  have HF9 := fun_mk (st := sLine) lF9 cF9 kF9
  have GF10 := PySem.W.mg_of X G aF10
  have HF10 := fun_mk (st := sRight) lF10 cF10 kF10
  have GF11 := PySem.W.mg_of X G aF11
  have HF11 := fun_mk (st := sNamed) lF11 cF11 kF11
  have GF12 := PySem.W.mg_of X G aF12
  have HF12 := fun_mk (st := sDue) lF12 cF12 kF12
  have GF13 := PySem.W.mg_of X G aF13
  have HF13 := fun_mk (st := sLaw) lF13 cF13 kF13
  have HJBN := fun_mk (st := sBNI) lJBN cJBN kJBN
  have HJBU := fun_mk (st := sBUI) lJBU cJBU kJBU
  have HTI := fun_mk (st := sTieI) lTI cTI kTI
  have HNI := fun_mk (st := sNumI) lNI cNI kNI
  have HBkI := fun_mk (st := sBkI) lBkI cBkI kBkI
  have HBkE := fun_mk (st := sBkE) lBkE cBkE kBkE
  have HBkT := fun_mk (st := sBkT) lBkT cBkT kBkT
  have HAhI := fun_mk (st := sAhI) lAhI cAhI kAhI
  have HAhE := fun_mk (st := sAhE) lAhE cAhE kAhE
  have HAhT := fun_mk (st := sAhT) lAhT cAhT kAhT
  have HSoI := fun_mk (st := sSoI) lSoI cSoI kSoI
  have HSoE := fun_mk (st := sSoE) lSoE cSoE kSoE
  have HSoT := fun_mk (st := sSoT) lSoT cSoT kSoT
  have HWhI := fun_mk (st := sWhI) lWhI cWhI kWhI
  have HWhE := fun_mk (st := sWhE) lWhE cWhE kWhE
  have HWhT := fun_mk (st := sWhT) lWhT cWhT kWhT
  have HLaI := fun_mk (st := sLaI) lLaI cLaI kLaI
  have HLaE := fun_mk (st := sLaE) lLaE cLaE kLaE
  have HLaT := fun_mk (st := sLaT) lLaT cLaT kLaT
  have HSmI := fun_mk (st := sSmI) lSmI cSmI kSmI
  have HSmE := fun_mk (st := sSmE) lSmE cSmE kSmE
  have HSmT := fun_mk (st := sSmT) lSmT cSmT kSmT
  have bF0 := HF0.binds (ps := ["value"]) fun _ _ _ _ _ _ us hl => match us, hl with | [_], _ => rfl
  have bF1 := HF1.binds (ps := ["value", "low", "high"]) fun _ _ _ _ _ _ us hl => match us, hl with | [_, _, _], _ => rfl
  have bF2 := HF2.binds (ps := ["value"]) fun _ _ _ _ _ _ us hl => match us, hl with | [_], _ => rfl
  have bF3 := HF3.binds (ps := ["_law_script"]) fun _ _ _ _ _ _ us hl => match us, hl with | [_], _ => rfl
  have bF4 := HF4.binds (ps := ["_law_pen_here", "_law_many"]) fun _ _ _ _ _ _ us hl => match us, hl with | [_, _], _ => rfl
  have bF5 := HF5.binds (ps := ["_law_pen_here", "_law_some"]) fun _ _ _ _ _ _ us hl => match us, hl with | [_, _], _ => rfl
  have bF6 := HF6.binds (ps := ["_law_plain_here"]) fun _ _ _ _ _ _ us hl => match us, hl with | [_], _ => rfl
  have bF7 := HF7.binds (ps := ["_law_pen_here", "_law_labels"]) fun _ _ _ _ _ _ us hl => match us, hl with | [_, _], _ => rfl
  have bF8 := HF8.binds (ps := ["_law_ask"]) fun _ _ _ _ _ _ us hl => match us, hl with | [_], _ => rfl
  have bF9 := HF9.binds (ps := ["_law_plain_here"]) fun _ _ _ _ _ _ us hl => match us, hl with | [_], _ => rfl
  have bF10 := HF10.binds (ps := ["_law_made", "_law_plain_here"]) fun _ _ _ _ _ _ us hl => match us, hl with | [_, _], _ => rfl
  have bF11 := HF11.binds (ps := ["_law_word", "_law_label", "_law_number_so"]) fun _ _ _ _ _ _ us hl => match us, hl with | [_, _, _], _ => rfl
  have bF12 := HF12.binds (ps := ["_law_word", "_law_label", "_law_number_so"]) fun _ _ _ _ _ _ us hl => match us, hl with | [_, _, _], _ => rfl
  have bJBN := HJBN.binds (ps := ["self", "value"]) fun _ _ _ _ _ _ us hl => match us, hl with | [_, _], _ => rfl
  have bJBU := HJBU.binds (ps := ["self", "value"]) fun _ _ _ _ _ _ us hl => match us, hl with | [_, _], _ => rfl
  have bTI := HTI.binds (ps := ["self", "source"]) fun _ _ _ _ _ _ us hl => match us, hl with | [_, _], _ => rfl
  have bNI := HNI.binds (ps := ["self", "number", "least"]) fun _ _ _ _ _ _ us hl => match us, hl with | [_, _, _], _ => rfl
  have bBkI := HBkI.binds (ps := ["self", "source", "number"]) fun _ _ _ _ _ _ us hl => match us, hl with | [_, _, _], _ => rfl
  have bBkE := HBkE.binds (ps := ["self", "other"]) fun _ _ _ _ _ _ us hl => match us, hl with | [_, _], _ => rfl
  have bBkT := HBkT.binds (ps := ["self"]) fun _ _ _ _ _ _ us hl => match us, hl with | [_], _ => rfl
  have bAhI := HAhI.binds (ps := ["self", "source", "number"]) fun _ _ _ _ _ _ us hl => match us, hl with | [_, _, _], _ => rfl
  have bAhE := HAhE.binds (ps := ["self", "other"]) fun _ _ _ _ _ _ us hl => match us, hl with | [_, _], _ => rfl
  have bAhT := HAhT.binds (ps := ["self"]) fun _ _ _ _ _ _ us hl => match us, hl with | [_], _ => rfl
  have bSoI := HSoI.binds (ps := ["self", "source"]) fun _ _ _ _ _ _ us hl => match us, hl with | [_, _], _ => rfl
  have bSoE := HSoE.binds (ps := ["self", "other"]) fun _ _ _ _ _ _ us hl => match us, hl with | [_, _], _ => rfl
  have bSoT := HSoT.binds (ps := ["self"]) fun _ _ _ _ _ _ us hl => match us, hl with | [_], _ => rfl
  have bWhI := HWhI.binds (ps := ["self", "source"]) fun _ _ _ _ _ _ us hl => match us, hl with | [_, _], _ => rfl
  have bWhE := HWhE.binds (ps := ["self", "other"]) fun _ _ _ _ _ _ us hl => match us, hl with | [_, _], _ => rfl
  have bWhT := HWhT.binds (ps := ["self"]) fun _ _ _ _ _ _ us hl => match us, hl with | [_], _ => rfl
  have bLaI := HLaI.binds (ps := ["self", "source"]) fun _ _ _ _ _ _ us hl => match us, hl with | [_, _], _ => rfl
  have bLaE := HLaE.binds (ps := ["self", "other"]) fun _ _ _ _ _ _ us hl => match us, hl with | [_, _], _ => rfl
  have bLaT := HLaT.binds (ps := ["self"]) fun _ _ _ _ _ _ us hl => match us, hl with | [_], _ => rfl
  have bSmI := HSmI.binds (ps := ["self", "source"]) fun _ _ _ _ _ _ us hl => match us, hl with | [_, _], _ => rfl
  have bSmE := HSmE.binds (ps := ["self", "other"]) fun _ _ _ _ _ _ us hl => match us, hl with | [_, _], _ => rfl
  have bSmT := HSmT.binds (ps := ["self"]) fun _ _ _ _ _ _ us hl => match us, hl with | [_], _ => rfl
  have T : Txt K mg 0 fF0 fF1 0 0 := ⟨GF0, GF1, PySem.W.mg_none_of X G z_isinstance, PySem.W.mg_none_of X G z_int, PySem.W.mg_none_of X G z_bool, PySem.W.mg_none_of X G z_str, PySem.W.mg_none_of X G z_max, PySem.W.mg_none_of X G z_repr, PySem.W.mg_none_of X G z_len, PySem.W.mg_none_of X G z_list, PySem.W.mg_none_of X G z_range, PySem.W.mg_none_of X G z_abs⟩
  have ZBN : ErC K mg "BadName" "value" cBN fJBN := ⟨⟨⟨_, _, _, _, _, _, _, _, _, _, _, _, _, _, _, xBN, rfl⟩, saBN, exBN, tyBN, kcBN⟩, aJBN, tiBN, PySem.W.mg_of X G nBN, noBN, ⟨ggBN, gtBN, exBN, hdBN⟩, ⟨ggBN, gtBN, exBN, hdBN, ccBN, clsG, clsT, moBN⟩⟩
  have ZBU : ErC K mg "BadNumber" "value" cBU fJBU := ⟨⟨⟨_, _, _, _, _, _, _, _, _, _, _, _, _, _, _, xBU, rfl⟩, saBU, exBU, tyBU, kcBU⟩, aJBU, tiBU, PySem.W.mg_of X G nBU, noBU, ⟨ggBU, gtBU, exBU, hdBU⟩, ⟨ggBU, gtBU, exBU, hdBU, ccBU, clsG, clsT, moBU⟩⟩
  have HT : HeardT K mg cBN cBU cDE fJBN fJBU := ⟨ZBN, ZBU, PySem.W.mg_of X G aDE, PySem.W.exm_ref exDE hdDE tyDE sdBN, PySem.W.exm_ref exDE hdDE tyDE sdBU, kit_self, kit_ref hdBN tyBN sUN sUU, kit_self, PySem.W.mg_none_of X G z_isinstance, PySem.W.mg_none_of X G z_repr⟩
  obtain ⟨tabR, codR⟩ := OT fa cR Pt _ _ eR dR vR sR GF13 lF13 rfl rfl lR pR
  refine ⟨PySem.W.fnOf "law" "law" (defArgs sLaw) (defBody sLaw) (defScope sLaw) .none kVF13 dcF13 pmF13 anF13 (.ref cR) ctF13, cR, Pt, fun s v => .of_eq rfl, ⟨tabR, nR, codR⟩, fun base _ _ TB => ?_⟩
  let GG : Kd → Addr := fun k => match k with
    | .bk => gBk
    | .ah => gAh
    | .so => gSo
    | .wh => gWh
    | .la => gLa
    | .sm => gSm
  let fI : Kd → Addr := fun k => match k with
    | .bk => fBkI
    | .ah => fAhI
    | .so => fSoI
    | .wh => fWhI
    | .la => fLaI
    | .sm => fSmI
  let fE : Kd → Addr := fun k => match k with
    | .bk => fBkE
    | .ah => fAhE
    | .so => fSoE
    | .wh => fWhE
    | .la => fLaE
    | .sm => fSmE
  let fT : Kd → Addr := fun k => match k with
    | .bk => fBkT
    | .ah => fAhT
    | .so => fSoT
    | .wh => fWhT
    | .la => fLaT
    | .sm => fSmT
  let dI : Kd → FuncData := fun k => match k with
    | .bk => PySem.W.fnOf "__init__" "Back.__init__" (defArgs sBkI) (defBody sBkI) (defScope sBkI) .none kVBkI dcBkI pmBkI anBkI cdBkI ctBkI
    | .ah => PySem.W.fnOf "__init__" "Ahead.__init__" (defArgs sAhI) (defBody sAhI) (defScope sAhI) .none kVAhI dcAhI pmAhI anAhI cdAhI ctAhI
    | .so => PySem.W.fnOf "__init__" "Sofar.__init__" (defArgs sSoI) (defBody sSoI) (defScope sSoI) .none kVSoI dcSoI pmSoI anSoI cdSoI ctSoI
    | .wh => PySem.W.fnOf "__init__" "Whole.__init__" (defArgs sWhI) (defBody sWhI) (defScope sWhI) .none kVWhI dcWhI pmWhI anWhI cdWhI ctWhI
    | .la => PySem.W.fnOf "__init__" "Last.__init__" (defArgs sLaI) (defBody sLaI) (defScope sLaI) .none kVLaI dcLaI pmLaI anLaI cdLaI ctLaI
    | .sm => PySem.W.fnOf "__init__" "Same.__init__" (defArgs sSmI) (defBody sSmI) (defScope sSmI) .none kVSmI dcSmI pmSmI anSmI cdSmI ctSmI
  let dE : Kd → FuncData := fun k => match k with
    | .bk => PySem.W.fnOf "__eq__" "Back.__eq__" (defArgs sBkE) (defBody sBkE) (defScope sBkE) .none kVBkE dcBkE pmBkE anBkE cdBkE ctBkE
    | .ah => PySem.W.fnOf "__eq__" "Ahead.__eq__" (defArgs sAhE) (defBody sAhE) (defScope sAhE) .none kVAhE dcAhE pmAhE anAhE cdAhE ctAhE
    | .so => PySem.W.fnOf "__eq__" "Sofar.__eq__" (defArgs sSoE) (defBody sSoE) (defScope sSoE) .none kVSoE dcSoE pmSoE anSoE cdSoE ctSoE
    | .wh => PySem.W.fnOf "__eq__" "Whole.__eq__" (defArgs sWhE) (defBody sWhE) (defScope sWhE) .none kVWhE dcWhE pmWhE anWhE cdWhE ctWhE
    | .la => PySem.W.fnOf "__eq__" "Last.__eq__" (defArgs sLaE) (defBody sLaE) (defScope sLaE) .none kVLaE dcLaE pmLaE anLaE cdLaE ctLaE
    | .sm => PySem.W.fnOf "__eq__" "Same.__eq__" (defArgs sSmE) (defBody sSmE) (defScope sSmE) .none kVSmE dcSmE pmSmE anSmE cdSmE ctSmE
  let dT : Kd → FuncData := fun k => match k with
    | .bk => PySem.W.fnOf "__str__" "Back.__str__" (defArgs sBkT) (defBody sBkT) (defScope sBkT) .none kVBkT dcBkT pmBkT anBkT cdBkT ctBkT
    | .ah => PySem.W.fnOf "__str__" "Ahead.__str__" (defArgs sAhT) (defBody sAhT) (defScope sAhT) .none kVAhT dcAhT pmAhT anAhT cdAhT ctAhT
    | .so => PySem.W.fnOf "__str__" "Sofar.__str__" (defArgs sSoT) (defBody sSoT) (defScope sSoT) .none kVSoT dcSoT pmSoT anSoT cdSoT ctSoT
    | .wh => PySem.W.fnOf "__str__" "Whole.__str__" (defArgs sWhT) (defBody sWhT) (defScope sWhT) .none kVWhT dcWhT pmWhT anWhT cdWhT ctWhT
    | .la => PySem.W.fnOf "__str__" "Last.__str__" (defArgs sLaT) (defBody sLaT) (defScope sLaT) .none kVLaT dcLaT pmLaT anLaT cdLaT ctLaT
    | .sm => PySem.W.fnOf "__str__" "Same.__str__" (defArgs sSmT) (defBody sSmT) (defScope sSmT) .none kVSmT dcSmT pmSmT anSmT cdSmT ctSmT
  have yc : ∀ k, Cls K (GG k) := fun k => match k with
    | .bk => ⟨pgBk, hdBk, poBk, saBk⟩
    | .ah => ⟨pgAh, hdAh, poAh, saAh⟩
    | .so => ⟨pgSo, hdSo, poSo, saSo⟩
    | .wh => ⟨pgWh, hdWh, poWh, saWh⟩
    | .la => ⟨pgLa, hdLa, poLa, saLa⟩
    | .sm => ⟨pgSm, hdSm, poSm, saSm⟩
  have yS : ∀ k, NoAttr K (GG k) "source" := fun k => match k with
    | .bk => nSBk
    | .ah => nSAh
    | .so => nSSo
    | .wh => nSWh
    | .la => nSLa
    | .sm => nSSm
  have yN : ∀ k, NoAttr K (GG k) "number" := fun k => match k with
    | .bk => nNBk
    | .ah => nNAh
    | .so => nNSo
    | .wh => nNWh
    | .la => nNLa
    | .sm => nNSm
  have Y : Ty K mg GG cT cN fTI fNI fF2 := ⟨yc, yS, yN, PySem.W.mg_of X G acT, PySem.W.mg_of X G acN, PySem.W.mg_of X G nBk, PySem.W.mg_of X G nAh, PySem.W.mg_of X G nSo, PySem.W.mg_of X G nWh, PySem.W.mg_of X G nLa, PySem.W.mg_of X G nSm, GF2, ⟨_, PySem.W.mg_of X G mn⟩, ⟨rdcT, gacT⟩, ⟨rdcN, gacN⟩, ⟨atcT, kTI⟩, ⟨atcN, kNI⟩⟩
  have is : ∀ k, C8.InsC K (GG k) := fun k => match k with
    | .bk => ⟨yc .bk, ccBk, clsG, clsT, moBk, kit_self⟩
    | .ah => ⟨yc .ah, ccAh, clsG, clsT, moAh, kit_self⟩
    | .so => ⟨yc .so, ccSo, clsG, clsT, moSo, kit_self⟩
    | .wh => ⟨yc .wh, ccWh, clsG, clsT, moWh, kit_self⟩
    | .la => ⟨yc .la, ccLa, clsG, clsT, moLa, kit_self⟩
    | .sm => ⟨yc .sm, ccSm, clsG, clsT, moSm, kit_self⟩
  have kk : ∀ k j, PySem.W.kitOne K (.ref (GG k)) (.ref (GG j)) = some (kEq k j) := fun k j => match k, j with
    | .bk, .bk => kit_ref hdBk tyBk sBkBk sBkBk
    | .bk, .ah => kit_ref hdAh tyAh sBkAh sBkBk
    | .bk, .so => kit_ref hdSo tySo sBkSo sBkBk
    | .bk, .wh => kit_ref hdWh tyWh sBkWh sBkBk
    | .bk, .la => kit_ref hdLa tyLa sBkLa sBkBk
    | .bk, .sm => kit_ref hdSm tySm sBkSm sBkBk
    | .ah, .bk => kit_ref hdBk tyBk sAhBk sAhAh
    | .ah, .ah => kit_ref hdAh tyAh sAhAh sAhAh
    | .ah, .so => kit_ref hdSo tySo sAhSo sAhAh
    | .ah, .wh => kit_ref hdWh tyWh sAhWh sAhAh
    | .ah, .la => kit_ref hdLa tyLa sAhLa sAhAh
    | .ah, .sm => kit_ref hdSm tySm sAhSm sAhAh
    | .so, .bk => kit_ref hdBk tyBk sSoBk sSoSo
    | .so, .ah => kit_ref hdAh tyAh sSoAh sSoSo
    | .so, .so => kit_ref hdSo tySo sSoSo sSoSo
    | .so, .wh => kit_ref hdWh tyWh sSoWh sSoSo
    | .so, .la => kit_ref hdLa tyLa sSoLa sSoSo
    | .so, .sm => kit_ref hdSm tySm sSoSm sSoSo
    | .wh, .bk => kit_ref hdBk tyBk sWhBk sWhWh
    | .wh, .ah => kit_ref hdAh tyAh sWhAh sWhWh
    | .wh, .so => kit_ref hdSo tySo sWhSo sWhWh
    | .wh, .wh => kit_ref hdWh tyWh sWhWh sWhWh
    | .wh, .la => kit_ref hdLa tyLa sWhLa sWhWh
    | .wh, .sm => kit_ref hdSm tySm sWhSm sWhWh
    | .la, .bk => kit_ref hdBk tyBk sLaBk sLaLa
    | .la, .ah => kit_ref hdAh tyAh sLaAh sLaLa
    | .la, .so => kit_ref hdSo tySo sLaSo sLaLa
    | .la, .wh => kit_ref hdWh tyWh sLaWh sLaLa
    | .la, .la => kit_ref hdLa tyLa sLaLa sLaLa
    | .la, .sm => kit_ref hdSm tySm sLaSm sLaLa
    | .sm, .bk => kit_ref hdBk tyBk sSmBk sSmSm
    | .sm, .ah => kit_ref hdAh tyAh sSmAh sSmSm
    | .sm, .so => kit_ref hdSo tySo sSmSo sSmSm
    | .sm, .wh => kit_ref hdWh tyWh sSmWh sSmSm
    | .sm, .la => kit_ref hdLa tyLa sSmLa sSmSm
    | .sm, .sm => kit_ref hdSm tySm sSmSm sSmSm
  have su : ∀ k j, kEq k j = false → PySem.W.subIn K (.ref (GG k)) (.ref (GG j)) = some false := fun k j e => match k, j, e with
    | .bk, .bk, e => nomatch e
    | .bk, .ah, e => sBkAh
    | .bk, .so, e => sBkSo
    | .bk, .wh, e => sBkWh
    | .bk, .la, e => sBkLa
    | .bk, .sm, e => sBkSm
    | .ah, .bk, e => sAhBk
    | .ah, .ah, e => nomatch e
    | .ah, .so, e => sAhSo
    | .ah, .wh, e => sAhWh
    | .ah, .la, e => sAhLa
    | .ah, .sm, e => sAhSm
    | .so, .bk, e => sSoBk
    | .so, .ah, e => sSoAh
    | .so, .so, e => nomatch e
    | .so, .wh, e => sSoWh
    | .so, .la, e => sSoLa
    | .so, .sm, e => sSoSm
    | .wh, .bk, e => sWhBk
    | .wh, .ah, e => sWhAh
    | .wh, .so, e => sWhSo
    | .wh, .wh, e => nomatch e
    | .wh, .la, e => sWhLa
    | .wh, .sm, e => sWhSm
    | .la, .bk, e => sLaBk
    | .la, .ah, e => sLaAh
    | .la, .so, e => sLaSo
    | .la, .wh, e => sLaWh
    | .la, .la, e => nomatch e
    | .la, .sm, e => sLaSm
    | .sm, .bk, e => sSmBk
    | .sm, .ah, e => sSmAh
    | .sm, .so, e => sSmSo
    | .sm, .wh, e => sSmWh
    | .sm, .la, e => sSmLa
    | .sm, .sm, e => nomatch e
  have kT : ∀ k, PySem.W.kitOne K (.ref (GG k)) (.ref cT) = some true := fun k => match k with
    | .bk => kit_ref hdcT tycT sTBk sBkBk
    | .ah => kit_ref hdcT tycT sTAh sAhAh
    | .so => kit_ref hdcT tycT sTSo sSoSo
    | .wh => kit_ref hdcT tycT sTWh sWhWh
    | .la => kit_ref hdcT tycT sTLa sLaLa
    | .sm => kit_ref hdcT tycT sTSm sSmSm
  have kN : ∀ k, PySem.W.kitOne K (.ref (GG k)) (.ref cN) = some (isNum k) := fun k => match k with
    | .bk => kit_ref hdcN tycN sNBk sBkBk
    | .ah => kit_ref hdcN tycN sNAh sAhAh
    | .so => kit_ref hdcN tycN sNSo sSoSo
    | .wh => kit_ref hdcN tycN sNWh sWhWh
    | .la => kit_ref hdcN tycN sNLa sLaLa
    | .sm => kit_ref hdcN tycN sNSm sSmSm
  have kB : ∀ k, PySem.W.kitOne K (.type "NoneType") (.ref (GG k)) = some false ∧ PySem.W.kitOne K (.type "str") (.ref (GG k)) = some false ∧ PySem.W.kitOne K (.type "tuple") (.ref (GG k)) = some false ∧ PySem.W.kitOne K (.type "int") (.ref (GG k)) = some false := fun k => match k with
    | .bk => ⟨kit_tyR hdBk tyBk sb0Bk, kit_tyR hdBk tyBk sb1Bk, kit_tyR hdBk tyBk sb2Bk, kit_tyR hdBk tyBk sb3Bk⟩
    | .ah => ⟨kit_tyR hdAh tyAh sb0Ah, kit_tyR hdAh tyAh sb1Ah, kit_tyR hdAh tyAh sb2Ah, kit_tyR hdAh tyAh sb3Ah⟩
    | .so => ⟨kit_tyR hdSo tySo sb0So, kit_tyR hdSo tySo sb1So, kit_tyR hdSo tySo sb2So, kit_tyR hdSo tySo sb3So⟩
    | .wh => ⟨kit_tyR hdWh tyWh sb0Wh, kit_tyR hdWh tyWh sb1Wh, kit_tyR hdWh tyWh sb2Wh, kit_tyR hdWh tyWh sb3Wh⟩
    | .la => ⟨kit_tyR hdLa tyLa sb0La, kit_tyR hdLa tyLa sb1La, kit_tyR hdLa tyLa sb2La, kit_tyR hdLa tyLa sb3La⟩
    | .sm => ⟨kit_tyR hdSm tySm sb0Sm, kit_tyR hdSm tySm sb1Sm, kit_tyR hdSm tySm sb2Sm, kit_tyR hdSm tySm sb3Sm⟩
  have sB : ∀ k, PySem.W.subIn K (.type "NoneType") (.ref (GG k)) = some false ∧ PySem.W.subIn K (.type "str") (.ref (GG k)) = some false ∧ PySem.W.subIn K (.type "tuple") (.ref (GG k)) = some false ∧ PySem.W.subIn K (.type "int") (.ref (GG k)) = some false := fun k => match k with
    | .bk => ⟨sb0Bk, sb1Bk, sb2Bk, sb3Bk⟩
    | .ah => ⟨sb0Ah, sb1Ah, sb2Ah, sb3Ah⟩
    | .so => ⟨sb0So, sb1So, sb2So, sb3So⟩
    | .wh => ⟨sb0Wh, sb1Wh, sb2Wh, sb3Wh⟩
    | .la => ⟨sb0La, sb1La, sb2La, sb3La⟩
    | .sm => ⟨sb0Sm, sb1Sm, sb2Sm, sb3Sm⟩
  have M : Mx K GG cT cN := ⟨is, kk, kT, kN, kB, su, sB⟩
  have EN : ErM l.prog w K mg base "BadName" "value" cBN fJBN _ := ⟨ZBN, ok_bni HJBN ZBN, bJBN⟩
  have EU : ErM l.prog w K mg base "BadNumber" "value" cBU fJBU _ := ⟨ZBU, ok_bui HJBU ZBU, bJBU⟩
  have J : Inits l.prog w K mg base cBN cBU fTI fNI _ _ := ⟨ok_tieI HTI T Y HF2 bF2 EN, bTI, ok_numI HNI T Y HF0 bF0 HF1 bF1 EU, bNI⟩
  have iF : ∀ k, isNum k = true → FnOk l.prog w K mg base (L2.CX l.prog w) 4 (fI k) (dI k) ["self", "source", "number"] (spInitN GG cBN cBU k) := fun k => match k with
    | .bk => fun q => ok_bkI HBkI Y J
    | .ah => fun q => ok_ahI HAhI Y J
    | .so => fun q => nomatch q
    | .wh => fun q => nomatch q
    | .la => fun q => nomatch q
    | .sm => fun q => nomatch q
  have iB : ∀ k, isNum k = true → Binds K (dI k) ["self", "source", "number"] [] := fun k => match k with
    | .bk => fun q => bBkI
    | .ah => fun q => bAhI
    | .so => fun q => nomatch q
    | .wh => fun q => nomatch q
    | .la => fun q => nomatch q
    | .sm => fun q => nomatch q
  have iK : ∀ k, isNum k = true → KBn K (dI k) ["self", "source", "number"] 1 ["number", "source"] gNS gNS := fun k => match k with
    | .bk => fun q => kb_NS HBkI fun _ _ _ _ _ _ _ _ _ => rfl
    | .ah => fun q => kb_NS HAhI fun _ _ _ _ _ _ _ _ _ => rfl
    | .so => fun q => nomatch q
    | .wh => fun q => nomatch q
    | .la => fun q => nomatch q
    | .sm => fun q => nomatch q
  have pF : ∀ k, isNum k = false → FnOk l.prog w K mg base (L2.CX l.prog w) 4 (fI k) (dI k) ["self", "source"] (spInitP GG cBN k) := fun k => match k with
    | .bk => fun q => nomatch q
    | .ah => fun q => nomatch q
    | .so => fun q => ok_soI HSoI Y J
    | .wh => fun q => ok_whI HWhI Y J
    | .la => fun q => ok_laI HLaI Y J
    | .sm => fun q => ok_smI HSmI Y J
  have pB : ∀ k, isNum k = false → Binds K (dI k) ["self", "source"] [] := fun k => match k with
    | .bk => fun q => nomatch q
    | .ah => fun q => nomatch q
    | .so => fun q => bSoI
    | .wh => fun q => bWhI
    | .la => fun q => bLaI
    | .sm => fun q => bSmI
  have pK : ∀ k, isNum k = false → KBn K (dI k) ["self", "source"] 1 ["source"] My.gSo My.gSo := fun k => match k with
    | .bk => fun q => nomatch q
    | .ah => fun q => nomatch q
    | .so => fun q => kb_So HSoI fun _ _ _ _ _ _ _ _ => rfl
    | .wh => fun q => kb_So HWhI fun _ _ _ _ _ _ _ _ => rfl
    | .la => fun q => kb_So HLaI fun _ _ _ _ _ _ _ _ => rfl
    | .sm => fun q => kb_So HSmI fun _ _ _ _ _ _ _ _ => rfl
  have mM : ∀ k, Mk K (GG k) (fI k) := fun k => match k with
    | .bk => ⟨mkBk, aBkI, iBkI, kcBk⟩
    | .ah => ⟨mkAh, aAhI, iAhI, kcAh⟩
    | .so => ⟨mkSo, aSoI, iSoI, kcSo⟩
    | .wh => ⟨mkWh, aWhI, iWhI, kcWh⟩
    | .la => ⟨mkLa, aLaI, iLaI, kcLa⟩
    | .sm => ⟨mkSm, aSmI, iSmI, kcSm⟩
  have MK : MkT l.prog w K mg base GG cBN cBU fI dI := ⟨iF, iB, iK, pF, pB, pK, mM⟩
  have tF : ∀ k, FnOk l.prog w K mg base CX0 1 (fT k) (dT k) ["self"] (spStr GG k) := fun k => match k with
    | .bk => ok_BkT HBkT Y
    | .ah => ok_AhT HAhT Y
    | .so => ok_SoT HSoT Y
    | .wh => ok_WhT HWhT Y
    | .la => ok_LaT HLaT Y
    | .sm => ok_SmT HSmT Y
  have tB : ∀ k, Binds K (dT k) ["self"] [] := fun k => match k with
    | .bk => bBkT
    | .ah => bAhT
    | .so => bSoT
    | .wh => bWhT
    | .la => bLaT
    | .sm => bSmT
  have tA : ∀ k, PySem.W.findIn K (.ref (GG k)) "__str__" = some (some (.ref (fT k))) := fun k => match k with
    | .bk => aBkT
    | .ah => aAhT
    | .so => aSoT
    | .wh => aWhT
    | .la => aLaT
    | .sm => aSmT
  have tI : ∀ k, PySem.W.isFn K (.ref (fT k)) = true := fun k => match k with
    | .bk => iBkT
    | .ah => iAhT
    | .so => iSoT
    | .wh => iWhT
    | .la => iLaT
    | .sm => iSmT
  have ST : StrT l.prog w K mg base GG fT dT := ⟨tF, tB, tA, tI⟩
  have eF : ∀ k, FnOk l.prog w K mg base CX0 1 (fE k) (dE k) ["self", "other"] (spEq K GG k) := fun k => match k with
    | .bk => ok_BkE HBkE T Y M
    | .ah => ok_AhE HAhE T Y M
    | .so => ok_SoE HSoE T Y M
    | .wh => ok_WhE HWhE T Y M
    | .la => ok_LaE HLaE T Y M
    | .sm => ok_SmE HSmE T Y M
  have eB : ∀ k, Binds K (dE k) ["self", "other"] [] := fun k => match k with
    | .bk => bBkE
    | .ah => bAhE
    | .so => bSoE
    | .wh => bWhE
    | .la => bLaE
    | .sm => bSmE
  have eO : ∀ k, EqO K (GG k) (fE k) := fun k => match k with
    | .bk => ⟨aBkE, iBkE⟩
    | .ah => ⟨aAhE, iAhE⟩
    | .so => ⟨aSoE, iSoE⟩
    | .wh => ⟨aWhE, iWhE⟩
    | .la => ⟨aLaE, iLaE⟩
    | .sm => ⟨aSmE, iSmE⟩
  have nE : ∀ k, NeO K (GG k) (fE k) := fun k => match k with
    | .bk => ⟨aBkE, iBkE, neBk, moBk⟩
    | .ah => ⟨aAhE, iAhE, neAh, moAh⟩
    | .so => ⟨aSoE, iSoE, neSo, moSo⟩
    | .wh => ⟨aWhE, iWhE, neWh, moWh⟩
    | .la => ⟨aLaE, iLaE, neLa, moLa⟩
    | .sm => ⟨aSmE, iSmE, neSm, moSm⟩
  have EQ : EqT l.prog w K mg base GG fE dE := ⟨eF, eB, eO, nE⟩
  have DP : Df l.prog w K mg base "_law_pen" 1 fF3 _ ["_law_script"] _ := ⟨ok_pen HF3 T, bF3, HF3.kp, GF3⟩
  have DW : Df l.prog w K mg base "_law_draw" 1 fF4 _ ["_law_pen_here", "_law_many"] _ := ⟨ok_draw HF4 T, bF4, HF4.kp, GF4⟩
  have DI : Df l.prog w K mg base "_law_pick" 2 fF5 _ ["_law_pen_here", "_law_some"] _ := ⟨ok_pick HF5 T DW, bF5, HF5.kp, GF5⟩
  have DN : Df l.prog w K mg base "_law_plain" 3 fF7 _ ["_law_pen_here", "_law_labels"] _ := ⟨ok_plain HF7 T DW DI, bF7, HF7.kp, GF7⟩
  have DT : Df l.prog w K mg base "_law_tie" 6 fF6 _ ["_law_plain_here"] _ := ⟨ok_tieOf HF6 Y MK, bF6, HF6.kp, GF6⟩
  have LN : Df l.prog w K mg base "_law_line" 1 fF9 _ ["_law_plain_here"] _ := ⟨ok_line HF9 T, bF9, HF9.kp, GF9⟩
  have RF := ok_right (P := l.prog) (w := w) (base := base) HF10 T Y M ST LN
  have DU := ok_due (P := l.prog) (w := w) (base := base) HF12 T
  have NF := ok_named (P := l.prog) (w := w) (base := base) HF11 Y MK
  exact ok_law HF13 rfl T Y M ST EQ TB DP DW DI DN DT RF bF10 HF10.kp GF10 DU bF12 HF12.kp GF12 NF bF11 HF11.kp GF11 HF8 bF8 GF8 HT
theorem walk {l : PySem.W.OpenLaw} {q : Program} {loose : List Str} {XP : (Str → Option Value) → Heap → Prop} {YP : World → Heap → Prop} {d : DefRec} {K : Params → PySem.W.Frag} (hn : l.most = some 63) (hdf : d.params.defaults = [])
    (hY : ∀ (w : World) (h : Heap), YP w h → (K w.params).In h) (rec : ((recsOf q).any fun e => e.name == ("law" : Str)) = true)
    (F : ∀ (w : World) (mg : Str → Option Value) (fa : Addr) (h : Heap), (K w.params).In h → h.Ns mainGlobals mg → mg d.name = some (.ref fa) → OwnT (K w.params) mg h "law" →
      ∃ (fd : FuncData) (c Pt : Addr), (∀ (s : Shared) (u : Value), BindsTo s fd ⟨[u], []⟩ [("_law_script", u)]) ∧ Maker (K w.params) h c Pt ∧ ∀ base : Heap, (K w.params).In base → base.Ns mainGlobals mg → LamX.TabB base mg c Pt → FnG l.prog w (K w.params) mg base CX0 9 fa fd ["_law_script"] (spLawT (K w.params) Pt)) :
    PySem.W.WalkO q loose XP YP l.row.toRowW d [] (fun f vs => PySem.call f vs) :=
  walkT (n := 63) (k := 9) (x := "_law_script") (y := "law") (sp := fun w Pt => spLawT (K w.params) Pt) hn (by decide) hdf ⟨rfl, by decide, by decide⟩ hY rec F fun w H a Pt ns hl _ hP hS => ⟨a, ns, rfl, hP, hS, hl, fun _ => rfl⟩
end My
open PySem PySem.W PyProof.Rows
set_option maxRecDepth 100000 in
set_option maxHeartbeats 0 in
theorem PySem.Challenge.cw_remadedays_k17_ties_made_holds : PySem.Challenge.rw_remadedays_k17_ties_made.Holds := by
  w_on; o_law; k_headL; (case hw => w_witness2)
  k_fill
  refine My.walk (l := PySem.Challenge.rw_remadedays_k17_ties_made) rfl rfl (fun w h Y => PySem.W.kIn_of Y) ?R ?F
  case R => first | decide +kernel | rfl | kernel_rfl
  case F =>
    intro w mg fa h KX G hmg OT
    refine' My.all_mk KX G hmg OT ?aF0 ?lF0 ?cF0 ?kF0 ?aF1 ?lF1 ?cF1 ?kF1 ?aF2 ?lF2 ?cF2 ?kF2 ?aF3 ?lF3 ?cF3 ?kF3 ?aF4 ?lF4 ?cF4 ?kF4 ?aF5 ?lF5 ?cF5 ?kF5 ?aF6 ?lF6 ?cF6 ?kF6 ?aF7 ?lF7 ?cF7 ?kF7 ?aF8 ?lF8 ?cF8 ?kF8 ?aF9 ?lF9 ?cF9 ?kF9 ?aF10 ?lF10 ?cF10 ?kF10 ?aF11 ?lF11 ?cF11 ?kF11 ?aF12 ?lF12 ?cF12 ?kF12 ?aF13 ?lF13 ?cF13 ?kF13 ?mn ?z_isinstance ?z_int ?z_bool ?z_str ?z_max ?z_repr ?z_len ?z_list ?z_range ?z_abs ?clsG ?clsT ?aDE ?exDE ?hdDE ?tyDE ?nBN ?xBN ?saBN ?exBN ?tyBN ?kcBN ?aJBN ?tiBN ?lJBN ?cJBN ?kJBN ?noBN ?ggBN ?gtBN ?hdBN ?ccBN ?moBN ?sdBN ?nBU ?xBU ?saBU ?exBU ?tyBU ?kcBU ?aJBU ?tiBU ?lJBU ?cJBU ?kJBU ?noBU ?ggBU ?gtBU ?hdBU ?ccBU ?moBU ?sdBU ?sUN ?sUU ?acT ?rdcT ?gacT ?atcT ?hdcT ?tycT ?lTI ?cTI ?kTI ?acN ?rdcN ?gacN ?atcN ?hdcN ?tycN ?lNI ?cNI ?kNI ?nBk ?pgBk ?hdBk ?tyBk ?poBk ?saBk ?mkBk ?kcBk ?nSBk ?nNBk ?aBkI ?iBkI ?lBkI ?cBkI ?kBkI ?aBkE ?iBkE ?lBkE ?cBkE ?kBkE ?aBkT ?iBkT ?lBkT ?cBkT ?kBkT ?ccBk ?moBk ?neBk ?sTBk ?sNBk ?sb0Bk ?sb1Bk ?sb2Bk ?sb3Bk ?nAh ?pgAh ?hdAh ?tyAh ?poAh ?saAh ?mkAh ?kcAh ?nSAh ?nNAh ?aAhI ?iAhI ?lAhI ?cAhI ?kAhI ?aAhE ?iAhE ?lAhE ?cAhE ?kAhE ?aAhT ?iAhT ?lAhT ?cAhT ?kAhT ?ccAh ?moAh ?neAh ?sTAh ?sNAh ?sb0Ah ?sb1Ah ?sb2Ah ?sb3Ah ?nSo ?pgSo ?hdSo ?tySo ?poSo ?saSo ?mkSo ?kcSo ?nSSo ?nNSo ?aSoI ?iSoI ?lSoI ?cSoI ?kSoI ?aSoE ?iSoE ?lSoE ?cSoE ?kSoE ?aSoT ?iSoT ?lSoT ?cSoT ?kSoT ?ccSo ?moSo ?neSo ?sTSo ?sNSo ?sb0So ?sb1So ?sb2So ?sb3So ?nWh ?pgWh ?hdWh ?tyWh ?poWh ?saWh ?mkWh ?kcWh ?nSWh ?nNWh ?aWhI ?iWhI ?lWhI ?cWhI ?kWhI ?aWhE ?iWhE ?lWhE ?cWhE ?kWhE ?aWhT ?iWhT ?lWhT ?cWhT ?kWhT ?ccWh ?moWh ?neWh ?sTWh ?sNWh ?sb0Wh ?sb1Wh ?sb2Wh ?sb3Wh ?nLa ?pgLa ?hdLa ?tyLa ?poLa ?saLa ?mkLa ?kcLa ?nSLa ?nNLa ?aLaI ?iLaI ?lLaI ?cLaI ?kLaI ?aLaE ?iLaE ?lLaE ?cLaE ?kLaE ?aLaT ?iLaT ?lLaT ?cLaT ?kLaT ?ccLa ?moLa ?neLa ?sTLa ?sNLa ?sb0La ?sb1La ?sb2La ?sb3La ?nSm ?pgSm ?hdSm ?tySm ?poSm ?saSm ?mkSm ?kcSm ?nSSm ?nNSm ?aSmI ?iSmI ?lSmI ?cSmI ?kSmI ?aSmE ?iSmE ?lSmE ?cSmE ?kSmE ?aSmT ?iSmT ?lSmT ?cSmT ?kSmT ?ccSm ?moSm ?neSm ?sTSm ?sNSm ?sb0Sm ?sb1Sm ?sb2Sm ?sb3Sm ?sBkBk ?sBkAh ?sBkSo ?sBkWh ?sBkLa ?sBkSm ?sAhBk ?sAhAh ?sAhSo ?sAhWh ?sAhLa ?sAhSm ?sSoBk ?sSoAh ?sSoSo ?sSoWh ?sSoLa ?sSoSm ?sWhBk ?sWhAh ?sWhSo ?sWhWh ?sWhLa ?sWhSm ?sLaBk ?sLaAh ?sLaSo ?sLaWh ?sLaLa ?sLaSm ?sSmBk ?sSmAh ?sSmSo ?sSmWh ?sSmLa ?sSmSm ?eCR ?lR ?pR ?nR
    (case aF0 => k_is)
    (case lF0 => k_is)
    (case cF0 => k_is)
    (case kF0 => k_is)
    (case aF1 => k_is)
    (case lF1 => k_is)
    (case cF1 => k_is)
    (case kF1 => k_is)
    (case aF2 => k_is)
    (case lF2 => k_is)
    (case cF2 => k_is)
    (case kF2 => k_is)
    (case aF3 => k_is)
    (case lF3 => k_is)
    (case cF3 => k_is)
    (case kF3 => k_is)
    (case aF4 => k_is)
    (case lF4 => k_is)
    (case cF4 => k_is)
    (case kF4 => k_is)
    (case aF5 => k_is)
    (case lF5 => k_is)
    (case cF5 => k_is)
    (case kF5 => k_is)
    (case aF6 => k_is)
    (case lF6 => k_is)
    (case cF6 => k_is)
    (case kF6 => k_is)
    (case aF7 => k_is)
    (case lF7 => k_is)
    (case cF7 => k_is)
    (case kF7 => k_is)
    (case aF8 => k_is)
    (case lF8 => k_is)
    (case cF8 => k_is)
    (case kF8 => k_is)
    (case aF9 => k_is)
    (case lF9 => k_is)
    (case cF9 => k_is)
    (case kF9 => k_is)
    (case aF10 => k_is)
    (case lF10 => k_is)
    (case cF10 => k_is)
    (case kF10 => k_is)
    (case aF11 => k_is)
    (case lF11 => k_is)
    (case cF11 => k_is)
    (case kF11 => k_is)
    (case aF12 => k_is)
    (case lF12 => k_is)
    (case cF12 => k_is)
    (case kF12 => k_is)
    (case aF13 => k_is)
    (case lF13 => k_is)
    (case cF13 => k_is)
    (case kF13 => k_is)
    (case mn => k_is)
    (case z_isinstance => k_is)
    (case z_int => k_is)
    (case z_bool => k_is)
    (case z_str => k_is)
    (case z_max => k_is)
    (case z_repr => k_is)
    (case z_len => k_is)
    (case z_list => k_is)
    (case z_range => k_is)
    (case z_abs => k_is)
    (case clsG => k_is)
    (case clsT => k_is)
    (case aDE => k_is)
    (case exDE => k_is)
    (case hdDE => k_is)
    (case tyDE => k_is)
    (case nBN => k_is)
    (case xBN => k_is)
    (case saBN => k_is)
    (case exBN => k_is)
    (case tyBN => k_is)
    (case kcBN => k_is)
    (case aJBN => k_is)
    (case tiBN => k_is)
    (case lJBN => k_is)
    (case cJBN => k_is)
    (case kJBN => k_is)
    (case noBN => k_is)
    (case ggBN => k_is)
    (case gtBN => k_is)
    (case hdBN => k_is)
    (case ccBN => k_is)
    (case moBN => k_is)
    (case sdBN => k_is)
    (case nBU => k_is)
    (case xBU => k_is)
    (case saBU => k_is)
    (case exBU => k_is)
    (case tyBU => k_is)
    (case kcBU => k_is)
    (case aJBU => k_is)
    (case tiBU => k_is)
    (case lJBU => k_is)
    (case cJBU => k_is)
    (case kJBU => k_is)
    (case noBU => k_is)
    (case ggBU => k_is)
    (case gtBU => k_is)
    (case hdBU => k_is)
    (case ccBU => k_is)
    (case moBU => k_is)
    (case sdBU => k_is)
    (case sUN => k_is)
    (case sUU => k_is)
    (case acT => k_is)
    (case rdcT => k_is)
    (case gacT => k_is)
    (case atcT => k_is)
    (case hdcT => k_is)
    (case tycT => k_is)
    (case lTI => k_is)
    (case cTI => k_is)
    (case kTI => k_is)
    (case acN => k_is)
    (case rdcN => k_is)
    (case gacN => k_is)
    (case atcN => k_is)
    (case hdcN => k_is)
    (case tycN => k_is)
    (case lNI => k_is)
    (case cNI => k_is)
    (case kNI => k_is)
    (case nBk => k_is)
    (case pgBk => k_is)
    (case hdBk => k_is)
    (case tyBk => k_is)
    (case poBk => k_is)
    (case saBk => k_is)
    (case mkBk => k_is)
    (case kcBk => k_is)
    (case nSBk => k_is)
    (case nNBk => k_is)
    (case aBkI => k_is)
    (case iBkI => k_is)
    (case lBkI => k_is)
    (case cBkI => k_is)
    (case kBkI => k_is)
    (case aBkE => k_is)
    (case iBkE => k_is)
    (case lBkE => k_is)
    (case cBkE => k_is)
    (case kBkE => k_is)
    (case aBkT => k_is)
    (case iBkT => k_is)
    (case lBkT => k_is)
    (case cBkT => k_is)
    (case kBkT => k_is)
    (case ccBk => k_is)
    (case moBk => k_is)
    (case neBk => k_is)
    (case sTBk => k_is)
    (case sNBk => k_is)
    (case sb0Bk => k_is)
    (case sb1Bk => k_is)
    (case sb2Bk => k_is)
    (case sb3Bk => k_is)
    (case nAh => k_is)
    (case pgAh => k_is)
    (case hdAh => k_is)
    (case tyAh => k_is)
    (case poAh => k_is)
    (case saAh => k_is)
    (case mkAh => k_is)
    (case kcAh => k_is)
    (case nSAh => k_is)
    (case nNAh => k_is)
    (case aAhI => k_is)
    (case iAhI => k_is)
    (case lAhI => k_is)
    (case cAhI => k_is)
    (case kAhI => k_is)
    (case aAhE => k_is)
    (case iAhE => k_is)
    (case lAhE => k_is)
    (case cAhE => k_is)
    (case kAhE => k_is)
    (case aAhT => k_is)
    (case iAhT => k_is)
    (case lAhT => k_is)
    (case cAhT => k_is)
    (case kAhT => k_is)
    (case ccAh => k_is)
    (case moAh => k_is)
    (case neAh => k_is)
    (case sTAh => k_is)
    (case sNAh => k_is)
    (case sb0Ah => k_is)
    (case sb1Ah => k_is)
    (case sb2Ah => k_is)
    (case sb3Ah => k_is)
    (case nSo => k_is)
    (case pgSo => k_is)
    (case hdSo => k_is)
    (case tySo => k_is)
    (case poSo => k_is)
    (case saSo => k_is)
    (case mkSo => k_is)
    (case kcSo => k_is)
    (case nSSo => k_is)
    (case nNSo => k_is)
    (case aSoI => k_is)
    (case iSoI => k_is)
    (case lSoI => k_is)
    (case cSoI => k_is)
    (case kSoI => k_is)
    (case aSoE => k_is)
    (case iSoE => k_is)
    (case lSoE => k_is)
    (case cSoE => k_is)
    (case kSoE => k_is)
    (case aSoT => k_is)
    (case iSoT => k_is)
    (case lSoT => k_is)
    (case cSoT => k_is)
    (case kSoT => k_is)
    (case ccSo => k_is)
    (case moSo => k_is)
    (case neSo => k_is)
    (case sTSo => k_is)
    (case sNSo => k_is)
    (case sb0So => k_is)
    (case sb1So => k_is)
    (case sb2So => k_is)
    (case sb3So => k_is)
    (case nWh => k_is)
    (case pgWh => k_is)
    (case hdWh => k_is)
    (case tyWh => k_is)
    (case poWh => k_is)
    (case saWh => k_is)
    (case mkWh => k_is)
    (case kcWh => k_is)
    (case nSWh => k_is)
    (case nNWh => k_is)
    (case aWhI => k_is)
    (case iWhI => k_is)
    (case lWhI => k_is)
    (case cWhI => k_is)
    (case kWhI => k_is)
    (case aWhE => k_is)
    (case iWhE => k_is)
    (case lWhE => k_is)
    (case cWhE => k_is)
    (case kWhE => k_is)
    (case aWhT => k_is)
    (case iWhT => k_is)
    (case lWhT => k_is)
    (case cWhT => k_is)
    (case kWhT => k_is)
    (case ccWh => k_is)
    (case moWh => k_is)
    (case neWh => k_is)
    (case sTWh => k_is)
    (case sNWh => k_is)
    (case sb0Wh => k_is)
    (case sb1Wh => k_is)
    (case sb2Wh => k_is)
    (case sb3Wh => k_is)
    (case nLa => k_is)
    (case pgLa => k_is)
    (case hdLa => k_is)
    (case tyLa => k_is)
    (case poLa => k_is)
    (case saLa => k_is)
    (case mkLa => k_is)
    (case kcLa => k_is)
    (case nSLa => k_is)
    (case nNLa => k_is)
    (case aLaI => k_is)
    (case iLaI => k_is)
    (case lLaI => k_is)
    (case cLaI => k_is)
    (case kLaI => k_is)
    (case aLaE => k_is)
    (case iLaE => k_is)
    (case lLaE => k_is)
    (case cLaE => k_is)
    (case kLaE => k_is)
    (case aLaT => k_is)
    (case iLaT => k_is)
    (case lLaT => k_is)
    (case cLaT => k_is)
    (case kLaT => k_is)
    (case ccLa => k_is)
    (case moLa => k_is)
    (case neLa => k_is)
    (case sTLa => k_is)
    (case sNLa => k_is)
    (case sb0La => k_is)
    (case sb1La => k_is)
    (case sb2La => k_is)
    (case sb3La => k_is)
    (case nSm => k_is)
    (case pgSm => k_is)
    (case hdSm => k_is)
    (case tySm => k_is)
    (case poSm => k_is)
    (case saSm => k_is)
    (case mkSm => k_is)
    (case kcSm => k_is)
    (case nSSm => k_is)
    (case nNSm => k_is)
    (case aSmI => k_is)
    (case iSmI => k_is)
    (case lSmI => k_is)
    (case cSmI => k_is)
    (case kSmI => k_is)
    (case aSmE => k_is)
    (case iSmE => k_is)
    (case lSmE => k_is)
    (case cSmE => k_is)
    (case kSmE => k_is)
    (case aSmT => k_is)
    (case iSmT => k_is)
    (case lSmT => k_is)
    (case cSmT => k_is)
    (case kSmT => k_is)
    (case ccSm => k_is)
    (case moSm => k_is)
    (case neSm => k_is)
    (case sTSm => k_is)
    (case sNSm => k_is)
    (case sb0Sm => k_is)
    (case sb1Sm => k_is)
    (case sb2Sm => k_is)
    (case sb3Sm => k_is)
    (case sBkBk => k_is)
    (case sBkAh => k_is)
    (case sBkSo => k_is)
    (case sBkWh => k_is)
    (case sBkLa => k_is)
    (case sBkSm => k_is)
    (case sAhBk => k_is)
    (case sAhAh => k_is)
    (case sAhSo => k_is)
    (case sAhWh => k_is)
    (case sAhLa => k_is)
    (case sAhSm => k_is)
    (case sSoBk => k_is)
    (case sSoAh => k_is)
    (case sSoSo => k_is)
    (case sSoWh => k_is)
    (case sSoLa => k_is)
    (case sSoSm => k_is)
    (case sWhBk => k_is)
    (case sWhAh => k_is)
    (case sWhSo => k_is)
    (case sWhWh => k_is)
    (case sWhLa => k_is)
    (case sWhSm => k_is)
    (case sLaBk => k_is)
    (case sLaAh => k_is)
    (case sLaSo => k_is)
    (case sLaWh => k_is)
    (case sLaLa => k_is)
    (case sLaSm => k_is)
    (case sSmBk => k_is)
    (case sSmAh => k_is)
    (case sSmSo => k_is)
    (case sSmWh => k_is)
    (case sSmLa => k_is)
    (case sSmSm => k_is)
    (case eCR => rfl)
    (case lR => k_is)
    (case pR => rfl)
    (case nR => first | rfl | kernel_rfl)
#print axioms PySem.Challenge.cw_remadedays_k17_ties_made_holds
