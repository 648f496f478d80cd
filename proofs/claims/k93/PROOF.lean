import PyProof.Rows.All
import Wide.All
import OpenK.AllK
import Wide.FinOn
import PyProof.TwoTypes
import KE.KOpsOwn
import KE.KTupSum
import KE.KStar
import KE.GoesMore
import HandS.ForMost
import HandS.Star
import HandS.SlotsOwn
import HandS.ClsMeth
import HandS.Conv
import PyProof.ReprRoads
import PyProof.FitsInt
import HandS.EndBits
import HandS.Base
import HandS.Call
import HandS.Exc
import HandS.Lambda
import KE.KExcIs
import HandS.IsInst
import HandS.ExcField
import HandS.ExcIs
import HandS.ExcValue
import PyProof.CallFns
import PyProof.FactsAll.bool_1
import PyProof.FactsAll.bool_2
import HandS.ExcInit
import HandS.WordsExc
import HandS.Property
import KE.OsRunLaw
import KE.KCallOwn
import KE.KOwnIter
import HandS.IterVal
import HandS.Text
import HandS.StrMore
import PyProof.StrOps2
import HandS.TupAny
import HandS.FStr
import HandS.MakeKwOnly
import HandS.MakeKw
import HandS.Codes
import HandS.Wide
import HandS.Style
import HandS.RaiseMore
import PySem.Challenge.RW_remadedays_k93_ties_read_and_written
set_option Elab.async false
set_option linter.all false
set_option maxRecDepth 100000
set_option maxHeartbeats 4000000
set_option Elab.async false
set_option linter.all false
set_option maxRecDepth 100000
set_option maxHeartbeats 4000000
namespace My
open PySem PySem.Spec PyProof.Rows L2
section
variable {X : Cx} {CX : CXT} {k : Nat} {f C : Addr} {fd : FuncData} {ps ks : List Str} {sp : Sp} {E : XK} {m : Str} {p pos apos : Pos} {e o fe : Expr} {es : List Expr} {kws : List Keyword} {te ta tf : TE} {t tk : TA}
variable {g : List Value → List Value → List Value} {gV : List V → List V → List V} {pl : Sem Bool} {mc : Value}
/-- C.m is a def of the class (or of one above it) -/
structure CFn (K : PySem.W.Frag) (C : Addr) (mc : Value) (m : Str) (f : Addr) : Prop where
  at_ : PySem.W.findCls K (.ref C) mc m = some (.val (.ref f))
  kp : PySem.W.keepIn K (.ref f) = true
def tCFn (C : Addr) (sp : Sp) (E : XK) (ta : TE) (t : TA) : TE := fun σ H Q => ta σ H fun x H1 => x = .ref C ∧ t σ H1 fun vs H2 => sp vs H2 Q E
theorem pe_cfn (he : PE X o ta) (r : ClX.CRead X.K C mc) (c : CFn X.K C mc m f) (F : FnR X.prog X.w X.K X.mg X.base CX k f sp) (hr : Room k X.A) (hx : Passes CX X E) (ha : PA X (e :: es) t)
    (hst : starEach (e :: es) X.env = (false, eval e X.env) :: starEach es X.env := by rfl) (hpl : (backTo pos (starEach es X.env)).any (·.1) = false := by rfl)
    (ht : eval (.Call (.Attribute o m apos) (e :: es) [] pos) X.env = (do
      let z ← eval o X.env
      standAt apos.atName
      let (fn, fst) ← holding [z] (getMethod z m pl)
      callWith pos fn fst (backTo pos (starEach (e :: es) X.env)) (backToKw pos (keywordEach [] X.env))) := by rfl) :
    PE X (.Call (.Attribute o m apos) (e :: es) [] pos) (tCFn C sp E ta t) := by
  refine ⟨fun pins s σ H Q I h => ?_⟩
  refine PySem.W.methodCall_KW (pl := pl) (thn (he.run pins s σ H _ I h) fun u s1 ⟨x, H1, I1, rx, ex, q⟩ => ?_) ht
  subst ex
  obtain rfl : u = Value.ref C := rx
  refine PySem.W.method_cls I1.kIn r.ga (PySem.W.cls_value I1.kIn r.rd c.at_ rfl ?_)
  refine PySem.W.callWith_K (first := []) (h₀ := X.base) I.ok.mod.kin c.kp (thn (ha.run pos pins _ σ H1 _ (I1.tok _) q) fun us s2 ⟨vs, H2, I2, rv, q2⟩ => ⟨I2.kIn, ?_⟩) hst hpl
  exact wpAny_call (run_fnR (us := us) (vs := vs) F hr hx I2 rv q2)
end
/-- one of two readings -/
theorem pe_or {X : Cx} {e : Expr} {t1 t2 : TE} (h1 : PE X e t1) (h2 : PE X e t2) : PE X e (fun σ H Q => t1 σ H Q ∨ t2 σ H Q) :=
  ⟨fun pins s σ H Q I h => h.elim (h1.run pins s σ H Q I) (h2.run pins s σ H Q I)⟩
end My
set_option Elab.async false
set_option linter.all false
set_option maxRecDepth 100000
set_option maxHeartbeats 4000000
namespace My
open PySem PySem.Spec PyProof.Rows L2
structure FnG (P : Program) (w : World) (K : PySem.W.Frag) (mg : Str → Option Value) (base : Heap) (CX : CXT) (k : Nat) (f : Addr) (fd : FuncData) (ps : List Str) (sp : Sp) : Prop where
  len : ∀ vs H Q E, sp vs H Q E → vs.length = ps.length
  run : ∀ (A : Around) (outer : List Env) (s : Shared) (H : Hp) (args : Args) (us : List Value) (vs : List V) (Q : VK) (E : XK), A.guards = some [] → Room k A → Env0 P w K mg base A outer s H → BindsTo s fd args (ps.zip us) → Vals vs us → sp vs H Q E →
    codeAny (model P w) A (.call (.ref f) args) (CR CX outer P w H s Q E) s
theorem int_shown {i : Int} (h : i.natAbs < 10 ^ 70) : (PyData.shown (.int i)).length ≤ 71 := by
  show (Str.ofString (toString i)).length ≤ 71
  rw [PySem.ofString_length]
  exact int_text_length_le10 (k := 70) (by decide) h
section
variable {prog : Program} {w : World} {A : Around} {E : Value → Shared → Prop} {s : Shared} {K : PySem.W.Frag} {x C f : Addr} {ox : Obj} {od : Option Obj} {b : Value}
theorem ne_entry {Q : Fin → Shared → Prop} (hu : A.units < cLine) (inK : K.In s.heap) (I : PySem.W.InstAt s.heap x ox C od) (hs : PySem.W.findIn K (.ref C) "__eq__" = some (some (.ref f))) (hf : PySem.W.isFn K (.ref f) = true)
    (h : wpAny (model prog w) A (call (.ref f) [.ref x, b]) (fun v s' => ∃ c, v = .bool c ∧ Q (.done (.ret (.bool (!c)))) s') E s) : wpAny (model prog w) A (Builtin.«object.__ne__» ⟨[.ref x, b], []⟩) Q E s := by
  show wpAny _ _ (do cRoomFor "comparison" [.ref x, b]; match ← callSpecialIfBound? (.ref x) "__eq__" [b] with | some .notImplemented | none => ret .notImplemented | some r => ret (.bool (!(← truthy r)))) _ _ s
  refine wpAny_bind (wpAny_cRoomFor hu ?_)
  refine wpAny_bind (PySem.W.ifBound_K inK I hs hf (wpAny_mono h (fun v s' z => ?_) fun _ _ e => e))
  obtain ⟨c, rfl, q⟩ := z
  show wpAny _ _ (truthy (.bool c) >>= fun t => ret (.bool (!t))) _ _ s'
  exact wpAny_bind (wpAny_truthy_bool (wpAny_pure q))
theorem ne_bound {args : List Value} {Q : Option Value → Shared → Prop} {M : Model} (inK : K.In s.heap) (I : PySem.W.InstAt s.heap x ox C od) (hn : PySem.W.findIn K (.ref C) "__ne__" = some (some (.builtin "object.__ne__")))
    (h : wpAny M A (call (.builtin "object.__ne__") (.ref x :: args)) (fun v => Q (some v)) E s) : wpAny M A (callSpecialIfBound? (.ref x) "__ne__" args) Q E s := by
  simp only [callSpecialIfBound?, bindSpecialIfBound?]
  refine wpAny_holding (wpAny_bind (wpAny_bind (wpAny_bind (I.type.here ((PySem.W.looks_findIn inK hn).here ?_)))))
  refine wpAny_bind (wpAny_askSetting (wpAny_ite ?_))
  have last : wpAny M A (call (.builtin "object.__ne__") ([.ref x] ++ args) >>= fun v => pure (some v)) Q E s := wpAny_bind (wpAny_mono h (fun v s' q => wpAny_pure q) fun _ _ q => q)
  split
  · exact wpAny_bind (wpAny_of_eq (F.cmp_object.ne.bind _) (wpAny_pure (by exact last)))
  · exact wpAny_tryCatch (wpAny_bind (wpAny_of_eq (F.cmp_object.ne.bind _) (wpAny_pure (by exact last))))
theorem rc_ne {Q : Value → Shared → Prop} (hu : A.units + 1 < cLine) (inK : K.In s.heap) (I : PySem.W.InstAt s.heap x ox C od) (hb : PySem.W.Looks (model prog w) s.heap (typeOf b) (.ref C)) (hm : PySem.W.mroIn K C (.type "object") = some true)
    (hs : PySem.W.findIn K (.ref C) "__eq__" = some (some (.ref f))) (hf : PySem.W.isFn K (.ref f) = true) (hn : PySem.W.findIn K (.ref C) "__ne__" = some (some (.builtin "object.__ne__")))
    (h : wpAny (model prog w) A.in1 (call (.ref f) [.ref x, b]) (fun v s' => ∃ c, v = .bool c ∧ Q (.bool (!c)) s') E s) : wpAny (model prog w) A (richCompare .NotEq (.ref x) b) Q E s := by
  have one : wpAny (model prog w) A (tryCompare (.ref x) "__ne__" b) (fun r s' => ∃ v, r = some v ∧ Q v s') E s := by
    unfold tryCompare
    refine wpAny_bind (ne_bound inK I hn (wpAny_call (codeAny_call_builtin F.cmp_object.ne.plain F.cmpEntry_ne (PySem.W.check_slot F.cmpKind_ne F.cmpSplit_ne (I.type.andThen (PySem.W.looks_mroIn inK hm)) (F.cmpArgs_ne _ _)
      (ne_entry (A := A.in1) (by show A.units + 1 < cLine; exact hu) inK I hs hf (wpAny_mono h (fun v s' z => ?_) fun e s' z => ?_))))))
    · obtain ⟨c, e, q⟩ := z
      exact ⟨c, e, wpAny_pure ⟨_, rfl, q⟩⟩
    · exact z
  unfold richCompare
  simp only [oneThing_ref]
  refine wpAny_holding (wpAny_bind (wpAny_cRoomFor (by omega) ?_))
  refine wpAny_bind (I.type.here (wpAny_bind (hb.here ?_)))
  split
  · rename_i q
    exact absurd q (by simp)
  · refine wpAny_bind (wpAny_pure ?_)
    simp only [Bool.false_eq_true, if_false]
    refine wpAny_bind (wpAny_mono one (fun r s' z => ?_) fun _ _ e => e)
    obtain ⟨v, rfl, q⟩ := z
    exact wpAny_pure q
end
section
variable {X : Cx} {CX : CXT} {n : Nat} {C g : Addr} {sp : Sp} {E : XK}
structure NeO (K : PySem.W.Frag) (C g : Addr) : Prop where
  eq : PySem.W.findIn K (.ref C) "__eq__" = some (some (.ref g))
  fn : PySem.W.isFn K (.ref g) = true
  ne : PySem.W.findIn K (.ref C) "__ne__" = some (some (.builtin "object.__ne__"))
  ob : PySem.W.mroIn K C (.type "object") = some true
def rNeO (C : Addr) (sp : Sp) (E : XK) : R2 := fun x y H Q => ∃ a b dx dy fs gs, x = .ref a ∧ y = .ref b ∧ H a = some (.ins C dx fs) ∧ H b = some (.ins C dy gs) ∧ sp [x, y] H (fun z H' => ∃ c, z = .bl c ∧ Q (.bl (!c)) H') E
theorem op_neO (R : NeO X.K C g) (F : FnR X.prog X.w X.K X.mg X.base CX n g sp) (hr : Room (n + 1) X.A) (hx : Passes CX X E) : OpR X (compareOp .NotEq) (rNeO C sp E) := by
  intro pins s σ H x y v u Q I rx ry h
  obtain ⟨a, b, dx, dy, fs, gs, rfl, rfl, ha, hb, q⟩ := h
  cases (show v = Value.ref a from rx)
  cases (show u = Value.ref b from ry)
  obtain ⟨mA, O, _⟩ := ins_get I.hok ha
  obtain ⟨od, J, _⟩ := O.look
  obtain ⟨mB, OB, _⟩ := ins_get I.hok hb
  obtain ⟨ob, JB, _⟩ := OB.look
  show wpAny _ _ (richCompare .NotEq (.ref a) (.ref b)) _ _ _
  refine rc_ne (by have := hr.un; omega) I.kIn J JB.type R.ob R.eq R.fn R.ne (wpAny_mono (wpAny_call (SlX.run_at (us := [.ref a, .ref b]) (ws := [.ref a, .ref b]) F hr.in1 I.env0.in1 hx I (.cons rfl (.cons rfl .nil)) q)) (fun z s' k => ?_) fun _ _ e => e)
  obtain ⟨z', H', I', rz, c, ez, qz⟩ := k
  subst ez
  cases (show z = Value.bool c from rz)
  exact ⟨c, rfl, .bl (!c), H', I', rfl, qz⟩
end
end My
set_option Elab.async false
set_option linter.all false
set_option maxRecDepth 100000
set_option maxHeartbeats 4000000
namespace My
open PySem PySem.Spec PyProof.Rows L2
/-- an error's object: of which class it is, where its own dict lies -/
def ErrO (a : Addr) (cls : Value) (d : Option Addr) : HO := .ext fun h => ∃ oe vs, h.get? a = some oe ∧ Zc cls d oe ∧ oe.data = .fields vs
end My
set_option Elab.async false
set_option linter.all false
set_option maxRecDepth 100000
set_option maxHeartbeats 4000000
namespace My
open PySem PySem.Spec PyProof.Rows L2
/-- a kept error of the class at C, its own dict at d with these fields -/
structure Kept (H : Hp) (a C d : Addr) (fs : List (Str × V)) : Prop where
  er : H a = some (ErrO a (.ref C) (some d))
  di : H d = some (.xd fs)
theorem Kept.same {H H' : Hp} {a C d : Addr} {fs : List (Str × V)} (k : Kept H a C d fs) (s : Same H H') : Kept H' a C d fs := ⟨s _ _ k.er, s _ _ k.di⟩
end My
set_option Elab.async false
set_option linter.all false
set_option maxRecDepth 100000
set_option maxHeartbeats 4000000
namespace My
open PySem PySem.Spec PyProof.Rows L2
/-- what the value holds, as data -/
def DpO (K : PySem.W.Frag) (H : Hp) (v : V) (d : PyData) : Prop := (Dp K H v d ∧ d.hasDict = false) ∨ ∃ a : Addr, v = .ref a ∧ H a = some (.dK []) ∧ d = .dict []
section
variable {X : Cx} {pins : List (Addr × Obj)} {σ : L2.St} {H : Hp} {s : Shared}
theorem empty_reads {a : Addr} (I : Inv X pins σ H s) (h : H a = some (.dK [])) : Reads s.heap (.ref a) (.dict []) [a] ∧ a ≠ sysModules := by
  obtain ⟨_, ns, vs, kv, o, es, ep, ho, hx, hd, _, hp, _⟩ := (show ObjOk X.prog X.w H s.heap a (.dK []) from I.hok a _ h)
  cases kv
  have e0 : es.toList = [] := by
    cases q : es.toList with
    | nil => rfl
    | cons y r =>
      rw [q] at hp
      cases hp
  refine ⟨?_, fun z => by rw [z] at ns; exact absurd ns (by decide)⟩
  have k : ReadsAll s.heap (es.toList.map (·.key)) (([] : List (PyData × PyData)).map (·.1)) [] := by rw [e0]; exact .nil
  have v : ReadsAll s.heap (es.toList.map (·.val)) (([] : List (PyData × PyData)).map (·.2)) [] := by rw [e0]; exact .nil
  exact Reads.dict ho hx.1 hd k v
def rReprO (K : PySem.W.Frag) : List V → Hp → VK → Prop := fun xs H Q => ∃ (x : V) (d : PyData), xs = [x] ∧ DpO K H x d ∧ d.showable = true ∧ d.depth ≤ 64 ∧ d.shown.length ≤ sizeLine ∧ Q (.str d.shown) H
theorem cr_reprO (gd : X.A.guards = some []) (hu : X.A.units + 70 < cLine) : CallR X (.builtin "repr") (rReprO X.K) := by
  intro pins s σ H xs us Q I r h
  obtain ⟨x, d, rfl, dp, sh, dep, sz, q⟩ := h
  obtain ⟨u, rfl, ru⟩ := r.one
  have fin : ∀ (a : Addr) (as : List Addr), Reads s.heap (.ref a) d as → (d.hasDict = true → sysModules ∉ as) → wpAny (model X.prog X.w) X.A (call (.builtin "repr") [.ref a]) (fun v s' => ∃ z H', Inv X pins σ H' s' ∧ RelV z v ∧ Q z H') X.xe s := fun a as rd hm =>
    repr_of_reads' rd sh hm gd (by omega) (fun _ _ e => e) (fun h' u tk hk => ⟨.str _, H, I.kept hk, ⟨_, rfl⟩, q⟩) sz
  rcases dp with ⟨dp, nd⟩ | ⟨a, rfl, ha, rfl⟩
  · obtain ⟨as, rd⟩ := Dp.reads I d x u dp ru
    cases dp with
    | non =>
      cases (show u = Value.none from ru)
      exact P.repr_of_none ⟨.str _, H, I.tok _, ⟨_, rfl⟩, q⟩
    | bl b =>
      cases (show u = Value.bool b from ru)
      refine P.repr_of_bool ⟨.str _, H, I.tok _, ⟨_, rfl⟩, ?_⟩
      cases b <;> exact q
    | int i =>
      obtain ⟨t, rfl⟩ := ru
      refine P.repr_of_int (by simpa only [PyData.showable, decide_eq_true_eq] using sh) ⟨.str _, H, I.tok _, ⟨_, rfl⟩, q⟩
    | str z =>
      obtain ⟨t, rfl⟩ := ru
      refine P.repr_of_str ⟨.str _, H, I.tok _, ⟨_, rfl⟩, ?_⟩ ?_
      · simpa only [PyData.shown] using q
      · simpa only [PyData.shown] using sz
    | lst h1 h2 =>
      cases (show u = Value.ref _ from ru)
      exact fin _ as rd (PyData.noDict_hsm nd)
    | tup h1 h2 =>
      cases (show u = Value.ref _ from ru)
      exact fin _ as rd (PyData.noDict_hsm nd)
  · cases (show u = Value.ref a from ru)
    obtain ⟨rd, na⟩ := empty_reads I ha
    exact fin a [a] rd fun _ hm => na (List.mem_singleton.mp hm).symm
end
end My
set_option Elab.async false
set_option linter.all false
set_option maxRecDepth 100000
set_option maxHeartbeats 4000000
set_option Elab.async false
set_option linter.all false
set_option maxRecDepth 100000
set_option maxHeartbeats 4000000
namespace My
open PySem PySem.Spec PyProof.Rows L2
abbrev tab0 : Obj := { cls := .none, data := .fields #[] }
/-- where the maker's code object lies, its table, which is empty -/
structure Maker (K : PySem.W.Frag) (h : Heap) (c P : Addr) : Prop where
  tab : h.get? P = some tab0
  out : K.lookup P = none
  code : PySem.W.CodeHd h c P
theorem callT {P : Program} {w : World} {K : PySem.W.Frag} {mg mb : Str → Option Value} {k : Nat} {fa a c Pt : Addr} {fd : FuncData} {x : Str} {sp : Sp} {s1 : Shared} {us : List Value} {ns : List Int}
    (inK : K.In s1.heap) (gl : s1.heap.Ns mainGlobals mg) (bi : s1.heap.Ns builtinsNs mb) (bb : ∀ x : Str, x ≠ "__name__" → mb x = bootBuiltins x) (nol : s1.heap.NoLimit) (gens : s1.gens = #[]) (mk : Maker K s1.heap c Pt)
    (bmod : ∃ (bm : Addr) (ob : Obj), mg "__builtins__" = some (.ref bm) ∧ bm ≠ builtinsNs ∧ s1.heap.get? bm = some ob ∧ ob.cls = .type "module" ∧ ob.dict = some builtinsNs ∧ ob.data = .plain)
    (scr : s1.heap.get? a = some { cls := .type "list", data := .seq us.toArray }) (iv : IntsAre us ns) (few : ns.length ≤ sizeLine) (room : Room k callerA)
    (F : ∀ base : Heap, K.In base → base.Ns mainGlobals mg → LamX.TabB base mg c Pt → FnG P w K mg base CX0 k fa fd [x] sp) (bnd : ∀ (s : Shared) (u : Value), BindsTo s fd ⟨[u], []⟩ [(x, u)])
    (hsp : ∀ H : Hp, H Pt = some (.tbl #[]) → SqL K H a (ns.map V.int) → sp [.ref a] H (fun v _ => v = .bl true) fun _ _ _ => False) :
    codeAny (model P w) callerA (.call (.ref fa) ⟨[.ref a], []⟩) (fun r s' => r = .ok (.ret (.bool true)) ∧ OldK s1.heap s'.heap ∧ s'.os = s1.os ∧ AllBare s'.gens) s1 := by
  have rv := vals_ints iv
  have cnt := iv.length
  have aP : a ≠ Pt := fun z => by
    have e := mk.tab
    rw [← z, scr] at e
    have d : Data.seq us.toArray 0 = Data.fields #[] := congrArg Obj.data (Option.some.inj e)
    cases d
  have main : ∀ H : Hp, H Pt = some (.tbl #[]) → (∀ b, H b = none ∨ b = Pt ∨ (b = a ∧ ∃ ob xs, H b = some (.frz ob (.lst xs)))) → SqL K H a (ns.map V.int) → HOk P w H s1.heap → (H a ≠ none → K.lookup a = none) →
      codeAny (model P w) callerA (.call (.ref fa) ⟨[.ref a], []⟩) (fun r s' => r = .ok (.ret (.bool true)) ∧ OldK s1.heap s'.heap ∧ s'.os = s1.os ∧ AllBare s'.gens) s1 := by
    intro H hP only seq ok off
    have free : ∀ {b : Addr}, b ≠ Pt → (b = a → H b = none) → H b = none := fun {b} n1 n2 => by
      rcases only b with z | z | ⟨z, _⟩
      · exact z
      · exact absurd z n1
      · exact n2 z
    have noSeq : ∀ {b : Addr} {o : Obj}, s1.heap.get? b = some o → (∀ xs n, o.data ≠ .seq xs n) → b ≠ Pt → H b = none := fun {b o} e d n => free n fun z => by
      rw [z, scr] at e
      cases e
      exact absurd rfl (d us.toArray 0)
    have noTab : ∀ {b : Addr} {o : Obj}, s1.heap.get? b = some o → o.data ≠ .fields #[] → b ≠ Pt := fun {b o} e d z => by
      rw [z, mk.tab] at e
      cases e
      exact d rfl
    have dict : ∀ {b : Addr} {o : Obj} {es : Array DictEntry} {ep : Nat}, s1.heap.get? b = some o → o.data = .dict es ep → H b = none := fun {b o es ep} e d =>
      noSeq e (fun xs n z => by rw [d] at z; cases z) (noTab e fun z => by rw [d] at z; cases z)
    have get : ∀ {b : Addr} {o : Obj}, s1.heap.get? b = some o → H b = none → (hidT s1.heap H).get? b = some o := fun e z => hidT_get e z
    have names : ∀ {b : Addr} {m : Str → Option Value}, s1.heap.Ns b m → (hidT s1.heap H).Ns b m := fun ⟨o, es, ep, e, d, q⟩ => ⟨o, es, ep, get e (dict e d), d, q⟩
    have inB : K.In (hidT s1.heap H) := fun b o e => get (inK b o e) (free (fun z => by rw [z, mk.out] at e; cases e) fun z => by
      subst z
      refine Classical.byContradiction fun y => ?_
      rw [off y] at e
      cases e)
    have md : Mod K mg (hidT s1.heap H) := ⟨inB, names gl, ⟨mb, names bi, bb⟩, let ⟨mc, q1, q2⟩ := nol; ⟨mc, names q1, q2⟩⟩
    have env : Env0 P w K mg (hidT s1.heap H) callerA [] s1 H := ⟨rfl, md, fun b o e => of_hidT e, Nat.le_of_eq (hidT_size _ _), trivial, fun b hb => absurd (show b ∈ ([] : List Addr) from hb) (by simp), ok, .of_eq gens⟩
    have TB : LamX.TabB (hidT s1.heap H) mg c Pt := by
      obtain ⟨og, eg, pg, g1, g2, _⟩ := id gl
      have gP : mainGlobals ≠ Pt := noTab g1 fun z => by rw [g2] at z; cases z
      refine ⟨?_, ?_, gP⟩
      · obtain ⟨oc, vs, file, tf, flags, tg, inF, text, tt, e1, e2, e3, e4, rest⟩ := mk.code
        have ne : oc.data ≠ .fields #[] := fun z => by
          rw [e3] at z
          cases z
          simp at e4
        exact ⟨oc, vs, file, tf, flags, tg, inF, text, tt, get e1 (noSeq e1 (fun xs n z => by rw [e3] at z; cases z) (noTab e1 ne)), e2, e3, e4, rest⟩
      · obtain ⟨bm, ob, b1, b2, b3, b4, b5, b6⟩ := bmod
        have n1 : bm ≠ Pt := noTab b3 fun z => by rw [b6] at z; cases z
        have n2 : bm ≠ mainGlobals := fun z => by
          rw [z, g1] at b3
          cases b3
          rw [g2] at b6
          cases b6
        exact ⟨bm, ob, b1, b2, n2, n1, get b3 (noSeq b3 (fun xs n z => by rw [b6] at z; cases z) n1), b4, b5, b6⟩
    have run := (F _ inB (names gl) TB).run callerA [] s1 H ⟨[.ref a], []⟩ [.ref a] [.ref a] _ _ rfl room env (bnd s1 (.ref a)) (.cons rfl .nil) (hsp H hP seq)
    refine codeAny_mono run fun r s' h => ?_
    match r, h with
    | .error e, h => exact h.elim
    | .ok .next, h => exact h.elim
    | .ok .brk, h => exact h.elim
    | .ok .cont, h => exact h.elim
    | .ok (.ret u), ⟨v, H', os, bare, un, ok', ru, q⟩ =>
      cases (show v = V.bl true from q)
      cases (show u = Value.bool true from ru)
      obtain ⟨more, g⟩ := un.tbls Pt #[] hP
      have grown : s'.heap.get? Pt = some { cls := .none, data := .fields (#[] ++ more) } := ok' Pt _ g
      have same : ∀ b o, b ≠ Pt → s1.heap.get? b = some o → s'.heap.get? b = some o := fun b o nb e => by
        rcases only b with z | z | ⟨_, ob, xs, z⟩
        · exact un.keep b o e z (by intro y; exact absurd (show b ∈ ([] : List Addr) from y) (by simp)) (by simp)
        · exact absurd z nb
        · obtain ⟨g1, _⟩ := ok b _ z
          obtain ⟨g2, _⟩ := ok' b _ (un.frzs b ob _ z)
          rw [e] at g1
          cases g1
          exact g2
      refine ⟨rfl, ⟨fun b o e => ?_, fun b o e => ?_⟩, os, bare⟩
      · by_cases z : b = Pt
        · subst z
          cases mk.tab.symm.trans e
          exact .inr (.inl ⟨(mk.code.tab mk.tab).isCodeTable, rfl, #[], more, rfl, grown⟩)
        · exact .inl (same b o z e)
      · by_cases z : b = Pt
        · subst z
          exact ⟨_, grown⟩
        · exact ⟨o, same b o z e⟩
  cases own : K.lookup a with
  | some o =>
    have e := inK a o own
    rw [scr] at e
    cases e
    refine main (fun b => if b = Pt then some (.tbl #[]) else none) (if_pos rfl) (fun b => ?_) (.inr ⟨_, us.toArray, _, own, rfl, rfl, rfl, by rw [List.size_toArray, cnt]; exact few, by simpa using rv⟩) (fun b u z => ?_) fun z => absurd (if_neg aP) z
    · by_cases y : b = Pt
      · exact .inr (.inl y)
      · exact .inl (if_neg y)
    · by_cases y : b = Pt
      · cases (if_pos y).symm.trans z
        subst y
        exact mk.tab
      · cases (if_neg y).symm.trans z
  | none =>
    refine main (fun b => if b = Pt then some (.tbl #[]) else if b = a then some (.frz { cls := .type "list", data := .seq us.toArray } (.lst (ns.map V.int))) else none) (if_pos rfl) (fun b => ?_) (.inl (.inr ⟨_, (if_neg aP).trans (if_pos rfl)⟩)) (fun b u z => ?_) fun _ => own
    · by_cases y : b = Pt
      · exact .inr (.inl y)
      · by_cases y2 : b = a
        · exact .inr (.inr ⟨y2, _, _, (if_neg y).trans (if_pos y2)⟩)
        · exact .inl ((if_neg y).trans (if_neg y2))
    · by_cases y : b = Pt
      · cases (if_pos y).symm.trans z
        subst y
        exact mk.tab
      · by_cases y2 : b = a
        · cases ((if_neg y).trans (if_pos y2)).symm.trans z
          subst y2
          exact ⟨scr, by rw [List.length_map]; exact few, us, _, rv, scr⟩
        · cases ((if_neg y).trans (if_neg y2)).symm.trans z
/-- the def x of the top's text: its code object, its table -/
def OwnT (K : PySem.W.Frag) (mg : Str → Option Value) (h : Heap) (x : Str) : Prop := ∀ (f c P : Addr) (o : Obj) (fd : FuncData) (e : Value) (dd : Option Addr) (vs : Array Value) (sl : Array (Option Value)), mg x = some (.ref f) → K.lookup f = some o → o.data = .func fd → fd.code = .ref c →
  K.lookup c = some ⟨e, dd, .fields vs, sl⟩ → vs[11]? = some (.ref P) → h.get? P = some tab0 ∧ PySem.W.CodeHd h c P
theorem walkT {l : PySem.W.OpenLaw} {n k : Nat} {q : Program} {loose : List Str} {XP : (Str → Option Value) → Heap → Prop} {YP : World → Heap → Prop} {d : DefRec} {K : Params → PySem.W.Frag} {sp : World → Addr → Sp} {x y : Str}
    (hn : l.most = some n) (few : n ≤ sizeLine) (hdf : d.params.defaults = []) (room : Room k callerA) (hY : ∀ (w : World) (h : Heap), YP w h → (K w.params).In h) (rec : ((recsOf q).any fun e => e.name == y) = true)
    (F : ∀ (w : World) (mg : Str → Option Value) (fa : Addr) (h : Heap), (K w.params).In h → h.Ns mainGlobals mg → mg d.name = some (.ref fa) → OwnT (K w.params) mg h y →
      ∃ (fd : FuncData) (c Pt : Addr), (∀ (s : Shared) (u : Value), BindsTo s fd ⟨[u], []⟩ [(x, u)]) ∧ Maker (K w.params) h c Pt ∧ ∀ base : Heap, (K w.params).In base → base.Ns mainGlobals mg → LamX.TabB base mg c Pt → FnG l.prog w (K w.params) mg base CX0 k fa fd [x] (sp w Pt))
    (hsp : ∀ (w : World) (H : Hp) (a Pt : Addr) (ns : List Int), ns.length ≤ n → (∀ z ∈ ns, Builtin.Int.intBits z ≤ 1048576) → H Pt = some (.tbl #[]) → SqL (K w.params) H a (ns.map V.int) → sp w Pt [.ref a] H (fun v _ => v = .bl true) fun _ _ _ => False) :
    PySem.W.WalkO q loose XP YP l.row.toRowW d [] (fun f vs => PySem.call f vs) := by
  refine Att.attach_callB hn hdf fun w s0 s1 mg mb fa o pm cd doc a us ns G Y ho hd hcd hmg obj iv len bits gens => ?_
  have inK := hY w _ Y
  have own : OwnT (K w.params) mg s1.heap y := fun f c P o1 fd1 e dd vs sl k0 k1 k2 k3 k4 k5 => by
    obtain ⟨dL, hm, hq⟩ := List.any_eq_true.mp rec
    obtain ⟨a', o', fd', c', P', h1, h2, h3, h4, h5, h6⟩ := G.T.tab dL hm
    rw [beq_iff_eq.mp hq, k0] at h1
    cases h1
    rw [inK _ _ k1] at h2
    cases h2
    rw [k2] at h3
    cases h3
    rw [k3] at h4
    cases h4
    have hd := PySem.W.CodeHd.of h5 h6
    obtain ⟨⟨oc, vc, e1, _, e3, e4⟩, hP⟩ := h6
    rw [inK _ _ k4] at e1
    cases e1
    cases e3
    rw [k5] at e4
    cases e4
    exact ⟨hP, hd⟩
  obtain ⟨fd, c, Pt, bnd, mk, hF⟩ := F w mg fa _ inK G.T.g hmg own
  exact callT inK G.T.g G.T.b G.T.builtins G.T.nolimit gens mk G.T.bmain obj iv (Nat.le_trans len few) room hF bnd fun H hP seq => hsp w H a Pt ns len bits hP seq
end My
set_option Elab.async false
set_option linter.all false
set_option maxRecDepth 100000
set_option maxHeartbeats 4000000
namespace My
open PySem PySem.Spec PyProof.Rows L2
theorem kit_ref {K : PySem.W.Frag} {C D : Addr} {b : Bool} (hd : PySem.W.hasDictIn K D = true) (ty : PySem.W.typeIn K (.ref D) = some (.type "type")) (sub : PySem.W.subIn K (.ref C) (.ref D) = some b) (self : PySem.W.subIn K (.ref C) (.ref C) = some true) : PySem.W.kitOne K (.ref C) (.ref D) = some b := by
  unfold PySem.W.kitOne
  by_cases e : C = D
  · subst e
    rw [self] at sub
    rw [if_pos (beq_iff_eq.mpr rfl)]
    exact sub
  · rw [if_neg (fun q => e (Value.ref.inj (beq_iff_eq.mp q)))]
    obtain ⟨cd, hc, _⟩ := PySem.W.any_some hd
    unfold PySem.W.kitCls
    have z : ((PySem.W.clsIn K D).isSome && PySem.W.typeIn K (.ref D) == some (.type "type")) = true := by rw [hc, ty]; rfl
    simp only [z, if_true]
    exact sub
section
variable {prog : Program} {w : World} {A : Around} {E : Value → Shared → Prop} {s : Shared} {K : PySem.W.Frag} {x C f : Addr} {ox : Obj} {od : Option Obj} {b t : Value}
theorem rc_eq {Q : Value → Shared → Prop} (hu : A.units < cLine) (inK : K.In s.heap) (I : PySem.W.InstAt s.heap x ox C od) (hb : PySem.W.Looks (model prog w) s.heap (typeOf b) t) (ht : t = .ref C ∨ PySem.W.subIn K t (.ref C) = some false)
    (hs : PySem.W.findIn K (.ref C) "__eq__" = some (some (.ref f))) (hf : PySem.W.isFn K (.ref f) = true) (one : oneThing? .Eq (.ref x) b = none)
    (h : wpAny (model prog w) A (call (.ref f) [.ref x, b]) (fun v s' => ∃ c, v = .bool c ∧ Q (.bool c) s') E s) : wpAny (model prog w) A (richCompare .Eq (.ref x) b) Q E s := by
  have try1 : wpAny (model prog w) A (tryCompare (.ref x) "__eq__" b) (fun r s' => ∃ v, r = some v ∧ Q v s') E s := by
    unfold tryCompare
    refine wpAny_bind (PySem.W.ifBound_K inK I hs hf (wpAny_mono h (fun v s' z => ?_) fun _ _ e => e))
    obtain ⟨c, rfl, q⟩ := z
    exact wpAny_pure ⟨_, rfl, q⟩
  unfold richCompare
  rw [one]
  refine wpAny_holding (wpAny_bind (wpAny_cRoomFor hu ?_))
  refine wpAny_bind (I.type.here (wpAny_bind (hb.here ?_)))
  by_cases e : t = .ref C
  · subst e
    have z : (Value.ref C != Value.ref C) = false := by simp
    simp only [z, Bool.false_eq_true, if_false]
    refine wpAny_bind (wpAny_pure ?_)
    simp only [Bool.false_eq_true, if_false]
    refine wpAny_bind (wpAny_mono try1 (fun r s' z => ?_) fun _ _ e => e)
    obtain ⟨v, rfl, q⟩ := z
    exact wpAny_pure q
  · have hne : (Value.ref C != t) = true := bne_iff_ne.mpr fun z => e z.symm
    have L := PySem.W.looks_subIn (M := model prog w) inK (ht.resolve_left e)
    simp only [hne, if_true]
    refine wpAny_bind (L.here ?_)
    simp only [Bool.false_eq_true, if_false]
    refine wpAny_bind (wpAny_mono try1 (fun r s' z => ?_) fun _ _ e => e)
    obtain ⟨v, rfl, q⟩ := z
    exact wpAny_pure q
end
section
variable {X : Cx} {CX : CXT} {n : Nat} {C g : Addr} {sp : Sp} {E : XK}
/-- what the class at C has for == -/
structure EqO (K : PySem.W.Frag) (C g : Addr) : Prop where
  eq : PySem.W.findIn K (.ref C) "__eq__" = some (some (.ref g))
  fn : PySem.W.isFn K (.ref g) = true
def rEqO (K : PySem.W.Frag) (C : Addr) (sp : Sp) (E : XK) : R2 := fun x y H Q => ∃ (a dx : Addr) (fs : List (Str × V)) (t : Value), x = .ref a ∧ H a = some (.ins C dx fs) ∧ TyX K H y t ∧ (t = .ref C ∨ PySem.W.subIn K t (.ref C) = some false) ∧ sp [x, y] H (fun z H' => ∃ c, z = .bl c ∧ Q (.bl c) H') E
theorem op_eqO (R : EqO X.K C g) (F : FnR X.prog X.w X.K X.mg X.base CX n g sp) (hr : Room (n + 1) X.A) (hx : Passes CX X E) : OpR X (compareOp .Eq) (rEqO X.K C sp E) := by
  intro pins s σ H x y v u Q I rx ry h
  obtain ⟨a, dx, fs, t, rfl, ha, ty, ht, q⟩ := h
  cases (show v = Value.ref a from rx)
  obtain ⟨mA, O, _⟩ := ins_get I.hok ha
  obtain ⟨od, J, _⟩ := O.look
  obtain ⟨P, Z, hP, _⟩ := kit_of I ry ty
  show wpAny _ _ (richCompare .Eq (.ref a) u) _ _ _
  refine rc_eq (by have := hr.un; omega) I.kIn J (Z.ty (model X.prog X.w) s.heap I.kIn hP) ht R.eq R.fn (oneThing_ref _ _ _) (wpAny_mono (wpAny_call (run_fnR (us := [.ref a, u]) (vs := [.ref a, y]) F (hr.mono (Nat.le_succ _)) hx I (.cons rfl (.cons ry .nil)) q)) (fun z s' k => ?_) fun _ _ e => e)
  obtain ⟨z', H', I', rz, c, ez, qz⟩ := k
  subst ez
  cases (show z = Value.bool c from rz)
  exact ⟨c, rfl, .bl c, H', I', rfl, qz⟩
def rStrO (C : Addr) (sp : Sp) (E : XK) : List V → Hp → VK → Prop := fun xs H Q => ∃ (a dx : Addr) (fs : List (Str × V)), xs = [.ref a] ∧ H a = some (.ins C dx fs) ∧ sp [.ref a] H (fun z H' => ∃ y : Str, z = .str y ∧ Q (.str y) H') E
theorem call_strO (hs : PySem.W.findIn X.K (.ref C) "__str__" = some (some (.ref g))) (hf : PySem.W.isFn X.K (.ref g) = true) (F : FnR X.prog X.w X.K X.mg X.base CX n g sp) (hr : Room (n + 2) X.A) (hx : Passes CX X E) : CallR X (.type "str") (rStrO C sp E) := by
  intro pins s σ H xs us Q I r h
  obtain ⟨a, dx, fs, rfl, ha, q⟩ := h
  obtain ⟨u, rfl, ru⟩ := r.one
  cases (show u = Value.ref a from ru)
  obtain ⟨mA, O, _⟩ := ins_get I.hok ha
  obtain ⟨od, J, _⟩ := O.look
  refine PySem.W.kso_call (by have := hr.un; show X.A.units + 1 + 1 < cLine; omega) I.kIn J hs hf (wpAny_mono (wpAny_call (SlX.run_at (us := [.ref a]) (ws := [.ref a]) F hr.in1.in1 I.env0.in1.in1 hx I (.cons rfl .nil) q)) (fun w s' z => ?_) fun _ _ x => x)
  obtain ⟨z', H', I', rz, y, ey, qz⟩ := z
  subst ey
  obtain ⟨t, e⟩ := (show ∃ t, w = Value.str y t from rz)
  cases e
  exact ⟨.str y, H', I', ⟨_, rfl⟩, qz⟩
end
end My
set_option linter.all false
namespace My
structure OkL (ls : List Int) : Prop where
  ne : 0 < ls.length
  pos : ∀ l ∈ ls, 1 ≤ l
theorem sum_pos {ls : List Int} (h : ∀ l ∈ ls, 1 ≤ l) : (ls.length : Int) ≤ ls.sum := by
  induction ls with
  | nil => simp
  | cons a r ih =>
    have h1 := h a (by simp)
    have h2 := ih fun l hl => h l (by simp [hl])
    rw [List.sum_cons, List.length_cons]
    omega
theorem OkL.sum {ls : List Int} (o : OkL ls) : 0 < ls.sum := by
  have := sum_pos o.pos
  have := o.ne
  omega
end My
set_option linter.all false
namespace My
inductive Kd where
  | bk | ah | so | wh | la | sm
end My
set_option Elab.async false
set_option linter.all false
set_option maxRecDepth 100000
set_option maxHeartbeats 4000000
set_option Elab.async false
set_option linter.all false
set_option maxRecDepth 100000
set_option maxHeartbeats 4000000
namespace My
open PySem PySem.Spec PyProof.Rows L2
section
variable {X : Cx} {CX : CXT} {k : Nat} {p0 g0 C : Addr} {fd : FuncData} {ps ks : List Str} {sp : Sp} {E : XK} {m : Str} {pos apos : Pos} {o : Expr} {kws : List Keyword} {ta : TE} {tk : TA} {mc : Value}
variable {gg : List Value → List Value → List Value} {gV : List V → List V → List V} {pl : Sem Bool}
/-- C.m(k = v, ..): a classmethod by keywords alone -/
def tCMethK (C : Addr) (sp : Sp) (gV : List V → List V → List V) (E : XK) (ta : TE) (tk : TA) : TE := fun σ H Q => ta σ H fun x H1 => x = .ref C ∧ tk σ H1 fun zs H2 => sp (gV [.ref C] zs) H2 Q E
theorem pe_cmethK (he : PE X o ta) (r : ClX.CRead X.K C mc) (c : ClX.CMet X.K C mc m p0 g0) (F : FnOk X.prog X.w X.K X.mg X.base CX k g0 fd ps sp) (hr : Room k X.A) (hb : KBinds X.K fd ps ks gg gV) (hx : Passes CX X E) (hkw : PK X kws tk)
    (hall : (backToKw pos (keywordEach kws X.env)).all (·.1.isSome) = true := by rfl) (hks : (backToKw pos (keywordEach kws X.env)).filterMap (·.1) = ks := by rfl)
    (hpl : ((backTo pos (starEach [] X.env)).any (·.1) || (backToKw pos (keywordEach kws X.env)).any (·.1.isNone)) = false := by rfl)
    (ht : eval (.Call (.Attribute o m apos) [] kws pos) X.env = (do
      let z ← eval o X.env
      standAt apos.atName
      let (fn, fst) ← holding [z] (getMethod z m pl)
      callWith pos fn fst (backTo pos (starEach [] X.env)) (backToKw pos (keywordEach kws X.env))) := by rfl) :
    PE X (.Call (.Attribute o m apos) [] kws pos) (tCMethK C sp gV E ta tk) := by
  refine ⟨fun pins s σ H Q I h => ?_⟩
  refine PySem.W.methodCall_KW (pl := pl) (thn (he.run pins s σ H _ I h) fun u s1 ⟨x, H1, I1, rx, ex, q⟩ => ?_) ht
  subst ex
  obtain rfl : u = Value.ref C := rx
  refine ClX.getmethcm_ok I1 r c fun s2 I2 => ?_
  refine PySem.W.callWith_of hpl (PySem.W.keeps_M (K := X.K) (self := .ref C) c.fi) (evalArgs_kw2_nil hall (thn (hkw.run pos _ s2 σ H1 _ I2 q) fun ws s3 ⟨zs, H2, I3, rz, q2⟩ => ⟨⟨ClX.pin_at I3, I3.kIn⟩, ?_⟩))
  rw [hks]
  have r2 : Vals (gV [.ref C] zs) (gg [.ref C] ws) := hb.rel (.cons rfl .nil) rz
  have hl : (gg [.ref C] ws).length = ps.length := by rw [← r2.length]; exact F.len _ _ _ _ q2
  have run := F.run X.A X.stack s3 H2 ⟨[.ref C], ks.zip ws⟩ _ _ Q E hr I3.env0 (hb.to s3 [.ref C] ws I3.kIn hl) r2 q2
  have z : wpAny (model X.prog X.w) X.A (call (.ref s1.heap.objs.size) [] (ks.zip ws)) (EP X ((s1.heap.objs.size, PySem.W.methodObj (.ref g0) (.ref C)) :: pins) σ Q) X.xe s3 := by
   refine wpAny_call (PySem.W.method_call (ClX.pin_at I3) (codeAny_mono run fun r s' hq => ?_))
   cases r with
   | error e => exact hx _ σ H2 s3 e s' I3 hq
   | ok fl =>
     cases fl with
     | ret u => exact I3.after hq
     | next => exact False.elim hq
     | brk => exact False.elim hq
     | cont => exact False.elim hq
  exact thn z fun _ _ y => ClX.unpinE y
end
end My
set_option Elab.async false
set_option linter.all false
set_option maxRecDepth 100000
set_option maxHeartbeats 4000000
namespace My
open PySem PySem.Spec PyProof.Rows L2
def repS (a : Str) (k : Int) : Str := ⟨(List.replicate k.toNat a.cps).foldl (· ++ ·) #[]⟩
def rMulS : R2 := fun x y H Q => ∃ (a : Str) (k : Int), x = .str a ∧ y = .int k ∧ 2 ≤ k ∧ k ≤ 1000 ∧ 0 < a.length ∧ a.length ≤ 1000 ∧ (repS a k).length ≤ sizeLine ∧ Q (.str (repS a k)) H
theorem op_mulS {X : Cx} : OpR X (binaryOp .Mult) rMulS := by
  intro pins s σ H x y v u Q I rx ry h
  obtain ⟨a, k, rfl, rfl, k0, k1, a0, a1, hz, q⟩ := h
  obtain ⟨t, rfl⟩ := rx
  obtain ⟨t', rfl⟩ := ry
  have e1 : ¬ k < 1 := by omega
  have e2 : (k == 1 || a.length == 0) = false := by
    rw [Bool.or_eq_false_iff]
    exact ⟨by rw [beq_eq_false_iff_ne]; omega, by rw [beq_eq_false_iff_ne]; omega⟩
  have hm : a.length * k.toNat ≤ 1000000 := Nat.le_trans (Nat.mul_le_mul a1 (show k.toNat ≤ 1000 by omega)) (by decide)
  refine PySem.P.mul_str ?_ (fun _ _ => ?_) (fun _ _ => ?_) ?_
  · rw [decide_eq_false (by omega), decide_eq_false (by omega)]; rfl
  · have hd : (1000000 : Int) ≤ (2 ^ 63 - 1) / k := by
      rw [Int.le_ediv_iff_mul_le (by omega)]
      omega
    omega
  · unfold Builtin.Str.tooLong
    simp only [decide_eq_false_iff_not]
    have : (1000000 : Nat) ≤ sizeLine := by decide
    omega
  · rw [if_neg e1, e2]
    exact ⟨hz, ⟨.str _, H, I.tok _, ⟨_, rfl⟩, q⟩⟩
theorem str_assoc (a b c : Str) : a ++ b ++ c = a ++ (b ++ c) := by
  show (⟨a.cps ++ b.cps ++ c.cps⟩ : Str) = ⟨a.cps ++ (b.cps ++ c.cps)⟩
  rw [Array.append_assoc]
theorem join_two (sep a b : Str) : ∀ (xs ys : List Str), Str.join sep (xs ++ (a ++ sep ++ b) :: ys) = Str.join sep (xs ++ a :: b :: ys)
  | [], [] => rfl
  | [], y :: ys => by
    show a ++ sep ++ b ++ sep ++ Str.join sep (y :: ys) = a ++ sep ++ (b ++ sep ++ Str.join sep (y :: ys))
    rw [str_assoc (a ++ sep) b sep, str_assoc (a ++ sep)]
  | [x], ys => by
    show x ++ sep ++ Str.join sep ((a ++ sep ++ b) :: ys) = x ++ sep ++ Str.join sep (a :: b :: ys)
    rw [show Str.join sep ((a ++ sep ++ b) :: ys) = Str.join sep (a :: b :: ys) from join_two sep a b [] ys]
  | x :: x2 :: xs, ys => by
    show x ++ sep ++ Str.join sep (x2 :: xs ++ (a ++ sep ++ b) :: ys) = x ++ sep ++ Str.join sep (x2 :: xs ++ a :: b :: ys)
    rw [join_two sep a b (x2 :: xs) ys]
end My
set_option Elab.async false
set_option linter.all false
set_option maxRecDepth 100000
set_option maxHeartbeats 4000000
namespace My
open PySem PySem.Spec PyProof.Rows L2
def top (i : Nat) : Stmt := PySem.Challenge.pw_remadedays_k93_ties_read_and_written.main.body.getD i (.Pass ⟨0, 0, 0, 0⟩)
abbrev sWhole : Stmt := top 7
abbrev sBetw : Stmt := top 8
abbrev sName : Stmt := top 9
abbrev sPen : Stmt := top 29
abbrev sDraw : Stmt := top 30
abbrev sPick : Stmt := top 31
abbrev sTieR : Stmt := inClass (top 17) 1
abbrev sTakeT : Stmt := top 27
abbrev sWds : Stmt := top 11
abbrev sWdsI : Stmt := inClass sWds 0
abbrev sOver : Stmt := inClass sWds 1
abbrev sAhd : Stmt := inClass sWds 2
abbrev sOneOf : Stmt := inClass sWds 4
abbrev sTake : Stmt := inClass sWds 5
abbrev sTakeN : Stmt := inClass sWds 7
abbrev sTakeE : Stmt := inClass sWds 9
abbrev sWdsOf : Stmt := top 12
abbrev sWrit : Stmt := top 13
/-- all that was tracked but the list at p is as it was -/
def SameBut (p : Addr) (H H' : Hp) : Prop := ∀ b o, b ≠ p → H b = some o → H' b = some o
theorem Same.but {p : Addr} {H H' : Hp} (s : Same H H') : SameBut p H H' := fun b o _ e => s b o e
theorem SameBut.trans {p : Addr} {H H1 H2 : Hp} (a : SameBut p H H1) (b : SameBut p H1 H2) : SameBut p H H2 := fun c o n e => b c o n (a c o n e)
theorem SameBut.refl (p : Addr) (H : Hp) : SameBut p H H := fun _ _ _ e => e
theorem same_new {H : Hp} {p : Addr} {o : HO} (h : H p = none) : Same H (upd H p o) := fun b q e => by
  rw [upd_ne (ne_of_none e h)]
  exact e
structure Txt (K : PySem.W.Frag) (mg : Str → Option Value) (C fWhole fBetw fDay fChk : Addr) : Prop where
  gWhole : mg "is_whole" = some (.ref fWhole)
  gBetw : mg "is_between" = some (.ref fBetw)
  zIsi : mg "isinstance" = none
  zInt : mg "int" = none
  zBool : mg "bool" = none
  zStr : mg "str" = none
  zMax : mg "max" = none
  zRepr : mg "repr" = none
  zLen : mg "len" = none
  zList : mg "list" = none
  zRange : mg "range" = none
  zAbs : mg "abs" = none
section
variable {P : Program} {w : World} {K : PySem.W.Frag} {mg : Str → Option Value} {base : Heap} {C fWhole fBetw fDay fChk : Addr}
def spWhole (K : PySem.W.Frag) : Sp := fun vs H Q _ => ∃ (x : V) (t : String) (b1 b2 : Bool), vs = [x] ∧ TyX K H x (.type t) ∧ kitB t "int" = some b1 ∧ kitB t "bool" = some b2 ∧ Q (.bl (b1 && !b2)) H
theorem scWhole : FnScope ["value"] ["value"] (defScope sWhole) := ⟨rfl, rfl, rfl, by decide +kernel, rfl, by decide +kernel, by decide +kernel⟩
theorem ok_whole {f : Addr} {fd : FuncData} (F : Fun K "is_whole" "is_whole" sWhole f fd) (T : Txt K mg C fWhole fBetw fDay fChk) : FnOk P w K mg base CX0 1 f fd ["value"] (spWhole K) := by
  refine F.ok scWhole (fun vs H Q E h => ?_) (fun cdv A outer s H vs Q E hr h => ?_)
  · obtain ⟨x, t, b1, b2, rfl, _⟩ := h
    rfl
  · obtain ⟨x, t, b1, b2, rfl, ty, h1, h2, k⟩ := h
    refine ⟨_, pss_one (ps_ret (pe_and (pe_callB call_isi (by rfl) T.zIsi (by decide +kernel) (pa_cons (pv 0) (pa_cons (pe_bltn (v := .ty "int") (by rfl) T.zInt (by decide +kernel) rfl) pa_nil)))
      (pe_one (pe_not (pe_callB call_isi (by rfl) T.zIsi (by decide +kernel) (pa_cons (pv 0) (pa_cons (pe_bltn (v := .ty "bool") (by rfl) T.zBool (by decide +kernel) rfl) pa_nil))))))), ?_⟩
    refine ⟨_, rfl, x, .ty "int", _, _, b1, rfl, .ty "int", ty, kit_ty h1, b1, rfl, ?_⟩
    cases b1 with
    | true => exact iteT ⟨_, rfl, x, .ty "bool", _, _, b2, rfl, .ty "bool", ty, kit_ty h2, b2, rfl, k⟩
    | false => exact iteF k
/-- value, low, high: low and high ints -/
def spBetw (K : PySem.W.Frag) : Sp := fun vs H Q _ => ∃ (x : V) (t : String) (b1 b2 : Bool) (lo hi : Int), vs = [x, .int lo, .int hi] ∧ TyX K H x (.type t) ∧ kitB t "int" = some b1 ∧ kitB t "bool" = some b2 ∧
  ((b1 && !b2) = false → Q (.bl false) H) ∧ ((b1 && !b2) = true → ∃ i, x = .int i ∧ Q (.bl (decide (lo ≤ i) && decide (i ≤ hi))) H)
theorem scBetw : FnScope ["value", "low", "high"] ["value", "low", "high"] (defScope sBetw) := ⟨rfl, rfl, rfl, by decide +kernel, rfl, by decide +kernel, by decide +kernel⟩
theorem ok_betw {f : Addr} {fd fdW : FuncData} (F : Fun K "is_between" "is_between" sBetw f fd) (T : Txt K mg C fWhole fBetw fDay fChk) (FW : Fun K "is_whole" "is_whole" sWhole fWhole fdW) (bW : Binds K fdW ["value"] []) :
    FnOk P w K mg base CX0 2 f fd ["value", "low", "high"] (spBetw K) := by
  have GW : FnOk P w K mg base CX0 1 fWhole fdW ["value"] (spWhole K) := ok_whole FW T
  refine F.ok scBetw (fun vs H Q E h => ?_) (fun cdv A outer s H vs Q E hr h => ?_)
  · obtain ⟨x, t, b1, b2, lo, hi, rfl, _⟩ := h
    rfl
  · obtain ⟨x, t, b1, b2, lo, hi, rfl, ty, h1, h2, k0, k1⟩ := h
    refine ⟨_, pss_one (ps_ret (pe_and (pe_call GW hr rfl T.gWhole FW.kp bW .nil pass0 (pa_cons (pv 0) pa_nil)) (pe_one (pe_chain op_le op_le (pv 1) (pv 0) (pv 2))))), ?_⟩
    refine ⟨_, rfl, x, t, b1, b2, rfl, ty, h1, h2, _, rfl, ?_⟩
    cases e : (b1 && !b2) with
    | false => exact iteF (k0 e)
    | true =>
      obtain ⟨i, rfl, k⟩ := k1 e
      refine iteT ⟨_, rfl, _, rfl, _, _, rfl, rfl, _, rfl, ?_⟩
      by_cases c : lo ≤ i
      · rw [decide_eq_true c] at k ⊢
        exact iteT ⟨_, rfl, _, _, rfl, rfl, k⟩
      · rw [decide_eq_false c] at k ⊢
        exact iteF k
end
structure PenAt (H : Hp) (p l : Addr) (N : Int) : Prop where
  ex : ∃ (ms : List Int) (n c : Int), H p = some (.lst [.ref l, .int n, .int c]) ∧ H l = some (.lst (ms.map V.int)) ∧ ms.length ≤ 63 ∧ 0 ≤ n ∧ n ≤ N ∧ 0 ≤ c
theorem PenAt.lst {H : Hp} {p l : Addr} {N : Int} (h : PenAt H p l N) : ∃ xs, H p = some (.lst xs) := let ⟨_, _, _, e, _⟩ := h.ex; ⟨_, e⟩
theorem PenAt.same {H H' : Hp} {p l : Addr} {N : Int} (h : PenAt H p l N) (s : Same H H') : PenAt H' p l N := by
  obtain ⟨ms, n, c, e1, e2, z⟩ := h.ex
  exact ⟨ms, n, c, s _ _ e1, s _ _ e2, z⟩
theorem PenAt.le {H : Hp} {p l : Addr} {N M : Int} (h : PenAt H p l N) (z : N ≤ M) : PenAt H p l M := by
  obtain ⟨ms, n, c, e1, e2, h1, h2, h3, h4⟩ := h.ex
  exact ⟨ms, n, c, e1, e2, h1, h2, by omega, h4⟩
theorem pen_ne {H : Hp} {p l : Addr} {ms : List Int} {n c : Int} (h1 : H p = some (.lst [.ref l, .int n, .int c])) (h2 : H l = some (.lst (ms.map V.int))) : l ≠ p := fun z => by
  subst z
  rw [h1] at h2
  have e := HO.lst.inj (Option.some.inj h2)
  cases ms with
  | nil => cases e
  | cons a r => cases e
theorem dp_ints {K : PySem.W.Frag} {H : Hp} : ∀ ns : List Int, DpAll K H (ns.map V.int) (ns.map PyData.int)
  | [] => .nil
  | a :: r => .cons (.int a) (dp_ints r)
section
variable {P : Program} {w : World} {K : PySem.W.Frag} {mg : Str → Option Value} {base : Heap} {C fWhole fBetw fDay fChk fDraw : Addr} {fdD : FuncData}
def spPen (K : PySem.W.Frag) : Sp := fun vs H Q _ => ∃ (a : Addr) (ns : List Int), vs = [.ref a] ∧ SqL K H a (ns.map V.int) ∧ ns.length ≤ 63 ∧ ∀ p l H', Same H H' → PenAt H' p l 0 → Q (.ref p) H'
theorem scPen : FnScope ["_law_script"] ["_law_script"] (defScope sPen) := ⟨rfl, rfl, rfl, by decide +kernel, rfl, by decide +kernel, by decide +kernel⟩
theorem ok_pen {f : Addr} {fd : FuncData} (F : Fun K "_law_pen" "_law_pen" sPen f fd) (T : Txt K mg C fWhole fBetw fDay fChk) : FnOk P w K mg base CX0 1 f fd ["_law_script"] (spPen K) := by
  refine F.ok scPen (fun vs H Q E h => ?_) (fun cdv A outer s H vs Q E hr h => ?_)
  · obtain ⟨a, ns, rfl, _⟩ := h
    rfl
  · obtain ⟨a, ns, rfl, ha, hl, k⟩ := h
    refine ⟨_, pss_one (ps_ret (pe_lst (pa_cons (pe_callTy call_list_of (by rfl) T.zList (by decide +kernel) (pa_cons (pe_slice sl_list (pv 0) po_none (po_some pe_int)) pa_nil)) (pa_cons pe_int (pa_cons pe_int pa_nil))))), ?_⟩
    refine ⟨_, rfl, _, rfl, a, _, rfl, ha, fun q hq => ?_⟩
    refine ⟨q, _, rfl, .inl (SqL.of upd_same), fun l hl' => ⟨(by show 3 ≤ sizeLine; decide), fun p hp => ?_⟩⟩
    refine k p l _ ((same_new hq).trans ((same_new hl').trans (same_new hp))) ?_
    obtain ⟨x, y, e⟩ : ∃ x y, cutV (ns.map V.int) none (some 63) = ((ns.drop x).take y).map V.int := ⟨HT.sIx (ns.map V.int).length 0 none, HT.sIx (ns.map V.int).length (ns.map V.int).length (some 63) - HT.sIx (ns.map V.int).length 0 none, by unfold cutV; rw [List.map_take, List.map_drop]⟩
    refine ⟨(ns.drop x).take y, 0, 0, upd_same, ?_, ?_, by omega, by omega, by omega⟩
    · rw [upd_ne (ne_of_none upd_same hp), upd_same, e]
    · rw [List.length_take, List.length_drop]; omega
/-- a draw: an int below many -/
def spDraw : Sp := fun vs H Q _ => ∃ (p l : Addr) (N many : Int), vs = [.ref p, .int many] ∧ PenAt H p l N ∧ 0 < many ∧ many.natAbs.log2 < 9000 ∧ N ≤ 100000 ∧
  ∀ r H', 0 ≤ r → r < many → SameBut p H H' → PenAt H' p l (N + 1) → Q (.int r) H'
theorem scDraw : FnScope ["_law_pen_here", "_law_many", "_law_digit", "_law_begun", "_law_cell", "_law_great", "_law_mixed"] ["_law_pen_here", "_law_many"] (defScope sDraw) := ⟨rfl, rfl, rfl, by decide +kernel, rfl, by decide +kernel, by decide +kernel⟩
theorem small_pow {z : Int} (h0 : 0 ≤ z) (h : z < 18446744073709551616) : CPow z 5 ∧ CPow z 3 := by
  have e : (2 : Nat) ^ 64 = 18446744073709551616 := by decide
  have hz : z.natAbs < 2 ^ 64 := by rw [e]; omega
  exact ⟨⟨by decide, by decide, hz⟩, ⟨by decide, by decide, hz⟩⟩
theorem small_mul {i j : Int} (h0 : -18446744073709551616 < i) (h : i < 18446744073709551616) : CMul i j := by
  have e : (2 : Int) ^ 64 = 18446744073709551616 := by decide
  exact .inl ⟨by rw [e]; exact h0, by rw [e]; exact h⟩
set_option maxHeartbeats 8000000 in
theorem ok_draw {f : Addr} {fd : FuncData} (F : Fun K "_law_draw" "_law_draw" sDraw f fd) (T : Txt K mg C fWhole fBetw fDay fChk) : FnOk P w K mg base CX0 1 f fd ["_law_pen_here", "_law_many"] spDraw := by
  refine F.ok scDraw (fun vs H Q E h => ?_) (fun cdv A outer s H vs Q E hr h => ?_)
  · obtain ⟨p, l, N, many, rfl, _⟩ := h
    rfl
  · obtain ⟨p, l, N, many, rfl, pen, hm, hlog, hN, k⟩ := h
    obtain ⟨ms, n, c, h1, h2, hms, hn0, hnN, hc⟩ := pen.ex
    have nlp := pen_ne h1 h2
    have z0 : ([V.ref l, V.int n, V.int c] : List V)[0]? = some (V.ref l) := rfl
    have z1 : ([V.ref l, V.int n, V.int c] : List V)[1]? = some (V.int n) := rfl
    have z2 : ([V.ref l, V.int n, V.int c] : List V)[2]? = some (V.int c) := rfl
    refine ⟨_, pss_cons (ps_if (pt_cmpR op_gt (pe_ix ix_list (pv 0) pe_int (fun _ _ => rfl)) pe_int (nomark _))
        (pss_cons (ps_set (i := 2) scDraw.nd rfl (Or.inl rfl) (pe_op op_mod (pe_callTy call_int1 (by rfl) T.zInt (by decide +kernel) (pa_cons (pe_ix ix_list (pv 0) pe_int (fun _ _ => rfl)) pa_nil)) (pv 1)))
        (pss_cons (ps_asg (pe_op op_fdivW (pe_callTy call_int1 (by rfl) T.zInt (by decide +kernel) (pa_cons (pe_ix ix_list (pv 0) pe_int (fun _ _ => rfl)) pa_nil)) (pv 1)) (pg_sub (pv 0) pe_int set_list))
        (pss_one (ps_ret (pv 2))))) pss_nil)
      (pss_cons (ps_set (i := 3) scDraw.nd rfl (Or.inl rfl) (pe_ix ix_list (pv 0) pe_int (fun _ _ => rfl)))
      (pss_cons (ps_asg (pe_op op_add (pv 3) pe_int) (pg_sub (pv 0) pe_int set_list))
      (pss_cons (ps_set (i := 4) scDraw.nd rfl (Or.inl rfl) (pe_op op_add (pe_op op_mul pe_int (pv 3)) pe_int))
      (pss_cons (ps_if (pt_cmpR (op_neD hr.units) (pe_ix ix_list (pv 0) pe_int (fun _ _ => rfl)) (pe_lst pa_nil) (nomark _))
        (pss_one (ps_set (i := 4) scDraw.nd rfl (Or.inl rfl) (pe_ix ix_list (pe_ix ix_list (pv 0) pe_int (fun _ _ => rfl))
          (pe_op op_mod (pe_callTy call_int1 (by rfl) T.zInt (by decide +kernel) (pa_cons (pv 3) pa_nil)) (pe_callB call_len_seq (by rfl) T.zLen PySem.boot_len (pa_cons (pe_ix ix_list (pv 0) pe_int (fun _ _ => rfl)) pa_nil))) (fun _ _ => rfl)))) pss_nil)
      (pss_cons (ps_if (PW.pt (pw_and (pt_cmpR op_lt (pv 3) (pe_callB call_len_seq (by rfl) T.zLen PySem.boot_len (pa_cons (pe_ix ix_list (pv 0) pe_int (fun _ _ => rfl)) pa_nil)) (nomark _))
          (pw_and1 (pt_cmpR op_ge (pe_callB call_abs (by rfl) T.zAbs (by decide +kernel) (pa_cons (pv 4) pa_nil)) (pe_op op_pow pe_int pe_int) (nomark _)))))
        (pss_cons (ps_set (i := 5) scDraw.nd rfl (Or.inl rfl) (pe_op op_add (pe_op op_mul pe_int (pe_op op_sub (pe_callB call_abs (by rfl) T.zAbs (by decide +kernel) (pa_cons (pv 4) pa_nil)) (pe_op op_pow pe_int pe_int)))
          (pe_callTy call_int1 (by rfl) T.zInt (by decide +kernel) (pa_cons (pe_cmpR op_lt (pv 4) pe_int (nomark _)) pa_nil))))
        (pss_cons (ps_asg (pe_op op_fdivW (pe_callTy call_int1 (by rfl) T.zInt (by decide +kernel) (pa_cons (pv 5) pa_nil)) (pv 1)) (pg_sub (pv 0) pe_int set_list))
        (pss_one (ps_ret (pe_op op_mod (pe_callTy call_int1 (by rfl) T.zInt (by decide +kernel) (pa_cons (pv 5) pa_nil)) (pv 1)))))) pss_nil)
      (pss_cons (ps_set (i := 6) scDraw.nd rfl (Or.inl rfl) (pe_op op_mod (pe_callTy call_int1 (by rfl) T.zInt (by decide +kernel) (pa_cons (pe_op op_pow (pe_op op_add (pe_op op_add (pe_op op_mod (pe_callTy call_int1 (by rfl) T.zInt (by decide +kernel) (pa_cons (pv 4) pa_nil)) pe_int) (pe_op op_mul pe_int (pv 3))) pe_int) pe_int) pa_nil)) pe_int))
      (pss_cons (ps_set (i := 6) scDraw.nd rfl (Or.inl rfl) (pe_op op_mod (pe_callTy call_int1 (by rfl) T.zInt (by decide +kernel) (pa_cons (pe_op op_pow (pe_op op_add (pe_op op_add (pe_op op_mul (pv 6) (pe_op op_add (pe_op op_mul pe_int (pv 3)) pe_int))
        (pe_op op_mul (pe_op op_mul pe_int (pv 3)) (pv 3))) pe_int) pe_int) pa_nil)) pe_int))
      (pss_one (ps_ret (pe_op op_mod (pe_callTy call_int1 (by rfl) T.zInt (by decide +kernel) (pa_cons (pe_op op_fdiv (pv 6) pe_int) pa_nil)) (pv 1)))))))))))
      , ?_⟩
    refine ⟨_, rfl, p, _, _, _, rfl, rfl, SqL.of h1, atI_nat (j := 2) z2, _, _, rfl, rfl, _, rfl, ?_⟩
    by_cases hcp : 0 < c
    · rw [decide_eq_true hcp]
      refine iteT ?_
      refine ⟨_, rfl, p, _, _, _, rfl, rfl, SqL.of h1, atI_nat (j := 2) z2, .inl ⟨_, rfl, _, rfl, _, _, rfl, rfl, hm, ?_⟩⟩
      refine ⟨_, rfl, p, _, _, _, rfl, rfl, SqL.of h1, atI_nat (j := 2) z2, .inl ⟨_, rfl, _, rfl, _, _, rfl, rfl, ⟨hm, hlog⟩, ?_⟩⟩
      refine ⟨_, rfl, p, _, _, 2, rfl, rfl, h1, rfl, _, rfl, ?_⟩
      refine k _ _ (Int.emod_nonneg _ (by omega)) (Int.emod_lt_of_pos _ hm) (fun b o nb e => by rw [upd_ne nb]; exact e) ⟨ms, n, c / many, upd_same, by rw [upd_ne nlp]; exact h2, hms, hn0, by omega, Int.ediv_nonneg hc (by omega)⟩
    · rw [decide_eq_false hcp]
      refine iteF ?_
      have hc0 : c = 0 := by omega
      subst hc0
      refine ⟨_, rfl, p, _, _, _, rfl, rfl, SqL.of h1, atI_nat (j := 1) z1, ?_⟩
      refine ⟨_, rfl, _, _, rfl, rfl, _, rfl, p, _, _, 1, rfl, rfl, h1, rfl, ?_⟩
      have g1 : (upd H p (.lst ([V.ref l, V.int n, V.int 0].set 1 (V.int (n + 1))))) p = some (.lst [V.ref l, V.int (n + 1), V.int 0]) := upd_same
      have g2 : (upd H p (.lst ([V.ref l, V.int n, V.int 0].set 1 (V.int (n + 1))))) l = some (.lst (ms.map V.int)) := by rw [upd_ne nlp]; exact h2
      have sb : SameBut p H (upd H p (.lst ([V.ref l, V.int n, V.int 0].set 1 (V.int (n + 1))))) := fun b o nb e => by rw [upd_ne nb]; exact e
      generalize (upd H p (.lst ([V.ref l, V.int n, V.int 0].set 1 (V.int (n + 1))))) = H1 at g1 g2 sb ⊢
      have y0 : ([V.ref l, V.int (n + 1), V.int 0] : List V)[0]? = some (V.ref l) := rfl
      refine ⟨_, rfl, _, _, rfl, rfl, small_mul (by omega) (by omega), _, _, rfl, rfl, ?_⟩
      refine ⟨_, rfl, p, _, _, _, rfl, rfl, SqL.of g1, atI_nat (j := 0) y0, Nat.zero_le _, fun q hq => ?_⟩
      have s2 : Same H1 (upd H1 q (.lst [])) := same_new hq
      refine ⟨_, _, .lst (SqL.of (s2 _ _ g2)) (dp_ints ms), .lst (SqL.of upd_same) .nil, PySem.W.shaped_ints ms, PySem.W.shaped_ints [], _, rfl, ?_⟩
      have sb2 : SameBut p H (upd H1 q (.lst [])) := sb.trans (Same.but s2)
      have k1 := s2 _ _ g1
      have k2 := s2 _ _ g2
      generalize upd H1 q (.lst []) = H2 at sb2 k1 k2 ⊢
      have dml : ∀ i : Int, 0 ≤ i → i < ms.length → ∃ z : Int, atI (ms.map V.int) i = some (V.int z) := fun i h0 h1 => by
        refine ⟨ms[i.toNat]'(by omega), at_of (j := i.toNat) (by omega) ?_⟩
        rw [List.getElem?_map, List.getElem?_eq_getElem (by omega)]
        rfl
      refine ite2 (fun hk => ?_) (fun hk => ?_)
      have hne : 0 < ms.length := by
        cases ms with
        | nil => exact absurd hk (by decide)
        | cons a r => simp
      have i0 : 0 ≤ n % (ms.length : Int) := Int.emod_nonneg _ (by omega)
      have i1 : n % (ms.length : Int) < ms.length := Int.emod_lt_of_pos _ (by omega)
      obtain ⟨z, hz⟩ := dml _ i0 i1
      have hz' : atI (ms.map V.int) (n % ((ms.map V.int).length : Int)) = some (V.int z) := by rw [List.length_map]; exact hz
      have hp' : (0 : Int) < ((ms.map V.int).length : Int) := by rw [List.length_map]; omega
      refine ⟨_, rfl, p, _, _, _, rfl, rfl, SqL.of k1, atI_nat (j := 0) y0, _, rfl, .inl ⟨_, rfl, _, rfl, p, _, _, _, rfl, rfl, SqL.of k1, atI_nat (j := 0) y0, l, _, rfl, .inl (SqL.of k2), _, _, rfl, rfl, hp', l, _, _, _, rfl, rfl, SqL.of k2, hz', ?_⟩⟩
      clear hz hz'
      rotate_left
      dsimp only
      generalize 134207 * n + 4547 = z
      all_goals
        -- at < len(cells) and abs(cell) >= 10 ** 18
        refine ⟨_, rfl, _, rfl, p, _, _, _, rfl, rfl, SqL.of k1, atI_nat (j := 0) y0, l, _, rfl, .inl (SqL.of k2), _, _, rfl, rfl, _, rfl, ?_⟩
        refine ite2 (fun h6 => ?_) (fun h6 => ?_)
        refine ⟨_, rfl, _, rfl, _, _, rfl, rfl, ⟨by decide, by decide, by decide⟩, _, _, rfl, rfl, _, rfl, ?_⟩
        refine ite2 (fun h7 => ?_) (fun h7 => ?_)
        have h8 := of_decide_eq_true h7
        have e18 : (10 : Int) ^ (18 : Int).toNat = 1000000000000000000 := by decide
        rw [e18] at h8
        refine ⟨_, rfl, _, rfl, _, _, rfl, rfl, ⟨by decide, by decide, by decide⟩, _, _, rfl, rfl, _, _, rfl, rfl, small_mul (by decide) (by decide), _, rfl, _, _, rfl, rfl, .inr ⟨_, rfl, _, _, rfl, rfl, ?_⟩⟩
        rw [e18]
        have hg : 0 ≤ 2 * ((if z < 0 then -z else z) - 1000000000000000000) + (if decide (z < 0) = true then 1 else 0) := by
          split <;> omega
        refine ⟨_, rfl, .inl ⟨_, rfl, _, rfl, _, _, rfl, rfl, ⟨hm, hlog⟩, _, rfl, p, _, _, 2, rfl, rfl, k1, rfl, ?_⟩⟩
        refine ⟨_, rfl, .inl ⟨_, rfl, _, rfl, _, _, rfl, rfl, hm, ?_⟩⟩
        exact k _ _ (Int.emod_nonneg _ (by omega)) (Int.emod_lt_of_pos _ hm) (sb2.trans fun b o nb e => by rw [upd_ne nb]; exact e) ⟨ms, n + 1, _, upd_same, by rw [upd_ne nlp]; exact k2, hms, by omega, by omega, Int.ediv_nonneg hg (by omega)⟩
        all_goals
          have pen2 : PenAt H2 p l (N + 1) := ⟨ms, n + 1, 0, k1, k2, hms, by omega, by omega, by omega⟩
          have q1 : 0 ≤ z % 2147483563 := Int.emod_nonneg _ (by decide)
          have q2 : z % 2147483563 < 2147483563 := Int.emod_lt_of_pos _ (by decide)
          refine ⟨_, rfl, .inl ⟨_, rfl, _, _, rfl, rfl, (by show (0 : Int) < 2147483563; decide), _, rfl, _, _, rfl, rfl, small_mul (by decide) (by decide), _, _, rfl, rfl, _, _, rfl, rfl, _, _, rfl, rfl, (small_pow (by omega) (by omega)).1, .inl ⟨_, rfl, _, _, rfl, rfl, (by show (0 : Int) < 2147483629; decide), ?_⟩⟩⟩
          have q3 : 0 ≤ (z % 2147483563 + 4903 * n + 4547) ^ (5 : Int).toNat % 2147483629 := Int.emod_nonneg _ (by decide)
          have q4 : (z % 2147483563 + 4903 * n + 4547) ^ (5 : Int).toNat % 2147483629 < 2147483629 := Int.emod_lt_of_pos _ (by decide)
          dsimp only
          generalize (z % 2147483563 + 4903 * n + 4547) ^ (5 : Int).toNat % 2147483629 = m1 at q3 q4
          have b1 : m1 * (2 * n + 241) ≤ 2147483648 * (2 * 100000 + 241) := Int.mul_le_mul (by omega) (by omega) (by omega) (by omega)
          have b2 : 0 ≤ m1 * (2 * n + 241) := Int.mul_nonneg q3 (by omega)
          have b3 : 24571 * n * n ≤ 24571 * 100000 * 100000 := Int.mul_le_mul (by omega) (by omega) (by omega) (by omega)
          have b4 : 0 ≤ 24571 * n * n := Int.mul_nonneg (by omega) (by omega)
          refine ⟨_, rfl, _, rfl, _, _, rfl, rfl, small_mul (by decide) (by decide), _, _, rfl, rfl, _, _, rfl, rfl, small_mul (by omega) (by omega), _, rfl, _, _, rfl, rfl, small_mul (by decide) (by decide), _, rfl, _, _, rfl, rfl, small_mul (by omega) (by omega), _, _, rfl, rfl, _, _, rfl, rfl, _, _, rfl, rfl, (small_pow (by omega) (by omega)).2, .inl ⟨_, rfl, _, _, rfl, rfl, (by show (0 : Int) < 2147483587; decide), ?_⟩⟩
          refine ⟨_, rfl, _, _, rfl, rfl, ⟨by decide, by decide⟩, .inl ⟨_, rfl, _, rfl, _, _, rfl, rfl, hm, ?_⟩⟩
          exact k _ _ (Int.emod_nonneg _ (by omega)) (Int.emod_lt_of_pos _ hm) sb2 pen2
end
section
variable {P : Program} {w : World} {K : PySem.W.Frag} {mg : Str → Option Value} {base : Heap} {C fWhole fBetw fDay fChk fDraw fPick : Addr} {fdD fdP : FuncData}
/-- a def of the module that keeps its promise -/
structure Df (P : Program) (w : World) (K : PySem.W.Frag) (mg : Str → Option Value) (base : Heap) (x : Str) (k : Nat) (f : Addr) (fd : FuncData) (ps : List Str) (sp : Sp) : Prop where
  F : FnOk P w K mg base CX0 k f fd ps sp
  b : Binds K fd ps []
  kp : PySem.W.keepIn K (.ref f) = true
  g : mg x = some (.ref f)
theorem log_small {n : Int} (h0 : 0 ≤ n) (h : n < 2 ^ 64) : n.natAbs.log2 < 9000 := by
  have e : (2 : Int) ^ 64 = 18446744073709551616 := by decide
  have e2 : (2 : Nat) ^ 64 = 18446744073709551616 := by decide
  exact Nat.lt_trans (PySem.Flt.log2_lt_of (k := 64) (by decide) (by rw [e2]; omega)) (by decide)
/-- one of a list's items, or of a text's signs -/
def spPick (K : PySem.W.Frag) : Sp := fun vs H Q _ => ∃ (p l : Addr) (N : Int), PenAt H p l N ∧ N ≤ 100000 ∧
  ((∃ (a : Addr) (xs : List V), vs = [.ref p, .ref a] ∧ H a = some (.lst xs) ∧ a ≠ p ∧ 0 < xs.length ∧ xs.length ≤ 1000 ∧ ∀ (i : Nat) (v : V) (H' : Hp), xs[i]? = some v → SameBut p H H' → PenAt H' p l (N + 1) → Q v H') ∨
   (∃ z : Str, vs = [.ref p, .str z] ∧ 0 < z.length ∧ z.length ≤ 1000 ∧ ∀ (i c : Nat) (H' : Hp), z.cps.toList[i]? = some c → SameBut p H H' → PenAt H' p l (N + 1) → Q (.str ⟨#[c]⟩) H'))
theorem scPick : FnScope ["_law_pen_here", "_law_some"] ["_law_pen_here", "_law_some"] (defScope sPick) := ⟨rfl, rfl, rfl, by decide +kernel, rfl, by decide +kernel, by decide +kernel⟩
def tOr (t1 t2 : TE) : TE := fun σ H Q => t1 σ H Q ∨ t2 σ H Q
theorem pe_or2 {X : Cx} {e : Expr} {t1 t2 : TE} (h1 : PE X e t1) (h2 : PE X e t2) : PE X e (tOr t1 t2) := pe_or h1 h2
theorem ok_pick {f : Addr} {fd : FuncData} (F : Fun K "_law_pick" "_law_pick" sPick f fd) (T : Txt K mg C fWhole fBetw fDay fChk) (D : Df P w K mg base "_law_draw" 1 fDraw fdD ["_law_pen_here", "_law_many"] spDraw) : FnOk P w K mg base CX0 2 f fd ["_law_pen_here", "_law_some"] (spPick K) := by
  refine F.ok scPick (fun vs H Q E h => ?_) (fun cdv A outer s H vs Q E hr h => ?_)
  · obtain ⟨p, l, N, _, _, ⟨a, xs, rfl, _⟩ | ⟨z, rfl, _⟩⟩ := h
    · rfl
    · rfl
  · obtain ⟨p, l, N, pen, hN, h⟩ := h
    refine ⟨_, pss_one (ps_ret (pe_or2
      (pe_ix ix_list (pv 1) (pe_call D.F hr rfl D.g D.kp D.b .nil pass0 (pa_cons (pv 0) (pa_cons (pe_callB call_len_seq (by rfl) T.zLen PySem.boot_len (pa_cons (pv 1) pa_nil)) pa_nil))) (fun _ _ => rfl))
      (pe_ix ix_str (pv 1) (pe_call D.F hr rfl D.g D.kp D.b .nil pass0 (pa_cons (pv 0) (pa_cons (pe_callB call_len_str (by rfl) T.zLen PySem.boot_len (pa_cons (pv 1) pa_nil)) pa_nil))) (fun _ _ => rfl)))), ?_⟩
    rcases h with ⟨a, xs, rfl, ha, nap, h0, h1, k⟩ | ⟨z, rfl, h0, h1, k⟩
    · refine .inl ⟨_, rfl, _, rfl, _, rfl, a, _, rfl, .inl (SqL.of ha), p, l, N, _, rfl, pen, by omega, log_small (by omega) (by omega), hN, fun r H' r0 r1 sb pen' => ?_⟩
      have hv : xs[r.toNat]? = some (xs[r.toNat]'(by omega)) := List.getElem?_eq_getElem (by omega)
      exact ⟨a, _, _, _, rfl, rfl, SqL.of (sb _ _ nap ha), at_of (j := r.toNat) (by omega) hv, k _ _ _ hv sb pen'⟩
    · refine .inr ⟨_, rfl, _, rfl, _, rfl, z, rfl, Nat.le_of_lt (small1000 h1), p, l, N, _, rfl, pen, by omega, log_small (by omega) (by omega), hN, fun r H' r0 r1 sb pen' => ?_⟩
      have hl : z.cps.toList.length = z.length := Array.length_toList
      obtain ⟨m, rfl⟩ := Int.eq_ofNat_of_zero_le r0
      obtain ⟨ch, hv⟩ : ∃ ch, z.cps.toList[m]? = some ch := ⟨_, List.getElem?_eq_getElem (by omega)⟩
      exact ⟨z, _, _, rfl, rfl, Nat.le_of_lt (small1000 h1), atI_nat hv, k _ _ _ hv sb pen'⟩
end
end My
namespace My
open PySem PySem.Spec PyProof.Rows L2
abbrev sBNI : Stmt := inClass (top 4) 0
abbrev sBTI : Stmt := inClass (top 5) 0
abbrev sBUI : Stmt := inClass (top 3) 0
abbrev sTieI : Stmt := inClass (top 17) 0
abbrev sNumI : Stmt := inClass (top 18) 0
abbrev sBkI : Stmt := inClass (top 19) 0
abbrev sAhI : Stmt := inClass (top 20) 0
abbrev sSoI : Stmt := inClass (top 21) 0
abbrev sWhI : Stmt := inClass (top 22) 0
abbrev sLaI : Stmt := inClass (top 23) 0
abbrev sSmI : Stmt := inClass (top 24) 0
theorem num_ne : ¬ (("source" : Str) = "number") := by decide +kernel
def isNum : Kd → Bool
  | .bk => true
  | .ah => true
  | _ => false
def spErI (f : Str) (C : Addr) : Sp := fun vs H Q _ => ∃ (a : Addr) (y : V), vs = [.ref a, y] ∧ H a = some (exo a C none) ∧ ∀ dx, H dx = none → dx ≠ a → Q .non (upd (upd H dx (exd dx [(f, y)])) a (exo a C (some dx)))
/-- what is known of an error's class at C -/
structure ErC (K : PySem.W.Frag) (mg : Str → Option Value) (x f : Str) (C fI : Addr) : Prop where
  oex : OexC K C
  iC : PySem.W.findIn K (.ref C) "__init__" = some (some (.ref fI))
  tI : PySem.W.typeIn K (.ref fI) = some (.type "function")
  g : mg x = some (.ref C)
  no : PySem.W.findIn K (.ref C) f = some none
  xf : XfC K C
  ec : ExcC K C
/-- the error's class, its __init__ with its promise -/
structure ErM (P : Program) (w : World) (K : PySem.W.Frag) (mg : Str → Option Value) (base : Heap) (x f : Str) (C fI : Addr) (fd : FuncData) : Prop where
  c : ErC K mg x f C fI
  F : FnOk P w K mg base CX0 1 fI fd ["self", f] (spErI f C)
  b : Binds K fd ["self", f] []
/-- what the raising of such an error asks -/
theorem er_made {f : Str} {C : Addr} {y : V} {H : Hp} {Q : XK} (k : ∀ d H', Same H H' → H' d = some (.xd [(f, y)]) → Q (.ref C) (some d) H') :
    ([y] : List V).length ≤ 1000 ∧ ∀ a, H a = none → spErI f C (.ref a :: ([y] ++ [])) (upd H a (exo a C none)) (fun v H2 => v = .non ∧ ∃ (d : Addr) (fs : List (Str × V)), H2 a = some (exo a C (some d)) ∧ H2 d = some (exd d fs) ∧ H d = none ∧ Q (.ref C) (some d) (upd (L2.del H2 a) d (.xd fs))) (fun _ _ _ => False) := by
  refine ⟨(by show 1 ≤ 1000; decide), fun a na => ⟨a, y, rfl, upd_same, fun dx nd ne => ⟨rfl, dx, [(f, y)], upd_same, ?_, ?_, ?_⟩⟩⟩
  · rw [upd_ne ne, upd_same]
  · rw [upd_ne ne] at nd
    exact nd
  · have nd' : H dx = none := by
      rw [upd_ne ne] at nd
      exact nd
    refine k dx _ (fun b o e => ?_) upd_same
    have n1 := ne_of_none e na
    have n2 := ne_of_none e nd'
    rw [upd_ne n2, L2.del_ne n1, upd_ne n1, upd_ne n2, upd_ne n1]
    exact e
def spErI2 (f g : Str) (C : Addr) : Sp := fun vs H Q _ => ∃ (a : Addr) (y z : V), vs = [.ref a, y, z] ∧ H a = some (exo a C none) ∧ ∀ dx, H dx = none → dx ≠ a → Q .non (upd (upd (upd H dx (exd dx [(f, y)])) a (exo a C (some dx))) dx (exd dx [(g, z), (f, y)]))
theorem er_made2 {f g : Str} {C : Addr} {y z : V} {H : Hp} {Q : XK} (k : ∀ d H', Same H H' → H' d = some (.xd [(g, z), (f, y)]) → Q (.ref C) (some d) H') :
    ([y, z] : List V).length ≤ 1000 ∧ ∀ a, H a = none → spErI2 f g C (.ref a :: ([y, z] ++ [])) (upd H a (exo a C none)) (fun v H2 => v = .non ∧ ∃ (d : Addr) (fs : List (Str × V)), H2 a = some (exo a C (some d)) ∧ H2 d = some (exd d fs) ∧ H d = none ∧ Q (.ref C) (some d) (upd (L2.del H2 a) d (.xd fs))) (fun _ _ _ => False) := by
  refine ⟨(by show 2 ≤ 1000; decide), fun a na => ⟨a, y, z, rfl, upd_same, fun dx nd ne => ⟨rfl, dx, [(g, z), (f, y)], ?_, upd_same, ?_, ?_⟩⟩⟩
  · rw [upd_ne (Ne.symm ne), upd_same]
  · rw [upd_ne ne] at nd
    exact nd
  · have nd' : H dx = none := by
      rw [upd_ne ne] at nd
      exact nd
    refine k dx _ (fun b o e => ?_) upd_same
    have n1 := ne_of_none e na
    have n2 := ne_of_none e nd'
    rw [upd_ne n2, L2.del_ne n1, upd_ne n2, upd_ne n1, upd_ne n2, upd_ne n1]
    exact e
theorem same_sqT {K : PySem.W.Frag} {H H' : Hp} {a : Addr} {xs : List V} (e : Same H H') (h : SqT K H a xs) : SqT K H' a xs := by
  rcases h with (h | ⟨o, h⟩) | h
  · exact .inl (.inl (e _ _ h))
  · exact .inl (.inr ⟨o, e _ _ h⟩)
  · exact .inr h
mutual
theorem dp_same {K : PySem.W.Frag} {H H' : Hp} (s : Same H H') : ∀ (d : PyData) (v : V), Dp K H v d → Dp K H' v d
  | .none, _, h => by cases h; exact .non
  | .bool _, _, h => by cases h; exact .bl _
  | .int _, _, h => by cases h; exact .int _
  | .str _, _, h => by cases h; exact .str _
  | .list ds, _, h => by
    cases h with
    | lst h1 h2 => exact .lst (s.seq h1) (dp_sameA s ds _ h2)
  | .tuple ds, _, h => by
    cases h with
    | tup h1 h2 => exact .tup (same_sqT s h1) (dp_sameA s ds _ h2)
  | .dict _, _, h => nomatch h
theorem dp_sameA {K : PySem.W.Frag} {H H' : Hp} (s : Same H H') : ∀ (ds : List PyData) (vs : List V), DpAll K H vs ds → DpAll K H' vs ds
  | [], _, h => by cases h; exact .nil
  | d :: ds, _, h => by
    cases h with
    | cons h1 h2 => exact .cons (dp_same s d _ h1) (dp_sameA s ds _ h2)
end
theorem DpO.same {K : PySem.W.Frag} {H H' : Hp} {v : V} {d : PyData} (s : Same H H') (h : DpO K H v d) : DpO K H' v d := by
  rcases h with ⟨h, n⟩ | ⟨a, e, ha, ed⟩
  · exact .inl ⟨dp_same s _ _ h, n⟩
  · exact .inr ⟨a, e, s _ _ ha, ed⟩
theorem strOk_of (s : String) : PyData.strOk (Str.ofString s) = true := by
  rw [show Str.ofString s = ⟨(s.toList.map Char.toNat).toArray⟩ from PySem.Str.ofString_eq_toList s]
  unfold PyData.strOk
  rw [List.all_toArray, List.all_eq_true]
  intro n hn
  obtain ⟨c, _, rfl⟩ := List.mem_map.mp hn
  have h := c.valid
  rw [decide_eq_true_eq]
  have e : c.toNat = c.val.toNat := rfl
  unfold UInt32.isValidChar Nat.isValidChar at h
  omega
inductive At1 : V → PyData → Prop where
  | one : At1 (.int 1) (.int 1)
  | a : At1 (.str "a") (.str "a")
inductive AV (H : Hp) : V → PyData → Prop where
  | non : AV H .non .none
  | bl (b : Bool) : AV H (.bl b) (.bool b)
  | int (i : Int) (hb : i.natAbs < 10 ^ 70) : AV H (.int i) (.int i)
  | str (z : Str) (hl : z.length ≤ 100) : AV H (.str z) (.str z)
  | tup {a : Addr} {v : V} {d : PyData} (o : At1 v d) (h : H a = some (.tup [v])) : AV H (.ref a) (.tuple [d])
  | lst {a : Addr} {v : V} {d : PyData} (o : At1 v d) (h : H a = some (.lst [v])) : AV H (.ref a) (.list [d])
  | dct {a : Addr} (h : H a = some (.dK [])) : AV H (.ref a) (.dict [])
theorem AV.ext {H H' : Hp} {v : V} {d : PyData} (o : AV H v d) (e : LamX.ExtN H H') : AV H' v d := by
  cases o with
  | non => exact .non
  | bl b => exact .bl b
  | int i hb => exact .int i hb
  | str z hl => exact .str z hl
  | tup o h => exact .tup o (e _ _ h fun ps z => by cases z)
  | lst o h => exact .lst o (e _ _ h fun ps z => by cases z)
  | dct h => exact .dct (e _ _ h fun ps z => by cases z)
theorem AV.same {H H' : Hp} {v : V} {d : PyData} (o : AV H v d) (e : Same H H') : AV H' v d := o.ext (.of e)
/-- all but the object at p, an instance, is as it was -/
def Keeps (p : Addr) (H H' : Hp) : Prop := ∀ b o, H b = some o → b ≠ p → H' b = some o
theorem AV.keeps {H H' : Hp} {v : V} {d : PyData} {p C dx : Addr} {fs : List (Str × V)} (o : AV H v d) (e : Keeps p H H') (hp : H p = some (.ins C dx fs)) : AV H' v d := by
  have ne : ∀ {a : Addr} {ob : HO}, H a = some ob → (∀ fs, ob ≠ .ins C dx fs) → a ≠ p := fun ha n z => by
    subst z
    rw [hp] at ha
    exact n _ (Option.some.inj ha).symm
  cases o with
  | non => exact .non
  | bl b => exact .bl b
  | int i hb => exact .int i hb
  | str z hl => exact .str z hl
  | tup o h => exact .tup o (e _ _ h (ne h fun _ q => by cases q))
  | lst o h => exact .lst o (e _ _ h (ne h fun _ q => by cases q))
  | dct h => exact .dct (e _ _ h (ne h fun _ q => by cases q))
def isI : V → Bool
  | .int _ => true
  | _ => false
def isS : V → Bool
  | .str _ => true
  | _ => false
/-- what kind of thing it is -/
structure Kinds (K : PySem.W.Frag) (H : Hp) (v : V) : Prop where
  ex : ∃ (t : String) (b1 b2 : Bool), TyX K H v (.type t) ∧ kitB t "int" = some b1 ∧ kitB t "bool" = some b2 ∧ kitB t "str" = some (isS v) ∧ (b1 && !b2) = isI v
theorem AV.kinds {K : PySem.W.Frag} {H : Hp} {v : V} {d : PyData} (o : AV H v d) : Kinds K H v := by
  cases o with
  | non => exact ⟨"NoneType", false, false, .base .non, by decide +kernel, by decide +kernel, (show kitB "NoneType" "str" = some false by decide +kernel), rfl⟩
  | bl b => exact ⟨"bool", true, true, .base (.bl b), by decide +kernel, by decide +kernel, (show kitB "bool" "str" = some false by decide +kernel), rfl⟩
  | int i hb => exact ⟨"int", true, false, .base (.int i), by decide +kernel, by decide +kernel, (show kitB "int" "str" = some false by decide +kernel), rfl⟩
  | str z hl => exact ⟨"str", false, false, .base (.str z), by decide +kernel, by decide +kernel, (show kitB "str" "str" = some true by decide +kernel), rfl⟩
  | tup o h => exact ⟨"tuple", false, false, .base (.tup h), by decide +kernel, by decide +kernel, (show kitB "tuple" "str" = some false by decide +kernel), rfl⟩
  | lst o h => exact ⟨"list", false, false, .base (.lst h), by decide +kernel, by decide +kernel, (show kitB "list" "str" = some false by decide +kernel), rfl⟩
  | dct h => exact ⟨"dict", false, false, .base (.dK h), by decide +kernel, by decide +kernel, (show kitB "dict" "str" = some false by decide +kernel), rfl⟩
theorem small_line {n : Nat} (h : n ≤ 1000) : n ≤ sizeLine := Nat.le_trans h (by decide)
def nameB (x : Str) : Bool := !decide (8 < (x.length : Int)) && (Txt.isascii x && (Txt.isalpha x && Txt.islower x))
def nmB : V → Bool
  | .str x => nameB x
  | _ => false
def nuB (lo : Int) : V → Bool
  | .int i => decide (lo ≤ i) && decide (i ≤ 60)
  | _ => false
def loOf : Kd → Int
  | .ah => 1
  | _ => 0
section
variable {P : Program} {w : World} {K : PySem.W.Frag} {mg : Str → Option Value} {base : Heap} {C fWhole fBetw fDay fChk fName : Addr} {G : Kd → Addr} {cT cN fTI fNI cBN fBN cBU fBU : Addr} {dBN dBU : FuncData}
theorem scBTI : FnScope ["self", "line", "word"] ["self", "line", "word"] (defScope sBTI) := ⟨rfl, rfl, rfl, by decide +kernel, rfl, by decide +kernel, by decide +kernel⟩
theorem ok_bti {cBT fBT f : Addr} {fd : FuncData} (F : Fun K "__init__" "BadText.__init__" sBTI f fd) (Z : ErC K mg "BadText" "line" cBT fBT) (Z2 : ErC K mg "BadText" "word" cBT fBT) : FnOk P w K mg base CX0 1 f fd ["self", "line", "word"] (spErI2 "line" "word" cBT) := by
  refine F.ok scBTI (fun vs H Q E h => ?_) (fun cdv A outer s H vs Q E hr h => ?_)
  · obtain ⟨a, y, z, rfl, _⟩ := h
    rfl
  · obtain ⟨a, y, z, rfl, ha, k⟩ := h
    refine ⟨_, pss_cons (ps_ost (pv 0) (pv 1)) (pss_one (ps_ost (pv 0) (pv 2))), ?_⟩
    refine ⟨_, rfl, _, rfl, a, cBT, rfl, Z.oex, Z.no, .inl ⟨ha, fun dx n ne => ?_⟩⟩
    exact ⟨_, rfl, _, rfl, a, cBT, rfl, Z2.oex, Z2.no, .inr ⟨dx, _, upd_same, by rw [upd_ne ne, upd_same], (by show 1 ≤ 900; decide), k dx n ne⟩⟩
theorem scBNI : FnScope ["self", "value"] ["self", "value"] (defScope sBNI) := ⟨rfl, rfl, rfl, by decide +kernel, rfl, by decide +kernel, by decide +kernel⟩
theorem ok_bni {f : Addr} {fd : FuncData} (F : Fun K "__init__" "BadName.__init__" sBNI f fd) (Z : ErC K mg "BadName" "value" cBN fBN) : FnOk P w K mg base CX0 1 f fd ["self", "value"] (spErI "value" cBN) := by
  refine F.ok scBNI (fun vs H Q E h => ?_) (fun cdv A outer s H vs Q E hr h => ?_)
  · obtain ⟨a, y, rfl, _⟩ := h
    rfl
  · obtain ⟨a, y, rfl, ha, k⟩ := h
    refine ⟨_, pss_one (ps_ost (pv 0) (pv 1)), ?_⟩
    exact ⟨_, rfl, _, rfl, a, cBN, rfl, Z.oex, Z.no, .inl ⟨ha, fun dx n ne => k dx n ne⟩⟩
theorem scBUI : FnScope ["self", "value"] ["self", "value"] (defScope sBUI) := ⟨rfl, rfl, rfl, by decide +kernel, rfl, by decide +kernel, by decide +kernel⟩
theorem ok_bui {f : Addr} {fd : FuncData} (F : Fun K "__init__" "BadNumber.__init__" sBUI f fd) (Z : ErC K mg "BadNumber" "value" cBU fBU) : FnOk P w K mg base CX0 1 f fd ["self", "value"] (spErI "value" cBU) := by
  refine F.ok scBUI (fun vs H Q E h => ?_) (fun cdv A outer s H vs Q E hr h => ?_)
  · obtain ⟨a, y, rfl, _⟩ := h
    rfl
  · obtain ⟨a, y, rfl, ha, k⟩ := h
    refine ⟨_, pss_one (ps_ost (pv 0) (pv 1)), ?_⟩
    exact ⟨_, rfl, _, rfl, a, cBU, rfl, Z.oex, Z.no, .inl ⟨ha, fun dx n ne => k dx n ne⟩⟩
def spName : Sp := fun vs H Q _ => ∃ (v : V) (d : PyData), vs = [v] ∧ AV H v d ∧ Q (.bl (nmB v)) H
theorem scName : FnScope ["value"] ["value"] (defScope sName) := ⟨rfl, rfl, rfl, by decide +kernel, rfl, by decide +kernel, by decide +kernel⟩
theorem ok_name {f : Addr} {fd : FuncData} (F : Fun K "is_name" "is_name" sName f fd) (T : Txt K mg C fWhole fBetw fDay fChk) : FnOk P w K mg base CX0 1 f fd ["value"] spName := by
  refine F.ok scName (fun vs H Q E h => ?_) (fun cdv A outer s H vs Q E hr h => ?_)
  · obtain ⟨x, d, rfl, _⟩ := h
    rfl
  · obtain ⟨v, d, rfl, o, k⟩ := h
    refine ⟨_, pss_cons (ps_if (PW.pt (pw_or (pt_not (pt_val (pe_callB call_isi (by rfl) T.zIsi (by decide +kernel) (pa_cons (pv 0) (pa_cons (pe_bltn (v := .ty "str") (by rfl) T.zStr (by decide +kernel) rfl) pa_nil)))))
        (pw_or1 (pt_cmpR op_gt (pe_callB call_len_str (by rfl) T.zLen PySem.boot_len (pa_cons (pv 0) pa_nil)) pe_int (nomark _))))) (pss_one (ps_ret pe_bl)) pss_nil)
      (pss_one (ps_ret (pe_and (pe_m0 PySem.F.slot_str_isascii PySem.F.type_str_isascii mt_isascii (pv 0)) (pe_and (pe_m0 PySem.F.slot_str_isalpha PySem.F.type_str_isalpha mt_isalpha (pv 0)) (pe_one (pe_m0 PySem.F.slot_str_islower PySem.F.type_str_islower mt_islower (pv 0))))))), ?_⟩
    obtain ⟨t, b1, b2, ty, _, _, h3, _⟩ := (o.kinds (K := K)).ex
    refine ⟨_, rfl, v, .ty "str", _, _, isS v, rfl, .ty "str", ty, kit_ty h3, isS v, rfl, ?_⟩
    cases hs : isS v with
    | false =>
      have e : nmB v = false := by
        cases v with
        | str x => cases hs
        | _ => rfl
      rw [e] at k
      exact iteT k
    | true =>
      obtain ⟨x, rfl⟩ : ∃ x, v = .str x := by
        cases v with
        | str x => exact ⟨x, rfl⟩
        | _ => cases hs
      have hl : x.length ≤ 100 := by cases o with | str z hl => exact hl
      refine iteF ⟨_, rfl, x, rfl, small_line (by omega), _, _, rfl, rfl, _, rfl, ?_⟩
      have kk : Q (.bl (nameB x)) H := k
      unfold nameB at kk
      by_cases c : 8 < (x.length : Int)
      · rw [decide_eq_true c] at kk ⊢
        exact iteT kk
      · rw [decide_eq_false c] at kk ⊢
        refine iteF ⟨_, rfl, ⟨x, rfl⟩, x, rfl, rfl, trivial, _, rfl, ?_⟩
        cases e1 : Txt.isascii x with
        | false => rw [e1] at kk; exact iteF kk
        | true =>
          rw [e1] at kk
          refine iteT ⟨_, rfl, ⟨x, rfl⟩, x, rfl, rfl, trivial, _, rfl, ?_⟩
          cases e2 : Txt.isalpha x with
          | false => rw [e2] at kk; exact iteF kk
          | true =>
            rw [e2] at kk
            exact iteT ⟨_, rfl, ⟨x, rfl⟩, x, rfl, rfl, trivial, kk⟩
end
end My
namespace My
open PySem PySem.Spec PyProof.Rows L2
/-- what the top has written of ties -/
structure Ty (K : PySem.W.Frag) (mg : Str → Option Value) (G : Kd → Addr) (cT cN fTI fNI fName : Addr) : Prop where
  cl : ∀ k, Cls K (G k)
  nS : ∀ k, NoAttr K (G k) "source"
  nN : ∀ k, NoAttr K (G k) "number"
  gT : mg "Tie" = some (.ref cT)
  gN : mg "Numbered" = some (.ref cN)
  gBk : mg "Back" = some (.ref (G .bk))
  gAh : mg "Ahead" = some (.ref (G .ah))
  gSo : mg "Sofar" = some (.ref (G .so))
  gWh : mg "Whole" = some (.ref (G .wh))
  gLa : mg "Last" = some (.ref (G .la))
  gSm : mg "Same" = some (.ref (G .sm))
  gName : mg "is_name" = some (.ref fName)
  gMN : ∃ t, mg "MOST_NUMBER" = some (.int 60 t)
  rT : ClX.CRead K cT (.type "type")
  rN : ClX.CRead K cN (.type "type")
  fT : CFn K cT (.type "type") "__init__" fTI
  fN : CFn K cN (.type "type") "__init__" fNI
section
variable {P : Program} {w : World} {K : PySem.W.Frag} {mg : Str → Option Value} {base : Heap} {C fWhole fBetw fDay fChk fName : Addr} {G : Kd → Addr} {cT cN fTI fNI cBN fBN cBU fBU : Addr} {dBN dBU : FuncData}
def spTieI (K : PySem.W.Frag) (cBN : Addr) : Sp := fun vs H Q E => ∃ (p dx D : Addr) (v : V) (d : PyData), vs = [.ref p, v] ∧ AV H v d ∧ Cls K D ∧ NoAttr K D "source" ∧ H p = some (.ins D dx []) ∧
  (nmB v = true → Q .non (upd H p (.ins D dx (putF "source" v [])))) ∧ (nmB v = false → ∀ dd H', Same H H' → H' dd = some (.xd [("value", v)]) → E (.ref cBN) (some dd) H')
theorem scTieI : FnScope ["self", "source"] ["self", "source"] (defScope sTieI) := ⟨rfl, rfl, rfl, by decide +kernel, rfl, by decide +kernel, by decide +kernel⟩
theorem ok_tieI {f : Addr} {fd fdN : FuncData} (F : Fun K "__init__" "Tie.__init__" sTieI f fd) (T : Txt K mg C fWhole fBetw fDay fChk) (Y : Ty K mg G cT cN fTI fNI fName) (FN : Fun K "is_name" "is_name" sName fName fdN) (bN : Binds K fdN ["value"] [])
    (Z : ErM P w K mg base "BadName" "value" cBN fBN dBN) : FnOk P w K mg base (L2.CX P w) 3 f fd ["self", "source"] (spTieI K cBN) := by
  have GN : FnOk P w K mg base CX0 1 fName fdN ["value"] spName := ok_name FN T
  refine F.okX scTieI (fun vs H Q E h => ?_) (fun cdv A outer s H vs Q E hr h => ?_)
  · obtain ⟨p, dx, D, v, d, rfl, _⟩ := h
    rfl
  · obtain ⟨p, dx, D, v, d, rfl, o, cl, na, hp, k1, k0⟩ := h
    have hr1 : Room 1 _ := hr.mono (by decide)
    refine ⟨_, pss_cons (ps_if (pt_not (pt_val (pe_call GN hr1 rfl Y.gName FN.kp bN .nil pass0 (pa_cons (pv 1) pa_nil))))
      (pss_one (ps_raise rfl (takes_of rfl rfl rfl rfl) (pmk_oex Z.c.oex Z.c.iC Z.c.tI Z.F hr Z.b .nil pass0 rfl Z.c.g (pa_cons (pv 1) pa_nil)))) pss_nil) (pss_one (ps_fld (pv 0) (pv 1) rfl)), ?_⟩
    refine ⟨_, rfl, v, d, rfl, o, _, rfl, ?_⟩
    cases e : nmB v with
    | true => exact iteF ⟨_, rfl, _, rfl, p, D, dx, _, rfl, hp, cl, na, (by show 0 < 1000; decide), k1 e⟩
    | false => exact iteT ⟨_, rfl, er_made (k0 e)⟩
def spNumI (K : PySem.W.Frag) (cBU : Addr) : Sp := fun vs H Q E => ∃ (p dx D : Addr) (fs : List (Str × V)) (v : V) (d : PyData) (lo : Int), vs = [.ref p, v, .int lo] ∧ AV H v d ∧ Cls K D ∧ NoAttr K D "number" ∧ H p = some (.ins D dx fs) ∧ fs.length < 1000 ∧
  (nuB lo v = true → Q .non (upd H p (.ins D dx (putF "number" v fs)))) ∧ (nuB lo v = false → ∀ dd H', Same H H' → H' dd = some (.xd [("value", v)]) → E (.ref cBU) (some dd) H')
theorem scNumI : FnScope ["self", "number", "least"] ["self", "number", "least"] (defScope sNumI) := ⟨rfl, rfl, rfl, by decide +kernel, rfl, by decide +kernel, by decide +kernel⟩
theorem ok_numI {f : Addr} {fd fdW fdB : FuncData} (F : Fun K "__init__" "Numbered.__init__" sNumI f fd) (T : Txt K mg C fWhole fBetw fDay fChk) (Y : Ty K mg G cT cN fTI fNI fName) (FW : Fun K "is_whole" "is_whole" sWhole fWhole fdW) (bW : Binds K fdW ["value"] [])
    (FB : Fun K "is_between" "is_between" sBetw fBetw fdB) (bB : Binds K fdB ["value", "low", "high"] []) (Z : ErM P w K mg base "BadNumber" "value" cBU fBU dBU) : FnOk P w K mg base (L2.CX P w) 3 f fd ["self", "number", "least"] (spNumI K cBU) := by
  have GB : FnOk P w K mg base CX0 2 fBetw fdB ["value", "low", "high"] (spBetw K) := ok_betw FB T FW bW
  obtain ⟨tb, gb⟩ := Y.gMN
  refine F.okX scNumI (fun vs H Q E h => ?_) (fun cdv A outer s H vs Q E hr h => ?_)
  · obtain ⟨p, dx, D, fs, v, d, lo, rfl, _⟩ := h
    rfl
  · obtain ⟨p, dx, D, fs, v, d, lo, rfl, o, cl, na, hp, hl, k1, k0⟩ := h
    refine ⟨_, pss_cons (ps_if (pt_not (pt_val (pe_call GB hr rfl T.gBetw FB.kp bB .nil pass0 (pa_cons (pv 1) (pa_cons (pv 2) (pa_cons (pe_glob (v := .int 60) rfl gb ⟨_, rfl⟩) pa_nil))))))
      (pss_one (ps_raise rfl (takes_of rfl rfl rfl rfl) (pmk_oex Z.c.oex Z.c.iC Z.c.tI Z.F hr Z.b .nil pass0 rfl Z.c.g (pa_cons (pv 1) pa_nil)))) pss_nil) (pss_one (ps_fld (pv 0) (pv 1) rfl)), ?_⟩
    obtain ⟨t, b1, b2, ty, h1, h2, _, h3⟩ := (o.kinds (K := K)).ex
    refine ⟨_, rfl, _, rfl, v, t, b1, b2, lo, 60, rfl, ty, h1, h2, (fun q => ?_), fun q => ?_⟩
    · rw [h3] at q
      have e : nuB lo v = false := by
        cases v with
        | int i => cases q
        | _ => rfl
      exact ⟨_, rfl, iteT ⟨_, rfl, er_made (k0 e)⟩⟩
    · rw [h3] at q
      obtain ⟨i, rfl⟩ : ∃ i, v = .int i := by
        cases v with
        | int i => exact ⟨i, rfl⟩
        | _ => cases q
      refine ⟨i, rfl, _, rfl, ?_⟩
      cases e : (decide (lo ≤ i) && decide (i ≤ 60)) with
      | true => exact iteF ⟨_, rfl, _, rfl, p, D, dx, _, rfl, hp, cl, na, hl, k1 e⟩
      | false => exact iteT ⟨_, rfl, er_made (k0 e)⟩
theorem keeps_same {p : Addr} {H H' : Hp} (s : Same H H') : Keeps p H H' := fun b o e _ => s b o e
theorem keeps_upd {p : Addr} {H : Hp} {o : HO} : Keeps p H (upd H p o) := fun b ob e n => by rw [upd_ne n]; exact e
theorem Keeps.trans {p : Addr} {H H1 H2 : Hp} (a : Keeps p H H1) (b : Keeps p H1 H2) : Keeps p H H2 := fun c o e n => b c o (a c o e n) n
def spInitN (G : Kd → Addr) (cBN cBU : Addr) (k : Kd) : Sp := fun vs H Q E => ∃ (p dx : Addr) (v n : V) (d dn : PyData), vs = [.ref p, v, n] ∧ AV H v d ∧ AV H n dn ∧ H p = some (.ins (G k) dx []) ∧
  (nmB v = false → ∀ dd H', Keeps p H H' → H' dd = some (.xd [("value", v)]) → E (.ref cBN) (some dd) H') ∧
  (nmB v = true → nuB (loOf k) n = false → ∀ dd H', Keeps p H H' → H' dd = some (.xd [("value", n)]) → E (.ref cBU) (some dd) H') ∧
  (nmB v = true → nuB (loOf k) n = true → ∀ H', Keeps p H H' → H' p = some (.ins (G k) dx (putF "number" n (putF "source" v []))) → Q .non H')
def spInitP (G : Kd → Addr) (cBN : Addr) (k : Kd) : Sp := fun vs H Q E => ∃ (p dx : Addr) (v : V) (d : PyData), vs = [.ref p, v] ∧ AV H v d ∧ H p = some (.ins (G k) dx []) ∧
  (nmB v = false → ∀ dd H', Keeps p H H' → H' dd = some (.xd [("value", v)]) → E (.ref cBN) (some dd) H') ∧
  (nmB v = true → ∀ H', Keeps p H H' → H' p = some (.ins (G k) dx (putF "source" v [])) → Q .non H')
/-- what every __init__ needs -/
structure Inits (P : Program) (w : World) (K : PySem.W.Frag) (mg : Str → Option Value) (base : Heap) (cBN cBU fTI fNI : Addr) (dTI dNI : FuncData) : Prop where
  t : FnOk P w K mg base (L2.CX P w) 3 fTI dTI ["self", "source"] (spTieI K cBN)
  bt : Binds K dTI ["self", "source"] []
  n : FnOk P w K mg base (L2.CX P w) 3 fNI dNI ["self", "number", "least"] (spNumI K cBU)
  bn : Binds K dNI ["self", "number", "least"] []
variable {dTI dNI : FuncData}
theorem scBkI : FnScope ["self", "source", "number"] ["self", "source", "number"] (defScope sBkI) := ⟨rfl, rfl, rfl, by decide +kernel, rfl, by decide +kernel, by decide +kernel⟩
theorem ok_bkI {f : Addr} {fd : FuncData} (F : Fun K "__init__" "Back.__init__" sBkI f fd) (Y : Ty K mg G cT cN fTI fNI fName) (J : Inits P w K mg base cBN cBU fTI fNI dTI dNI) : FnOk P w K mg base (L2.CX P w) 4 f fd ["self", "source", "number"] (spInitN G cBN cBU .bk) := by
  refine F.okX scBkI (fun vs H Q E h => ?_) (fun cdv A outer s H vs Q E hr h => ?_)
  · obtain ⟨p, dx, v, n, d, dn, rfl, _⟩ := h
    rfl
  · obtain ⟨p, dx, v, n, d, dn, rfl, o, on, hp, kN, kU, kk⟩ := h
    refine ⟨_, pss_cons (ps_expr (pe_cfn (E := E) (pe_glob (v := .ref cT) rfl Y.gT rfl) Y.rT Y.fT (J.t.raw J.bt .nil) hr (passes_call (takes_of rfl rfl rfl rfl) fun _ _ _ _ h => h) (pa_cons (pv 0) (pa_cons (pv 1) pa_nil))))
      (pss_one (ps_expr (pe_cfn (E := E) (pe_glob (v := .ref cN) rfl Y.gN rfl) Y.rN Y.fN (J.n.raw J.bn .nil) hr (passes_call (takes_of rfl rfl rfl rfl) fun _ _ _ _ h => h) (pa_cons (pv 0) (pa_cons (pv 2) (pa_cons pe_int pa_nil)))))), ?_⟩
    refine ⟨rfl, _, rfl, _, rfl, p, dx, G .bk, v, d, rfl, o, Y.cl _, Y.nS _, hp, (fun e => ?_), fun e dd H' s h => kN e dd H' (keeps_same s) h⟩
    refine ⟨rfl, _, rfl, _, rfl, p, dx, G .bk, _, n, dn, 0, rfl, on.keeps keeps_upd hp, Y.cl _, Y.nN _, upd_same, (by show 1 < 1000; decide), (fun e2 => ?_), fun e2 dd H' s h => kU e e2 dd H' (keeps_upd.trans (keeps_same s)) h⟩
    exact kk e e2 _ (keeps_upd.trans keeps_upd) upd_same
theorem scAhI : FnScope ["self", "source", "number"] ["self", "source", "number"] (defScope sAhI) := ⟨rfl, rfl, rfl, by decide +kernel, rfl, by decide +kernel, by decide +kernel⟩
theorem ok_ahI {f : Addr} {fd : FuncData} (F : Fun K "__init__" "Ahead.__init__" sAhI f fd) (Y : Ty K mg G cT cN fTI fNI fName) (J : Inits P w K mg base cBN cBU fTI fNI dTI dNI) : FnOk P w K mg base (L2.CX P w) 4 f fd ["self", "source", "number"] (spInitN G cBN cBU .ah) := by
  refine F.okX scAhI (fun vs H Q E h => ?_) (fun cdv A outer s H vs Q E hr h => ?_)
  · obtain ⟨p, dx, v, n, d, dn, rfl, _⟩ := h
    rfl
  · obtain ⟨p, dx, v, n, d, dn, rfl, o, on, hp, kN, kU, kk⟩ := h
    refine ⟨_, pss_cons (ps_expr (pe_cfn (E := E) (pe_glob (v := .ref cT) rfl Y.gT rfl) Y.rT Y.fT (J.t.raw J.bt .nil) hr (passes_call (takes_of rfl rfl rfl rfl) fun _ _ _ _ h => h) (pa_cons (pv 0) (pa_cons (pv 1) pa_nil))))
      (pss_one (ps_expr (pe_cfn (E := E) (pe_glob (v := .ref cN) rfl Y.gN rfl) Y.rN Y.fN (J.n.raw J.bn .nil) hr (passes_call (takes_of rfl rfl rfl rfl) fun _ _ _ _ h => h) (pa_cons (pv 0) (pa_cons (pv 2) (pa_cons pe_int pa_nil)))))), ?_⟩
    refine ⟨rfl, _, rfl, _, rfl, p, dx, G .ah, v, d, rfl, o, Y.cl _, Y.nS _, hp, (fun e => ?_), fun e dd H' s h => kN e dd H' (keeps_same s) h⟩
    refine ⟨rfl, _, rfl, _, rfl, p, dx, G .ah, _, n, dn, 1, rfl, on.keeps keeps_upd hp, Y.cl _, Y.nN _, upd_same, (by show 1 < 1000; decide), (fun e2 => ?_), fun e2 dd H' s h => kU e e2 dd H' (keeps_upd.trans (keeps_same s)) h⟩
    exact kk e e2 _ (keeps_upd.trans keeps_upd) upd_same
theorem scSoI : FnScope ["self", "source"] ["self", "source"] (defScope sSoI) := ⟨rfl, rfl, rfl, by decide +kernel, rfl, by decide +kernel, by decide +kernel⟩
theorem ok_soI {f : Addr} {fd : FuncData} (F : Fun K "__init__" "Sofar.__init__" sSoI f fd) (Y : Ty K mg G cT cN fTI fNI fName) (J : Inits P w K mg base cBN cBU fTI fNI dTI dNI) : FnOk P w K mg base (L2.CX P w) 4 f fd ["self", "source"] (spInitP G cBN .so) := by
  refine F.okX scSoI (fun vs H Q E h => ?_) (fun cdv A outer s H vs Q E hr h => ?_)
  · obtain ⟨p, dx, v, d, rfl, _⟩ := h
    rfl
  · obtain ⟨p, dx, v, d, rfl, o, hp, kN, kk⟩ := h
    refine ⟨_, pss_one (ps_expr (pe_cfn (E := E) (pe_glob (v := .ref cT) rfl Y.gT rfl) Y.rT Y.fT (J.t.raw J.bt .nil) hr (passes_call (takes_of rfl rfl rfl rfl) fun _ _ _ _ h => h) (pa_cons (pv 0) (pa_cons (pv 1) pa_nil)))), ?_⟩
    exact ⟨rfl, _, rfl, _, rfl, p, dx, G .so, v, d, rfl, o, Y.cl _, Y.nS _, hp, (fun e => kk e _ keeps_upd upd_same), fun e dd H' s h => kN e dd H' (keeps_same s) h⟩
theorem scWhI : FnScope ["self", "source"] ["self", "source"] (defScope sWhI) := ⟨rfl, rfl, rfl, by decide +kernel, rfl, by decide +kernel, by decide +kernel⟩
theorem ok_whI {f : Addr} {fd : FuncData} (F : Fun K "__init__" "Whole.__init__" sWhI f fd) (Y : Ty K mg G cT cN fTI fNI fName) (J : Inits P w K mg base cBN cBU fTI fNI dTI dNI) : FnOk P w K mg base (L2.CX P w) 4 f fd ["self", "source"] (spInitP G cBN .wh) := by
  refine F.okX scWhI (fun vs H Q E h => ?_) (fun cdv A outer s H vs Q E hr h => ?_)
  · obtain ⟨p, dx, v, d, rfl, _⟩ := h
    rfl
  · obtain ⟨p, dx, v, d, rfl, o, hp, kN, kk⟩ := h
    refine ⟨_, pss_one (ps_expr (pe_cfn (E := E) (pe_glob (v := .ref cT) rfl Y.gT rfl) Y.rT Y.fT (J.t.raw J.bt .nil) hr (passes_call (takes_of rfl rfl rfl rfl) fun _ _ _ _ h => h) (pa_cons (pv 0) (pa_cons (pv 1) pa_nil)))), ?_⟩
    exact ⟨rfl, _, rfl, _, rfl, p, dx, G .wh, v, d, rfl, o, Y.cl _, Y.nS _, hp, (fun e => kk e _ keeps_upd upd_same), fun e dd H' s h => kN e dd H' (keeps_same s) h⟩
theorem scLaI : FnScope ["self", "source"] ["self", "source"] (defScope sLaI) := ⟨rfl, rfl, rfl, by decide +kernel, rfl, by decide +kernel, by decide +kernel⟩
theorem ok_laI {f : Addr} {fd : FuncData} (F : Fun K "__init__" "Last.__init__" sLaI f fd) (Y : Ty K mg G cT cN fTI fNI fName) (J : Inits P w K mg base cBN cBU fTI fNI dTI dNI) : FnOk P w K mg base (L2.CX P w) 4 f fd ["self", "source"] (spInitP G cBN .la) := by
  refine F.okX scLaI (fun vs H Q E h => ?_) (fun cdv A outer s H vs Q E hr h => ?_)
  · obtain ⟨p, dx, v, d, rfl, _⟩ := h
    rfl
  · obtain ⟨p, dx, v, d, rfl, o, hp, kN, kk⟩ := h
    refine ⟨_, pss_one (ps_expr (pe_cfn (E := E) (pe_glob (v := .ref cT) rfl Y.gT rfl) Y.rT Y.fT (J.t.raw J.bt .nil) hr (passes_call (takes_of rfl rfl rfl rfl) fun _ _ _ _ h => h) (pa_cons (pv 0) (pa_cons (pv 1) pa_nil)))), ?_⟩
    exact ⟨rfl, _, rfl, _, rfl, p, dx, G .la, v, d, rfl, o, Y.cl _, Y.nS _, hp, (fun e => kk e _ keeps_upd upd_same), fun e dd H' s h => kN e dd H' (keeps_same s) h⟩
theorem scSmI : FnScope ["self", "source"] ["self", "source"] (defScope sSmI) := ⟨rfl, rfl, rfl, by decide +kernel, rfl, by decide +kernel, by decide +kernel⟩
theorem ok_smI {f : Addr} {fd : FuncData} (F : Fun K "__init__" "Same.__init__" sSmI f fd) (Y : Ty K mg G cT cN fTI fNI fName) (J : Inits P w K mg base cBN cBU fTI fNI dTI dNI) : FnOk P w K mg base (L2.CX P w) 4 f fd ["self", "source"] (spInitP G cBN .sm) := by
  refine F.okX scSmI (fun vs H Q E h => ?_) (fun cdv A outer s H vs Q E hr h => ?_)
  · obtain ⟨p, dx, v, d, rfl, _⟩ := h
    rfl
  · obtain ⟨p, dx, v, d, rfl, o, hp, kN, kk⟩ := h
    refine ⟨_, pss_one (ps_expr (pe_cfn (E := E) (pe_glob (v := .ref cT) rfl Y.gT rfl) Y.rT Y.fT (J.t.raw J.bt .nil) hr (passes_call (takes_of rfl rfl rfl rfl) fun _ _ _ _ h => h) (pa_cons (pv 0) (pa_cons (pv 1) pa_nil)))), ?_⟩
    exact ⟨rfl, _, rfl, _, rfl, p, dx, G .sm, v, d, rfl, o, Y.cl _, Y.nS _, hp, (fun e => kk e _ keeps_upd upd_same), fun e dd H' s h => kN e dd H' (keeps_same s) h⟩
/-- an instance of the class of the kind, with its fields -/
def tflV (k : Kd) (v n : V) : List (Str × V) := if isNum k then putF "number" n (putF "source" v []) else putF "source" v []
/-- all that may come of the making of a tie -/
structure Made (G : Kd → Addr) (cBN cBU : Addr) (k : Kd) (v n : V) (H : Hp) (Q : VK) (E : XK) : Prop where
  av : ∃ d, AV H v d
  an : isNum k = true → ∃ d, AV H n d
  bn : nmB v = false → ∀ dd H', Same H H' → H' dd = some (.xd [("value", v)]) → E (.ref cBN) (some dd) H'
  bu : nmB v = true → isNum k = true → nuB (loOf k) n = false → ∀ dd H', Same H H' → H' dd = some (.xd [("value", n)]) → E (.ref cBU) (some dd) H'
  ok : nmB v = true → (isNum k = true → nuB (loOf k) n = true) → ∀ p dx H', Same H H' → H' p = some (.ins (G k) dx (tflV k v n)) → Q (.ref p) H'
theorem Made.num {k : Kd} {v n : V} {H : Hp} {Q : VK} {E : XK} (m : Made G cBN cBU k v n H Q E) (hk : isNum k = true) : ∀ p dx, H p = none → H dx = none → dx ≠ p → spInitN G cBN cBU k [.ref p, v, n] (upd (upd H dx (.own p)) p (.ins (G k) dx [])) (fun u H2 => u = .non ∧ Q (.ref p) H2) E := fun p dx np nd ne => by
  obtain ⟨d, o⟩ := m.av
  obtain ⟨dn, on⟩ := m.an hk
  have s1 : Same H (upd (upd H dx (.own p)) p (.ins (G k) dx [])) := fun b ob e => by rw [upd_ne (ne_of_none e np), upd_ne (ne_of_none e nd)]; exact e
  have sk : ∀ {H'}, Keeps p (upd (upd H dx (.own p)) p (.ins (G k) dx [])) H' → Same H H' := fun kp b ob e => kp _ _ (s1 _ _ e) (ne_of_none e np)
  refine ⟨p, dx, v, n, d, dn, rfl, o.same s1, on.same s1, upd_same, fun e dd H' kp h => m.bn e dd H' (sk kp) h, fun e e2 dd H' kp h => m.bu e hk e2 dd H' (sk kp) h, fun e e2 H' kp h => ⟨rfl, m.ok e (fun _ => e2) p dx H' (sk kp) ?_⟩⟩
  unfold tflV
  rw [if_pos hk]
  exact h
theorem Made.pl {k : Kd} {v n : V} {H : Hp} {Q : VK} {E : XK} (m : Made G cBN cBU k v n H Q E) (hk : isNum k = false) : ∀ p dx, H p = none → H dx = none → dx ≠ p → spInitP G cBN k [.ref p, v] (upd (upd H dx (.own p)) p (.ins (G k) dx [])) (fun u H2 => u = .non ∧ Q (.ref p) H2) E := fun p dx np nd ne => by
  obtain ⟨d, o⟩ := m.av
  have s1 : Same H (upd (upd H dx (.own p)) p (.ins (G k) dx [])) := fun b ob e => by rw [upd_ne (ne_of_none e np), upd_ne (ne_of_none e nd)]; exact e
  have sk : ∀ {H'}, Keeps p (upd (upd H dx (.own p)) p (.ins (G k) dx [])) H' → Same H H' := fun kp b ob e => kp _ _ (s1 _ _ e) (ne_of_none e np)
  refine ⟨p, dx, v, d, rfl, o.same s1, upd_same, fun e dd H' kp h => m.bn e dd H' (sk kp) h, fun e H' kp h => ⟨rfl, m.ok e (fun q => by rw [hk] at q; cases q) p dx H' (sk kp) ?_⟩⟩
  unfold tflV
  rw [hk]
  exact h
end
end My
namespace My
open PySem PySem.Spec PyProof.Rows L2
theorem ite_ne {A B : Prop} {a b : Str} (h : ¬ a = b) (k : B) : if decide (V.str a = V.str b) = true then A else B := by
  rw [decide_eq_false (fun z => h (V.str.inj z))]
  exact iteF k
theorem ite_eq {A B : Prop} {a : Str} (k : A) : if decide (V.str a = V.str a) = true then A else B := by
  rw [decide_eq_true rfl]
  exact iteT k
def wordOf : Kd → Str
  | .bk => "back"
  | .ah => "ahead"
  | .so => "sofar"
  | .wh => "whole"
  | .la => "last"
  | .sm => "same"
def numV (k : Kd) (n : Int) : V := if isNum k then .int n else .non
/-- a number that a tie of the kind may have; 0 where it has none -/
structure NumOk (k : Kd) (n : Int) : Prop where
  lo : 0 ≤ n
  ah : k = .ah → 1 ≤ n
  hi : n ≤ 60
  no : isNum k = false → n = 0
/-- a name -/
structure NameOk (x : Str) : Prop where
  nb : nameB x = true
  ok : PyData.strOk x = true
theorem NameOk.len {x : Str} (m : NameOk x) : x.length ≤ 8 := by
  have h := m.nb
  unfold nameB at h
  rw [Bool.and_eq_true, Bool.not_eq_true', decide_eq_false_iff_not] at h
  have := h.1
  omega
theorem NameOk.av {x : Str} (m : NameOk x) (H : Hp) : AV H (.str x) (.str x) := .str x (by have := m.len; omega)
theorem NumOk.nu {k : Kd} {n : Int} (o : NumOk k n) (hk : isNum k = true) : nuB (loOf k) (numV k n) = true := by
  unfold numV
  rw [if_pos hk]
  show (decide (loOf k ≤ n) && decide (n ≤ 60)) = true
  rw [decide_eq_true o.hi, Bool.and_true, decide_eq_true_eq]
  cases k with
  | ah => exact o.ah rfl
  | _ => exact o.lo
theorem NumOk.av {k : Kd} {n : Int} (o : NumOk k n) (H : Hp) : ∃ d, AV H (numV k n) d := by
  unfold numV
  split
  · exact ⟨_, .int n (by have := o.lo; have := o.hi; have e : (10 : Nat) ^ 70 = 10000000000000000000000000000000000000000000000000000000000000000000000 := by decide
                         rw [e]; omega)⟩
  · exact ⟨_, .non⟩
section
variable {P : Program} {w : World} {K : PySem.W.Frag} {mg : Str → Option Value} {base : Heap} {C fWhole fBetw fDay fChk fName : Addr} {G : Kd → Addr} {cT cN fTI fNI cBN fBN cBU fBU : Addr} {dBN dBU : FuncData}
def gNS {α : Type} (us ws : List α) : List α := match us, ws with
  | [a], [n, s] => [a, s, n]
  | _, _ => []
def gSo {α : Type} (us ws : List α) : List α := match us, ws with
  | [a], [s] => [a, s]
  | _, _ => []
theorem rel_NS {vs zs : List V} {us ws : List Value} (r1 : Vals vs us) (r2 : Vals zs ws) : Vals (gNS vs zs) (gNS us ws) := by
  cases r1 with
  | nil => exact .nil
  | cons h1 t1 =>
    cases t1 with
    | cons _ _ => exact .nil
    | nil =>
      cases r2 with
      | nil => exact .nil
      | cons h2 t2 =>
        cases t2 with
        | nil => exact .nil
        | cons h3 t3 =>
          cases t3 with
          | nil => exact .cons h1 (.cons h3 (.cons h2 .nil))
          | cons _ _ => exact .nil
theorem rel_So {vs zs : List V} {us ws : List Value} (r1 : Vals vs us) (r2 : Vals zs ws) : Vals (gSo vs zs) (gSo us ws) := by
  cases r1 with
  | nil => exact .nil
  | cons h1 t1 =>
    cases t1 with
    | cons _ _ => exact .nil
    | nil =>
      cases r2 with
      | nil => exact .nil
      | cons h2 t2 =>
        cases t2 with
        | nil => exact .cons h1 (.cons h2 .nil)
        | cons _ _ => exact .nil
theorem kb_NS {x qual : Str} {st : Stmt} {f : Addr} {fd : FuncData} (F : Fun K x qual st f fd) (h : ∀ (kV doc pm : Value) (an : Option Addr) (cdv ct a n s : Value), bindArgs (PySem.W.fnOf x qual (defArgs st) (defBody st) (defScope st) .none kV doc pm an cdv ct) ⟨[a], [("number", n), ("source", s)]⟩ = pure [(("self" : Str), a), (("source" : Str), s), (("number" : Str), n)]) :
    KBn K fd ["self", "source", "number"] 1 ["number", "source"] gNS gNS := by
  obtain ⟨oc, od, kV, doc, pm, an, cdv, ct, osl, rfl, lk, hcd⟩ := F.ex
  refine ⟨fun s us ws _ h1 h2 => ?_, rel_NS⟩
  match us, ws, h1, h2 with
  | [a], [n, s], _, _ => exact .of_eq (h kV doc pm an cdv ct a n s)
theorem kb_So {x qual : Str} {st : Stmt} {f : Addr} {fd : FuncData} (F : Fun K x qual st f fd) (h : ∀ (kV doc pm : Value) (an : Option Addr) (cdv ct a s : Value), bindArgs (PySem.W.fnOf x qual (defArgs st) (defBody st) (defScope st) .none kV doc pm an cdv ct) ⟨[a], [("source", s)]⟩ = pure [(("self" : Str), a), (("source" : Str), s)]) :
    KBn K fd ["self", "source"] 1 ["source"] gSo gSo := by
  obtain ⟨oc, od, kV, doc, pm, an, cdv, ct, osl, rfl, lk, hcd⟩ := F.ex
  refine ⟨fun s us ws _ h1 h2 => ?_, rel_So⟩
  match us, ws, h1, h2 with
  | [a], [s], _, _ => exact .of_eq (h kV doc pm an cdv ct a s)
/-- the six classes, made -/
structure MkT (P : Program) (w : World) (K : PySem.W.Frag) (mg : Str → Option Value) (base : Heap) (G : Kd → Addr) (cBN cBU : Addr) (fI : Kd → Addr) (dI : Kd → FuncData) : Prop where
  fn : ∀ k, isNum k = true → FnOk P w K mg base (L2.CX P w) 4 (fI k) (dI k) ["self", "source", "number"] (spInitN G cBN cBU k)
  bn : ∀ k, isNum k = true → Binds K (dI k) ["self", "source", "number"] []
  kn : ∀ k, isNum k = true → KBn K (dI k) ["self", "source", "number"] 1 ["number", "source"] gNS gNS
  fp : ∀ k, isNum k = false → FnOk P w K mg base (L2.CX P w) 4 (fI k) (dI k) ["self", "source"] (spInitP G cBN k)
  bp : ∀ k, isNum k = false → Binds K (dI k) ["self", "source"] []
  kp : ∀ k, isNum k = false → KBn K (dI k) ["self", "source"] 1 ["source"] gSo gSo
  m : ∀ k, Mk K (G k) (fI k)
variable {fI : Kd → Addr} {dI : Kd → FuncData}
structure TieX (G : Kd → Addr) (H : Hp) (p : Addr) (k : Kd) (n : Int) (x : Str) : Prop where
  ob : ∃ dx, H p = some (.ins (G k) dx (tflV k (.str x) (numV k n)))
theorem TieX.ext {G : Kd → Addr} {H H' : Hp} {p : Addr} {k : Kd} {n : Int} {x : Str} (c : TieX G H p k n x) (s : LamX.ExtN H H') : TieX G H' p k n x := ⟨let ⟨dx, h⟩ := c.ob; ⟨dx, s _ _ h fun _ z => by cases z⟩⟩
theorem TieX.same {G : Kd → Addr} {H H' : Hp} {p : Addr} {k : Kd} {n : Int} {x : Str} (c : TieX G H p k n x) (s : Same H H') : TieX G H' p k n x := ⟨let ⟨dx, h⟩ := c.ob; ⟨dx, s _ _ h⟩⟩
theorem TieX.but {G : Kd → Addr} {H H' : Hp} {p q : Addr} {k : Kd} {n : Int} {x : Str} (c : TieX G H p k n x) (s : SameBut q H H') {xs : List V} (hq : H q = some (.lst xs)) : TieX G H' p k n x :=
  ⟨let ⟨dx, h⟩ := c.ob; ⟨dx, s _ _ (ne_of h hq (by intro z; cases z)) h⟩⟩
theorem made_ok {k : Kd} {H : Hp} {x : Str} {n : Int} {Q : VK} {E : XK} (nm : NameOk x) (ok : NumOk k n) (kk : ∀ p H', Same H H' → TieX G H' p k n x → Q (.ref p) H') : Made G cBN cBU k (.str x) (numV k n) H Q E :=
  ⟨⟨_, nm.av H⟩, fun _ => ok.av H, (fun e => by rw [show nmB (.str x) = nameB x from rfl, nm.nb] at e; cases e), (fun _ hk e => by rw [ok.nu hk] at e; cases e), fun _ _ p dx H' s h => kk p H' s ⟨dx, h⟩⟩
variable {fDraw fPick : Addr} {fdD fdP : FuncData}
theorem in_two (k : Kd) : inV (.str (wordOf k)) [.str "back", .str "ahead"] = isNum k := by cases k <;> decide +kernel
theorem inV_two {k : Kd} {A B : Prop} (h1 : isNum k = true → A) (h0 : isNum k = false → B) : if (if false = true then !inV (.str (wordOf k)) [.str "back", .str "ahead"] else inV (.str (wordOf k)) [.str "back", .str "ahead"]) = true then A else B := by
  rw [in_two k]
  cases e : isNum k with
  | true => exact iteT (h1 e)
  | false => exact iteF (h0 e)
end
end My
namespace My
open PySem PySem.Spec PyProof.Rows L2
def nine61 : Str := repS "9" 61
def numsW : List Str := (List.range 61).map fun (i : Nat) => (toString (i : Int) : String)
def valW (w : Str) : Option Int :=
  if Txt.isascii (Txt.removeprefix w "-") = false then none else if Txt.isdigit (Txt.removeprefix w "-") = false then none else if 60 < ((Txt.removeprefix w "-").length : Int) then none
  else if (Txt.startswith (Txt.removeprefix w "-") "0" && !decide (V.str w = V.str "0")) = true then none else PySem.intText? w
def valOf (w : Str) : Int := (valW w).getD 0
def okL (lo : Int) (w : Str) : Bool := match valW w with
  | some v => decide (lo ≤ v) && decide (v ≤ 60)
  | none => false
/-- int(w), where it comes to it, is one -/
def reachW (w : Str) : Bool := Txt.isascii (Txt.removeprefix w "-") && Txt.isdigit (Txt.removeprefix w "-") && decide (((Txt.removeprefix w "-").length : Int) ≤ 60) && !(Txt.startswith (Txt.removeprefix w "-") "0" && !decide (V.str w = V.str "0"))
def alphW : Str := "abcdefghijklmnopqrstuvwxyz"
def outW (s : Str) : Bool := !(!(Builtin.Str.occurrences alphW s 0 alphW.length 1).isEmpty)
def charsW (w : Str) : List Str := w.cps.toList.map fun c => (⟨#[c]⟩ : Str)
def signsW (w : Str) : List Str := (charsW w).filter outW
def digW : Str := "0123456789"
def outD (s : Str) : Bool := !(!(Builtin.Str.occurrences digW s 0 digW.length 1).isEmpty)
def signsD (w : Str) : List Str := (charsW w).filter outD
/-- the number that the law reads from a word -/
def numL (w : Str) : Option Int := if (decide (1 ≤ (w.length : Int)) && (decide ((w.length : Int) ≤ 60) && ((signsD w).isEmpty && !(decide ((charsW w)[0]? = some ("0" : Str)) && !decide (w = ("0" : Str)))))) = true then PySem.intText? w else none
def okN (lo : Int) (w : Str) : Bool := match numL w with
  | some v => decide (lo ≤ v) && decide (v ≤ 60)
  | none => false
def checkW (w : Str) : Bool :=
  decide (w.length ≤ 80) && (!(TL.tl w).contains 32 && ((!reachW w || (PySem.intText? w).isSome) && (decide ((Txt.removeprefix w "-").length ≤ 80) && (((decide (1 ≤ (w.length : Int)) && (decide ((w.length : Int) ≤ 8) && (signsW w).isEmpty)) == nameB w) &&
  ((okN 0 w == okL 0 w) && ((okN 1 w == okL 1 w) && (SeqAt.shaped (.list ((signsW w).map PyData.str)) && (SeqAt.shaped (.list ((signsD w).map PyData.str)) && (PyData.strOk w && (!((signsD w).isEmpty && (decide (1 ≤ (w.length : Int)) && decide ((w.length : Int) ≤ 60))) || (PySem.intText? w).isSome))))))))))
def tails : List Str := ["", "0", "z", "00", "0z", "z0", "zz", "000", "00z", "0z0", "0zz", "z00", "z0z", "zz0", "zzz"]
def oddF : List Str := ["", "61", "07", "-1", "+2", "B", nine61, "a\n"]
def baseF : List Str := numsW ++ oddF
set_option maxHeartbeats 8000000 in
theorem check_base : baseF.all (fun b => tails.all fun t => checkW (b ++ t)) = true := by decide +kernel
end My
namespace My
open PySem PySem.Spec PyProof.Rows L2
def letters : List Nat := (List.range 26).map (· + 97)
theorem let_all {p : Nat → Bool} (h : letters.all p = true) {c : Nat} (h1 : 97 ≤ c) (h2 : c ≤ 122) : p c = true :=
  List.all_eq_true.mp h c (List.mem_map.mpr ⟨c - 97, List.mem_range.mpr (by omega), by omega⟩)
theorem let_facts : letters.all (fun c => decide (c < 128) && (Unicode.isAlpha c && (Unicode.isLower c && (!Unicode.isDigit c && (!(Unicode.isUpper c || Unicode.isTitle c) && (!outW ⟨#[c]⟩ && (outD ⟨#[c]⟩ && PyData.strOk ⟨#[c]⟩))))))) = true := by decide +kernel
theorem nul_facts : (decide ((48 : Nat) < 128) && (!Unicode.isAlpha 48 && (!(Unicode.isUpper 48 || Unicode.isTitle 48) && (outW ⟨#[48]⟩ && PyData.strOk ⟨#[48]⟩)))) = true := by decide +kernel
/-- a letter -/
structure LetF (c : Nat) : Prop where
  asc : c < 128
  alp : Unicode.isAlpha c = true
  low : Unicode.isLower c = true
  dig : Unicode.isDigit c = false
  up : (Unicode.isUpper c || Unicode.isTitle c) = false
  oW : outW ⟨#[c]⟩ = false
  oD : outD ⟨#[c]⟩ = true
  sk : PyData.strOk ⟨#[c]⟩ = true
theorem let_f {c : Nat} (h1 : 97 ≤ c) (h2 : c ≤ 122) : LetF c := by
  have h := let_all let_facts h1 h2
  simp only [Bool.and_eq_true, Bool.not_eq_true', decide_eq_true_eq] at h
  obtain ⟨a, b, c, d, e, f, g, k⟩ := h
  exact ⟨a, b, c, d, e, f, g, k⟩
structure Low (n : Nat) (w : Str) : Prop where
  hd : ∃ c r, w.cps.toList = c :: r ∧ 97 ≤ c ∧ c ≤ 122
  al : ∀ c ∈ w.cps.toList, (97 ≤ c ∧ c ≤ 122) ∨ c = 48
  len : w.length ≤ 9 + n
theorem low_sk {n : Nat} {w : Str} (h : Low n w) : PyData.strOk w = true := by
  unfold PyData.strOk
  rw [← Array.all_toList, List.all_eq_true]
  intro c hc
  rcases h.al c hc with ⟨a, b⟩ | rfl
  · rw [decide_eq_true_eq]; omega
  · decide
theorem low_ne {n : Nat} {w : Str} (h : Low n w) : 0 < w.length := by
  obtain ⟨c, r, e, _⟩ := h.hd
  have : w.cps.toList.length = w.length := Array.length_toList
  rw [e] at this
  simp at this
  omega
theorem low_rp {n : Nat} {w : Str} (h : Low n w) : Txt.removeprefix w "-" = w := by
  obtain ⟨c, r, e, c1, c2⟩ := h.hd
  obtain ⟨arr⟩ := w
  have e' : arr = (c :: r).toArray := by rw [← e]
  subst e'
  have z : Builtin.Str.subAt ⟨(c :: r).toArray⟩ "-" 0 = false := by
    show ((c :: r).toArray.extract 0 1 == #[45]) = false
    rw [beq_eq_false_iff_ne]
    intro q
    have q2 := congrArg (fun a => a[0]?) q
    simp at q2
    omega
  unfold Txt.removeprefix
  rw [if_neg (by rw [z]; decide)]
  rfl
theorem low_asc {n : Nat} {w : Str} (h : Low n w) : Txt.isascii w = true := by
  unfold Txt.isascii
  rw [← Array.all_toList, List.all_eq_true]
  intro c hc
  rcases h.al c hc with ⟨a, b⟩ | rfl
  · rw [decide_eq_true_eq]; omega
  · decide
theorem low_dig {n : Nat} {w : Str} (h : Low n w) : Txt.isdigit w = false := by
  obtain ⟨c, r, e, c1, c2⟩ := h.hd
  unfold Txt.isdigit
  rw [← Array.all_toList, e, List.all_cons, (let_f c1 c2).dig, Bool.false_and, Bool.and_false]
theorem low_islow {n : Nat} {w : Str} (h : Low n w) : Txt.islower w = true := by
  obtain ⟨c, r, e, c1, c2⟩ := h.hd
  unfold Txt.islower
  have nu : (!(Unicode.isUpper 48 || Unicode.isTitle 48)) = true := by
    have := nul_facts
    simp only [Bool.and_eq_true] at this
    exact this.2.2.1
  have a : w.cps.any Unicode.isLower = true := by
    rw [← Array.any_toList, e, List.any_cons, (let_f c1 c2).low, Bool.true_or]
  have b : (w.cps.any fun c => Unicode.isUpper c || Unicode.isTitle c) = false := by
    rw [← Array.any_toList, List.any_eq_false]
    intro d hd
    rcases h.al d hd with ⟨a, b⟩ | rfl
    · rw [(let_f a b).up]; decide
    · rw [Bool.not_eq_true'] at nu; rw [nu]; decide
  rw [a, b]
  rfl
/-- no 0 in it -/
def noNul (w : Str) : Bool := w.cps.toList.all fun c => decide (97 ≤ c)
theorem low_alpha {n : Nat} {w : Str} (h : Low n w) : Txt.isalpha w = noNul w := by
  have n48 : Unicode.isAlpha 48 = false := by
    have := nul_facts
    simp only [Bool.and_eq_true, Bool.not_eq_true'] at this
    exact this.2.1
  unfold Txt.isalpha noNul
  rw [show decide (w.length > 0) = true from decide_eq_true (low_ne h), Bool.true_and, ← Array.all_toList]
  have go : ∀ l : List Nat, (∀ c ∈ l, (97 ≤ c ∧ c ≤ 122) ∨ c = 48) → l.all Unicode.isAlpha = l.all fun c => decide (97 ≤ c) := by
    intro l
    induction l with
    | nil => intro _; rfl
    | cons a r ih =>
      intro hl
      rw [List.all_cons, List.all_cons, ih fun c hc => hl c (List.mem_cons_of_mem _ hc)]
      congr 1
      rcases hl a List.mem_cons_self with ⟨x, y⟩ | rfl
      · rw [(let_f x y).alp, decide_eq_true x]
      · rw [n48]; rfl
  exact go _ h.al
theorem low_signs {n : Nat} {w : Str} (h : Low n w) : (signsW w).isEmpty = noNul w := by
  have n48 : outW ⟨#[48]⟩ = true := by
    have := nul_facts
    simp only [Bool.and_eq_true] at this
    exact this.2.2.2.1
  unfold signsW charsW noNul
  have go : ∀ l : List Nat, (∀ c ∈ l, (97 ≤ c ∧ c ≤ 122) ∨ c = 48) → ((l.map fun c => (⟨#[c]⟩ : Str)).filter outW).isEmpty = l.all fun c => decide (97 ≤ c) := by
    intro l
    induction l with
    | nil => intro _; rfl
    | cons a r ih =>
      intro hl
      rw [List.all_cons, ← ih fun c hc => hl c (List.mem_cons_of_mem _ hc), List.map_cons]
      rcases hl a List.mem_cons_self with ⟨x, y⟩ | rfl
      · rw [List.filter_cons_of_neg (by rw [(let_f x y).oW]; decide), decide_eq_true x, Bool.true_and]
      · rw [List.filter_cons_of_pos n48]; rfl
  exact go _ h.al
theorem low_name {n : Nat} {w : Str} (h : Low n w) : nameB w = (!decide (8 < (w.length : Int)) && noNul w) := by
  unfold nameB
  rw [low_asc h, low_alpha h, low_islow h, Bool.true_and, Bool.and_true]
theorem low_val {n : Nat} {w : Str} (h : Low n w) : valW w = none := by
  unfold valW
  rw [low_rp h, if_neg (by rw [low_asc h]; decide), if_pos (low_dig h)]
theorem low_digs {n : Nat} {w : Str} (h : Low n w) : (signsD w).isEmpty = false := by
  obtain ⟨c, r, e, c1, c2⟩ := h.hd
  unfold signsD charsW
  rw [e, List.map_cons, List.filter_cons_of_pos (let_f c1 c2).oD]
  rfl
theorem shaped_strs {l : List Str} (h : l.all PyData.strOk = true) : SeqAt.shaped (.list (l.map PyData.str)) = true := by
  show (PyData.canLay0 _ && decide (PyData.depth _ ≤ 64)) = true
  rw [Bool.and_eq_true, decide_eq_true_eq]
  refine ⟨?_, ?_⟩
  · simp only [PyData.canLay0, PyProof.Rows.canLayAll_strs', h]
  · simp [PyData.depth, PyProof.Rows.depthAll_strs']
theorem low_chars {n : Nat} {w : Str} (h : Low n w) : ∀ s ∈ charsW w, PyData.strOk s = true := fun s hs => by
  obtain ⟨c, hc, rfl⟩ := List.mem_map.mp hs
  rcases h.al c hc with ⟨a, b⟩ | rfl
  · exact (let_f a b).sk
  · have := nul_facts
    simp only [Bool.and_eq_true] at this
    exact this.2.2.2.2
theorem low_tl {n : Nat} {w : Str} (h : Low n w) : 32 ∉ TL.tl w := fun m => by
  rcases h.al 32 m with ⟨a, b⟩ | e
  · omega
  · cases e
theorem low_check {n : Nat} {w : Str} (hn : n ≤ 3) (h : Low n w) : checkW w = true := by
  have hl := h.len
  have h0 := low_ne h
  have v := low_val h
  have ok : ∀ lo, okL lo w = false := fun lo => by unfold okL; rw [v]
  have on : ∀ lo, okN lo w = false := fun lo => by
    unfold okN numL
    rw [low_digs h, Bool.false_and, Bool.and_false, Bool.and_false, if_neg (by decide)]
  have re : reachW w = false := by
    unfold reachW
    rw [low_rp h, low_dig h, Bool.and_false, Bool.false_and, Bool.false_and]
  unfold checkW
  rw [decide_eq_true (show w.length ≤ 80 by omega), show (TL.tl w).contains 32 = false from by rw [Bool.eq_false_iff]; exact fun z => low_tl h (List.contains_iff_mem.mp z), re, low_rp h, low_digs h, decide_eq_true (show w.length ≤ 80 by omega),
    decide_eq_true (show 1 ≤ (w.length : Int) by omega), low_signs h, low_name h, on, on, ok, ok, shaped_strs (l := signsW w) (List.all_eq_true.mpr fun s hs => low_chars h s (List.mem_filter.mp hs).1),
    shaped_strs (l := signsD w) (List.all_eq_true.mpr fun s hs => low_chars h s (List.mem_filter.mp hs).1), low_sk h]
  by_cases c : (w.length : Int) ≤ 8
  · rw [decide_eq_true c, decide_eq_false (show ¬ 8 < (w.length : Int) by omega)]
    cases noNul w <;> rfl
  · rw [decide_eq_false c, decide_eq_true (show 8 < (w.length : Int) by omega)]
    cases noNul w <;> rfl
/-- a word that has got at most n signs behind it -/
def WLv (n : Nat) (w : Str) : Prop := (∃ b ∈ baseF, ∃ t ∈ tails, t.length ≤ n ∧ w = b ++ t) ∨ Low n w
theorem wlv_check {n : Nat} {w : Str} (hn : n ≤ 3) (h : WLv n w) : checkW w = true := by
  rcases h with ⟨b, hb, t, ht, _, rfl⟩ | h
  · exact List.all_eq_true.mp (List.all_eq_true.mp check_base b hb) t ht
  · exact low_check hn h
end My
namespace My
open PySem PySem.Spec PyProof.Rows L2
/-- what holds of a word of the law -/
def WOk (w : Str) : Prop := checkW w = true
theorem W_all {w : Str} (h : WOk w) : w.length ≤ 80 ∧ (TL.tl w).contains 32 = false ∧ (!reachW w || (PySem.intText? w).isSome) = true ∧ (Txt.removeprefix w "-").length ≤ 80 ∧ ((decide (1 ≤ (w.length : Int)) && (decide ((w.length : Int) ≤ 8) && (signsW w).isEmpty)) == nameB w) = true ∧
    (okN 0 w == okL 0 w) = true ∧ (okN 1 w == okL 1 w) = true ∧ SeqAt.shaped (.list ((signsW w).map PyData.str)) = true ∧ SeqAt.shaped (.list ((signsD w).map PyData.str)) = true ∧ PyData.strOk w = true ∧ (!((signsD w).isEmpty && (decide (1 ≤ (w.length : Int)) && decide ((w.length : Int) ≤ 60))) || (PySem.intText? w).isSome) = true := by
  unfold WOk checkW at h
  simp only [Bool.and_eq_true, decide_eq_true_eq] at h
  obtain ⟨a, b, c, d, e, f, g, i, j, k, l⟩ := h
  refine ⟨a, by simpa using b, c, d, e, f, g, i, j, k, l⟩
theorem W_len {w : Str} (m : WOk w) : w.length ≤ 80 := (W_all m).1
theorem W_sp {w : Str} (m : WOk w) : 32 ∉ TL.tl w := fun h => by
  have := (W_all m).2.1
  rw [List.contains_iff_mem.mpr h] at this
  cases this
theorem W_int {w : Str} (m : WOk w) (r : reachW w = true) : ∃ n, PySem.intText? w = some n := by
  have := (W_all m).2.2.1
  rw [r] at this
  exact Option.isSome_iff_exists.mp this
theorem W_rp {w : Str} (m : WOk w) : (Txt.removeprefix w "-").length ≤ 80 := (W_all m).2.2.2.1
theorem W_sg {w : Str} (m : WOk w) : (decide (1 ≤ (w.length : Int)) && (decide ((w.length : Int) ≤ 8) && (signsW w).isEmpty)) = nameB w := beq_iff_eq.mp (W_all m).2.2.2.2.1
theorem W_okN {lo : Int} {w : Str} (m : WOk w) (h : lo = 0 ∨ lo = 1) : okN lo w = okL lo w := by
  rcases h with rfl | rfl
  · exact beq_iff_eq.mp (W_all m).2.2.2.2.2.1
  · exact beq_iff_eq.mp (W_all m).2.2.2.2.2.2.1
theorem W_shW {w : Str} (m : WOk w) : SeqAt.shaped (.list ((signsW w).map PyData.str)) = true := (W_all m).2.2.2.2.2.2.2.1
theorem W_shD {w : Str} (m : WOk w) : SeqAt.shaped (.list ((signsD w).map PyData.str)) = true := (W_all m).2.2.2.2.2.2.2.2.1
theorem W_sk {w : Str} (m : WOk w) : PyData.strOk w = true := (W_all m).2.2.2.2.2.2.2.2.2.1
theorem W_dig {w : Str} (m : WOk w) (e : (signsD w).isEmpty = true) (h1 : 1 ≤ (w.length : Int)) (h2 : (w.length : Int) ≤ 60) : ∃ n, PySem.intText? w = some n := by
  have := (W_all m).2.2.2.2.2.2.2.2.2.2
  rw [e, decide_eq_true h1, decide_eq_true h2] at this
  exact Option.isSome_iff_exists.mp this
theorem W_nm {w : Str} (m : WOk w) (h : nameB w = true) : NameOk w := ⟨h, W_sk m⟩
theorem W_av {w : Str} (m : WOk w) (H : Hp) : AV H (.str w) (.str w) := .str w (by have := W_len m; omega)
theorem ok_val {lo : Int} {w : Str} (h : okL lo w = true) : valW w = some (valOf w) ∧ lo ≤ valOf w ∧ valOf w ≤ 60 := by
  unfold okL at h
  unfold valOf
  cases e : valW w with
  | none => rw [e] at h; cases h
  | some v =>
    rw [e] at h
    rw [Bool.and_eq_true, decide_eq_true_eq, decide_eq_true_eq] at h
    exact ⟨rfl, h.1, h.2⟩
theorem split_W {ws : List Str} (ne : ws ≠ []) (h : ∀ w ∈ ws, WOk w) : Txt.split (Txt.join " " ws) " " = ws := TL.split_join (y := " ") (s := 32) (S := []) (by decide +kernel) (by decide +kernel) ne fun w hw => W_sp (h w hw)
theorem lens_W : ∀ {ws : List Str}, (∀ w ∈ ws, WOk w) → (ws.map (·.length)).sum ≤ 80 * ws.length
  | [], _ => by simp
  | a :: r, h => by
    have h1 := W_len (h a (by simp))
    have h2 := lens_W (ws := r) fun w hw => h w (by simp [hw])
    simp only [List.map_cons, List.sum_cons, List.length_cons]
    omega
theorem line_len {ws : List Str} (h : ∀ w ∈ ws, WOk w) : (Txt.join " " ws).length ≤ 81 * ws.length := by
  rw [TL.join_eq]
  have h1 := StrLaws.join_length_le " " ws
  have h2 := lens_W h
  have h3 : (Str.ofString " ").length = 1 := rfl
  rw [h3] at h1
  omega
/-- an instance of Words: its words at L, the next one's index -/
structure WdAt (Cw : Addr) (H : Hp) (p L : Addr) (ws : List Str) (i : Nat) : Prop where
  ob : ∃ (dx : Addr) (fs : List (Str × V)), H p = some (.ins Cw dx fs) ∧ fs.lookup ("_words" : Str) = some (.ref L) ∧ fs.lookup ("_row" : Str) = some (.int 0) ∧ fs.lookup ("_at" : Str) = some (.int (i : Nat)) ∧ (∀ m : Str, ¬ m = "_words" → ¬ m = "_row" → ¬ m = "_at" → fs.lookup m = none) ∧ fs.length ≤ 3 + i
  li : H L = some (.lst (ws.map V.str))
theorem WdAt.same {Cw : Addr} {H H' : Hp} {p L : Addr} {ws : List Str} {i : Nat} (o : WdAt Cw H p L ws i) (s : Same H H') : WdAt Cw H' p L ws i :=
  ⟨let ⟨dx, fs, h, r⟩ := o.ob; ⟨dx, fs, s _ _ h, r⟩, s _ _ o.li⟩
/-- the next word is behind -/
theorem WdAt.on {Cw : Addr} {H : Hp} {p L dx : Addr} {ws : List Str} {i : Nat} {fs : List (Str × V)} (o : WdAt Cw H p L ws i) (h1 : H p = some (.ins Cw dx fs)) : WdAt Cw (upd H p (.ins Cw dx (putF "_at" (.int ((i : Int) + 1)) fs))) p L ws (i + 1) := by
  obtain ⟨dx', fs', h1', fW, fR, fA, fM, fl⟩ := o.ob
  rw [h1] at h1'
  have e := Option.some.inj h1'
  injection e with e0 e1 e2
  subst e1
  subst e2
  refine ⟨⟨dx, _, upd_same, ?_, ?_, ?_, fun m m1 m2 m3 => ?_, ?_⟩, ?_⟩
  · rw [lookup_putF, if_neg (by decide +kernel)]; exact fW
  · rw [lookup_putF, if_neg (by decide +kernel)]; exact fR
  · rw [lookup_putF, if_pos rfl]
    have : ((i + 1 : Nat) : Int) = (i : Int) + 1 := by omega
    rw [this]
  · rw [lookup_putF, if_neg m3]
    exact fM m m1 m2 m3
  · exact Nat.le_trans (length_putF _ _ fs) (by omega)
  · rw [upd_ne (ne_of o.li h1 (by intro z; cases z))]
    exact o.li
/-- what the module has for words -/
structure TxtW (K : PySem.W.Frag) (mg : Str → Option Value) (Cw fWr fOv fAh fOne fTk fNm fEn : Addr) : Prop where
  cw : Cls K Cw
  nW : NoAttr K Cw "_words"
  nR : NoAttr K Cw "_row"
  nA : NoAttr K Cw "_at"
  gWds : mg "Words" = some (.ref Cw)
  gWrit : mg "written_integer" = some (.ref fWr)
  mOv : Meth K Cw "is_over" fOv
  mAh : Meth K Cw "is_ahead" fAh
  mOne : Meth K Cw "take_one_of" fOne
  mTk : Meth K Cw "take_integer" fTk
  mNm : Meth K Cw "take_name" fNm
  mEn : Meth K Cw "take_end" fEn
/-- an error with two fields -/
structure ErM2 (P : Program) (w : World) (K : PySem.W.Frag) (mg : Str → Option Value) (base : Heap) (x f g : Str) (C fI : Addr) (fd : FuncData) : Prop where
  c2 : ErC K mg x f C fI
  c3 : ErC K mg x g C fI
  F2 : FnOk P w K mg base CX0 1 fI fd ["self", f, g] (spErI2 f g C)
  b2 : Binds K fd ["self", f, g] []
section
variable {P : Program} {w : World} {K : PySem.W.Frag} {mg : Str → Option Value} {base : Heap} {C Cw fWhole fBetw fDay fChk fName fWr fOv fAh fOne fTk fNm fEn cBT fBT cT cN fTI fNI : Addr} {G : Kd → Addr} {dBT dWr dOv dAh dName : FuncData}
def badX (k : Nat) : List (Str × V) := [("word", .int (k : Nat)), ("line", .int 0)]
def optV : Option Int → V
  | some v => .int v
  | none => .non
def spWrit : Sp := fun vs H Q _ => ∃ w : Str, vs = [.str w] ∧ WOk w ∧ Q (optV (valW w)) H
theorem scWrit : FnScope ["word", "figures"] ["word"] (defScope sWrit) := ⟨rfl, rfl, rfl, by decide +kernel, rfl, by decide +kernel, by decide +kernel⟩
theorem ok_writ {f : Addr} {fd : FuncData} (F : Fun K "written_integer" "written_integer" sWrit f fd) (T : Txt K mg C fWhole fBetw fDay fChk) : FnOk P w K mg base CX0 1 f fd ["word"] spWrit := by
  refine F.ok scWrit (fun vs H Q E h => ?_) (fun cdv A outer s H vs Q E hr h => ?_)
  · obtain ⟨w, rfl, _⟩ := h
    rfl
  · obtain ⟨w, rfl, m, k⟩ := h
    refine ⟨_, pss_cons (ps_set (i := 1) scWrit.nd rfl (Or.inl rfl) (pe_m1 PySem.F.slot_str_removeprefix PySem.F.type_str_removeprefix mt_removeprefix (pv 0) pe_str))
      (pss_cons (ps_if (PW.pt (pw_or (pt_not (pt_val (pe_m0 PySem.F.slot_str_isascii PySem.F.type_str_isascii mt_isascii (pv 1)))) (pw_or (pt_not (pt_val (pe_m0 PySem.F.slot_str_isdigit PySem.F.type_str_isdigit mt_isdigit (pv 1))))
          (pw_or1 (pt_cmpR op_gt (pe_callB call_len_str (by rfl) T.zLen PySem.boot_len (pa_cons (pv 1) pa_nil)) pe_int (nomark _)))))) (pss_one (ps_ret pe_non)) pss_nil)
      (pss_cons (ps_if (PW.pt (pw_and (pt_val (pe_m1 PySem.F.slot_str_startswith PySem.F.type_str_startswith mt_startswith (pv 1) pe_str)) (pw_and1 (pt_cmpR op_ne (pv 0) pe_str (nomark _))))) (pss_one (ps_ret pe_non)) pss_nil)
      (pss_one (ps_ret (pe_callTy call_int_str (by rfl) T.zInt (by decide +kernel) (pa_cons (pv 0) pa_nil)))))), ?_⟩
    have l61 := W_len m
    have lf := W_rp m
    have kk : Q (optV (valW w)) H := k
    unfold valW at kk
    refine ⟨_, rfl, ⟨w, rfl⟩, w, "-", rfl, rfl, Nat.le_of_lt (small1000 (by omega)), ?_⟩
    refine ⟨_, rfl, ⟨_, rfl⟩, _, rfl, rfl, trivial, _, rfl, ?_⟩
    cases e1 : Txt.isascii (Txt.removeprefix w "-") with
    | false => rw [if_pos e1] at kk; exact iteT kk
    | true =>
      rw [if_neg (by rw [e1]; decide)] at kk
      refine iteF ⟨_, rfl, ⟨_, rfl⟩, _, rfl, rfl, trivial, _, rfl, ?_⟩
      cases e2 : Txt.isdigit (Txt.removeprefix w "-") with
      | false => rw [if_pos e2] at kk; exact iteT kk
      | true =>
        rw [if_neg (by rw [e2]; decide)] at kk
        refine iteF ⟨_, rfl, _, rfl, Nat.le_of_lt (small1000 (by omega)), _, _, rfl, rfl, _, rfl, ?_⟩
        by_cases e3 : 60 < ((Txt.removeprefix w "-").length : Int)
        · rw [if_pos e3] at kk
          rw [decide_eq_true e3]
          exact iteT kk
        · rw [if_neg e3] at kk
          rw [decide_eq_false e3]
          refine iteF ⟨_, rfl, ⟨_, rfl⟩, _, "0", rfl, rfl, _, rfl, ?_⟩
          have go : (Txt.startswith (Txt.removeprefix w "-") "0" && !decide (V.str w = V.str "0")) = false → tRet (tCB (fun xs H Q => ∃ a n, xs = [.str a] ∧ PySem.intText? a = some n ∧ a.length ≤ 640 ∧ Q (.int n) H) (tCons (tVar 0) tNil)) { nx := fun x H' => Q V.non H', rt := Q } [some (.str w), some (.str (Txt.removeprefix w "-"))] H := fun e4 => by
            rw [if_neg (by rw [e4]; decide)] at kk
            have rw_ : reachW w = true := by
              unfold reachW
              rw [e1, e2, decide_eq_true (show ((Txt.removeprefix w "-").length : Int) ≤ 60 by omega), e4]
              rfl
            obtain ⟨n, hn⟩ := W_int m rw_
            rw [hn] at kk
            exact ⟨_, rfl, w, n, rfl, hn, by omega, kk⟩
          cases e4 : Txt.startswith (Txt.removeprefix w "-") "0" with
          | false => exact iteF (go (by rw [e4]; rfl))
          | true =>
            refine iteT ⟨_, rfl, rfl, _, rfl, ?_⟩
            cases e5 : decide (V.str w = V.str "0") with
            | false =>
              rw [if_pos (by rw [e4, e5]; rfl)] at kk
              exact iteT kk
            | true => exact iteF (go (by rw [e4, e5]; rfl))
def spOver (Cw : Addr) : Sp := fun vs H Q _ => ∃ (p L : Addr) (ws : List Str) (i : Nat), vs = [.ref p] ∧ WdAt Cw H p L ws i ∧ Q (.bl (decide (i = ws.length))) H
theorem scOver : FnScope ["self"] ["self"] (defScope sOver) := ⟨rfl, rfl, rfl, by decide +kernel, rfl, by decide +kernel, by decide +kernel⟩
theorem ok_over {f : Addr} {fd : FuncData} (F : Fun K "is_over" "Words.is_over" sOver f fd) (T : Txt K mg C fWhole fBetw fDay fChk) (TW : TxtW K mg Cw fWr fOv fAh fOne fTk fNm fEn) : FnOk P w K mg base CX0 1 f fd ["self"] (spOver Cw) := by
  refine F.ok scOver (fun vs H Q E h => ?_) (fun cdv A outer s H vs Q E hr h => ?_)
  · obtain ⟨p, L, ws, i, rfl, _⟩ := h
    rfl
  · obtain ⟨p, L, ws, i, rfl, o, k⟩ := h
    obtain ⟨dx, fs, h1, hW, hR, hA, _, hl⟩ := o.ob
    refine ⟨_, pss_one (ps_ret (pe_cmpR op_eq (pe_fld (pv 0) rfl) (pe_callB call_len_seq (by rfl) T.zLen PySem.boot_len (pa_cons (pe_fld (pv 0) rfl) pa_nil)) (nomark _))), ?_⟩
    refine ⟨_, rfl, p, Cw, dx, _, _, rfl, h1, TW.cw, TW.nA, hA, _, rfl, p, Cw, dx, _, _, rfl, h1, TW.cw, TW.nW, hW, L, _, rfl, .inl (SqL.of o.li), rfl, ?_⟩
    rw [List.length_map]
    have e : decide (V.int (i : Nat) = V.int (ws.length : Nat)) = decide (i = ws.length) := by
      rw [Bool.eq_iff_iff, decide_eq_true_eq, decide_eq_true_eq]
      constructor
      · intro z
        have := V.int.inj z
        omega
      · intro z
        rw [z]
    rw [e]
    exact k
def spTake (Cw cBT : Addr) : Sp := fun vs H Q E => ∃ (p L : Addr) (ws : List Str) (i : Nat) (lo : Int), vs = [.ref p, .int lo, .int 60] ∧ WdAt Cw H p L ws i ∧ (∀ x ∈ ws, WOk x) ∧ ws.length ≤ 200 ∧ i ≤ ws.length ∧
  (∀ x, ws[i]? = some x → okL lo x = true → ∀ H', Keeps p H H' → WdAt Cw H' p L ws (i + 1) → Q (.int (valOf x)) H') ∧
  ((∀ x, ws[i]? = some x → okL lo x = false) → ∀ dd H', Same H H' → H' dd = some (.xd (badX i)) → E (.ref cBT) (some dd) H')
theorem scTake : FnScope ["self", "low", "high", "value"] ["self", "low", "high"] (defScope sTake) := ⟨rfl, rfl, rfl, by decide +kernel, rfl, by decide +kernel, by decide +kernel⟩
theorem ok_take {f : Addr} {fd : FuncData} (F : Fun K "take_integer" "Words.take_integer" sTake f fd) (TW : TxtW K mg Cw fWr fOv fAh fOne fTk fNm fEn) (OV : FnOk P w K mg base CX0 1 fOv dOv ["self"] (spOver Cw)) (bOv : Binds K dOv ["self"] []) (WR : FnOk P w K mg base CX0 1 fWr dWr ["word"] spWrit) (bWr : Binds K dWr ["word"] []) (kWr : PySem.W.keepIn K (.ref fWr) = true)
    (Z : ErM2 P w K mg base "BadText" "line" "word" cBT fBT dBT) : FnOk P w K mg base (L2.CX P w) 3 f fd ["self", "low", "high"] (spTake Cw cBT) := by
  refine F.okX scTake (fun vs H Q E h => ?_) (fun cdv A outer s H vs Q E hr h => ?_)
  · obtain ⟨p, L, ws, i, lo, rfl, _⟩ := h
    rfl
  · obtain ⟨p, L, ws, i, lo, rfl, o, hW, hl, hi, k1, k0⟩ := h
    have hr1 : Room 1 _ := hr.mono (by decide)
    obtain ⟨dx, fs, h1, fW, fR, fA, fM, fl⟩ := o.ob
    have fO := fM "is_over" (by decide +kernel) (by decide +kernel) (by decide +kernel)
    refine ⟨_, pss_cons (ps_if (pt_val (pe_meth0 (pv 0) TW.cw TW.mOv OV hr1 bOv .nil pass0)) (pss_one (ps_raise rfl (takes_of rfl rfl rfl rfl) (pmk_oex Z.c2.oex Z.c2.iC Z.c2.tI Z.F2 hr Z.b2 .nil pass0 rfl Z.c2.g (pa_cons (pe_fld (pv 0) rfl) (pa_cons (pe_fld (pv 0) rfl) pa_nil))))) pss_nil)
      (pss_cons (ps_set (i := 3) scTake.nd rfl (Or.inl rfl) (pe_call WR hr1 rfl TW.gWrit kWr bWr .nil pass0 (pa_cons (pe_ix ix_list (pe_fld (pv 0) rfl) (pe_fld (pv 0) rfl) (fun _ _ => rfl)) pa_nil)))
      (pss_cons (ps_if (PW.pt (pw_or (pt_cmp (pc_isN (pv 3))) (pw_or (pt_cmpR op_lt (pv 3) (pv 1) (nomark _)) (pw_or1 (pt_cmpR op_gt (pv 3) (pv 2) (nomark _)))))) (pss_one (ps_raise rfl (takes_of rfl rfl rfl rfl) (pmk_oex Z.c2.oex Z.c2.iC Z.c2.tI Z.F2 hr Z.b2 .nil pass0 rfl Z.c2.g (pa_cons (pe_fld (pv 0) rfl) (pa_cons (pe_fld (pv 0) rfl) pa_nil))))) pss_nil)
      (pss_cons (ps_fld (pv 0) (pe_op op_add (pe_fld (pv 0) rfl) pe_int) rfl)
      (pss_one (ps_ret (pv 3)))))), ?_⟩
    refine ⟨_, rfl, p, dx, _, rfl, h1, fO, p, L, ws, i, rfl, o, _, rfl, ?_⟩
    by_cases e : i = ws.length
    · rw [decide_eq_true e]
      have no : ∀ x, ws[i]? = some x → okL lo x = false := fun x hx => by rw [e] at hx; simp at hx
      exact iteT ⟨_, rfl, p, Cw, dx, _, _, rfl, h1, TW.cw, TW.nR, fR, _, rfl, p, Cw, dx, _, _, rfl, h1, TW.cw, TW.nA, fA, er_made2 (k0 no)⟩
    · rw [decide_eq_false e]
      obtain ⟨x, hx⟩ : ∃ x, ws[i]? = some x := ⟨_, List.getElem?_eq_getElem (by omega)⟩
      have hxV : (ws.map V.str)[i]? = some (V.str x) := by rw [List.getElem?_map, hx]; rfl
      have mx := hW x (List.mem_of_getElem? hx)
      refine iteF ⟨_, rfl, p, Cw, dx, _, _, rfl, h1, TW.cw, TW.nW, fW, _, rfl, p, Cw, dx, _, _, rfl, h1, TW.cw, TW.nA, fA, L, _, _, _, rfl, rfl, SqL.of o.li, atI_nat hxV, x, rfl, mx, ?_⟩
      have bad : okL lo x = false → ∀ y, ws[i]? = some y → okL lo y = false := fun q y hy => by rw [hx] at hy; cases hy; exact q
      cases e2 : valW x with
      | none =>
        have q : okL lo x = false := by unfold okL; rw [e2]
        refine ⟨_, rfl, _, rfl, iteT ⟨_, rfl, p, Cw, dx, _, _, rfl, h1, TW.cw, TW.nR, fR, _, rfl, p, Cw, dx, _, _, rfl, h1, TW.cw, TW.nA, fA, er_made2 (k0 (bad q))⟩⟩
      | some v =>
        refine ⟨_, rfl, _, rfl, iteF ⟨_, rfl, _, rfl, _, _, rfl, rfl, _, rfl, ?_⟩⟩
        by_cases c1 : v < lo
        · have q : okL lo x = false := by unfold okL; rw [e2]; show (decide (lo ≤ v) && decide (v ≤ 60)) = false; rw [decide_eq_false (by omega)]; rfl
          rw [decide_eq_true c1]
          exact iteT ⟨_, rfl, p, Cw, dx, _, _, rfl, h1, TW.cw, TW.nR, fR, _, rfl, p, Cw, dx, _, _, rfl, h1, TW.cw, TW.nA, fA, er_made2 (k0 (bad q))⟩
        · rw [decide_eq_false c1]
          refine iteF ⟨_, rfl, _, rfl, _, _, rfl, rfl, _, rfl, ?_⟩
          by_cases c2 : 60 < v
          · have q : okL lo x = false := by unfold okL; rw [e2]; show (decide (lo ≤ v) && decide (v ≤ 60)) = false; rw [decide_eq_false (show ¬ v ≤ 60 by omega), Bool.and_false]
            rw [decide_eq_true c2]
            exact iteT ⟨_, rfl, p, Cw, dx, _, _, rfl, h1, TW.cw, TW.nR, fR, _, rfl, p, Cw, dx, _, _, rfl, h1, TW.cw, TW.nA, fA, er_made2 (k0 (bad q))⟩
          · have q : okL lo x = true := by unfold okL; rw [e2]; show (decide (lo ≤ v) && decide (v ≤ 60)) = true; rw [decide_eq_true (show lo ≤ v by omega), decide_eq_true (show v ≤ 60 by omega)]; rfl
            rw [decide_eq_false c2]
            have ev : v = valOf x := by unfold valOf; rw [e2]; rfl
            have fl' := length_putF "_at" (.int ((i : Int) + 1)) fs
            refine iteF ⟨_, rfl, p, Cw, dx, _, _, rfl, h1, TW.cw, TW.nA, fA, _, _, rfl, rfl, _, rfl, p, Cw, dx, _, rfl, h1, TW.cw, TW.nA, (by omega), _, rfl, ?_⟩
            show Q (.int v) _
            rw [ev]
            exact k1 x hx q _ (fun b ob eb nb => by rw [upd_ne nb]; exact eb) (o.on h1)
end
end My
namespace My
open PySem PySem.Spec PyProof.Rows L2
/-- a line of words -/
structure LineOk (ws : List Str) : Prop where
  ne : ws ≠ []
  mem : ∀ w ∈ ws, WOk w
  few : ws.length ≤ 200
section
variable {P : Program} {w : World} {K : PySem.W.Frag} {mg : Str → Option Value} {base : Heap} {C Cw fWhole fBetw fDay fChk fName fWr fOv fAh fOne fTk fNm fEn fWI cBT fBT cT cN fTI fNI : Addr} {G : Kd → Addr} {dBT dWr dOv dAh dWI dName : FuncData}
def spAhd (Cw : Addr) : Sp := fun vs H Q _ => ∃ (p L : Addr) (ws : List Str) (i : Nat) (x : Str), vs = [.ref p, .str x] ∧ WdAt Cw H p L ws i ∧ i ≤ ws.length ∧ Q (.bl (decide (ws[i]? = some x))) H
theorem scAhd : FnScope ["self", "word"] ["self", "word"] (defScope sAhd) := ⟨rfl, rfl, rfl, by decide +kernel, rfl, by decide +kernel, by decide +kernel⟩
theorem ok_ahd {f : Addr} {fd : FuncData} (F : Fun K "is_ahead" "Words.is_ahead" sAhd f fd) (TW : TxtW K mg Cw fWr fOv fAh fOne fTk fNm fEn) (OV : FnOk P w K mg base CX0 1 fOv dOv ["self"] (spOver Cw)) (bOv : Binds K dOv ["self"] []) : FnOk P w K mg base CX0 2 f fd ["self", "word"] (spAhd Cw) := by
  refine F.ok scAhd (fun vs H Q E h => ?_) (fun cdv A outer s H vs Q E hr h => ?_)
  · obtain ⟨p, L, ws, i, x, rfl, _⟩ := h
    rfl
  · obtain ⟨p, L, ws, i, x, rfl, o, hi, k⟩ := h
    obtain ⟨dx, fs, h1, fW, fR, fA, fM, fl⟩ := o.ob
    have fO := fM "is_over" (by decide +kernel) (by decide +kernel) (by decide +kernel)
    refine ⟨_, pss_one (ps_ret (pe_and (pe_not (pe_meth0 (pv 0) TW.cw TW.mOv OV hr bOv .nil pass0)) (pe_one (pe_cmpR op_eq (pe_ix ix_list (pe_fld (pv 0) rfl) (pe_fld (pv 0) rfl) (fun _ _ => rfl)) (pv 1) (nomark _))))), ?_⟩
    refine ⟨_, rfl, p, dx, _, rfl, h1, fO, p, L, ws, i, rfl, o, _, rfl, _, rfl, ?_⟩
    by_cases e : i = ws.length
    · rw [decide_eq_true e]
      have no : ws[i]? = none := by rw [e]; simp
      rw [no] at k
      exact iteF k
    · rw [decide_eq_false e]
      obtain ⟨y, hy⟩ : ∃ y, ws[i]? = some y := ⟨_, List.getElem?_eq_getElem (by omega)⟩
      have hyV : (ws.map V.str)[i]? = some (V.str y) := by rw [List.getElem?_map, hy]; rfl
      refine iteT ⟨_, rfl, p, Cw, dx, _, _, rfl, h1, TW.cw, TW.nW, fW, _, rfl, p, Cw, dx, _, _, rfl, h1, TW.cw, TW.nA, fA, L, _, _, _, rfl, rfl, SqL.of o.li, atI_nat hyV, _, rfl, rfl, ?_⟩
      have e2 : decide (V.str y = V.str x) = decide (ws[i]? = some x) := by
        rw [hy, Bool.eq_iff_iff, decide_eq_true_eq, decide_eq_true_eq]
        exact ⟨fun z => by rw [V.str.inj z], fun z => by rw [Option.some.inj z]⟩
      rw [e2]
      exact k
def spOne (K : PySem.W.Frag) (Cw cBT : Addr) : Sp := fun vs H Q E => ∃ (p L a : Addr) (ws cs : List Str) (i : Nat), vs = [.ref p, .ref a] ∧ WdAt Cw H p L ws i ∧ ws.length ≤ 200 ∧ i ≤ ws.length ∧ (∀ H', SqT K H' a (cs.map V.str)) ∧
  (∀ x, ws[i]? = some x → x ∈ cs → ∀ H', Keeps p H H' → WdAt Cw H' p L ws (i + 1) → Q (.str x) H') ∧
  ((∀ x, ws[i]? = some x → x ∉ cs) → ∀ dd H', Same H H' → H' dd = some (.xd (badX i)) → E (.ref cBT) (some dd) H')
theorem scOne : FnScope ["self", "choices", "word"] ["self", "choices"] (defScope sOneOf) := ⟨rfl, rfl, rfl, by decide +kernel, rfl, by decide +kernel, by decide +kernel⟩
theorem ok_one {f : Addr} {fd : FuncData} (F : Fun K "take_one_of" "Words.take_one_of" sOneOf f fd) (TW : TxtW K mg Cw fWr fOv fAh fOne fTk fNm fEn) (AH : FnOk P w K mg base CX0 2 fAh dAh ["self", "word"] (spAhd Cw)) (bAh : Binds K dAh ["self", "word"] [])
    (Z : ErM2 P w K mg base "BadText" "line" "word" cBT fBT dBT) : FnOk P w K mg base (L2.CX P w) 3 f fd ["self", "choices"] (spOne K Cw cBT) := by
  refine F.okX scOne (fun vs H Q E h => ?_) (fun cdv A outer s H vs Q E hr h => ?_)
  · obtain ⟨p, L, a, ws, cs, i, rfl, _⟩ := h
    rfl
  · obtain ⟨p, L, a, ws, cs, i, rfl, o, hl, hi, ha, k1, k0⟩ := h
    obtain ⟨dx, fs, h1, fW, fR, fA, fM, fl⟩ := o.ob
    have fH := fM "is_ahead" (by decide +kernel) (by decide +kernel) (by decide +kernel)
    refine ⟨_, pss_cons (ps_for (passes_of rfl) rfl (pi_tup (pv 1)) (pg_name (i := 2) scOne.nd rfl (Or.inl rfl))
        (pss_one (ps_if (pt_val (pe_meth (pv 0) TW.cw TW.mAh AH hr bAh .nil pass0 (pa_cons (pv 2) pa_nil))) (pss_cons (ps_fld (pv 0) (pe_op op_add (pe_fld (pv 0) rfl) pe_int) rfl) (pss_one (ps_ret (pv 2)))) pss_nil)))
      (pss_one (ps_raise rfl (takes_of rfl rfl rfl rfl) (pmk_oex Z.c2.oex Z.c2.iC Z.c2.tI Z.F2 (hr.mono (by decide)) Z.b2 .nil pass0 rfl Z.c2.g (pa_cons (pe_fld (pv 0) rfl) (pa_cons (pe_fld (pv 0) rfl) pa_nil))))), ?_⟩
    refine ⟨_, rfl, a, rfl, ⟨_, ha _⟩, for_tup (K := K) (a := a) (xs := cs.map V.str) (fun j σ H' => ∃ u : Option V, H' = H ∧ σ = [some (.ref p), some (.ref a), u] ∧ ∀ m, m < j → ∀ y, cs[m]? = some y → ws[i]? ≠ some y) ⟨none, rfl, rfl, fun m hm => absurd hm (Nat.not_lt_zero _)⟩ (fun j σ H' _ _ => ha _) ?_ ?_⟩
    · rintro j x σ H' hj ⟨u, rfl, rfl, no⟩
      obtain ⟨y, hy, rfl⟩ : ∃ y, cs[j]? = some y ∧ x = V.str y := by
        rw [List.getElem?_map] at hj
        cases e : cs[j]? with
        | none => rw [e] at hj; cases hj
        | some z => rw [e] at hj; exact ⟨z, rfl, (Option.some.inj hj).symm⟩
      refine ⟨_, rfl, p, dx, _, rfl, h1, fH, _, rfl, p, L, ws, i, y, rfl, o, hi, _, rfl, ?_⟩
      by_cases c : ws[i]? = some y
      · rw [decide_eq_true c]
        exact iteT ⟨_, rfl, p, Cw, dx, _, _, rfl, h1, TW.cw, TW.nA, fA, _, _, rfl, rfl, _, rfl, p, Cw, dx, _, rfl, h1, TW.cw, TW.nA, (by omega), _, rfl, k1 y c (List.mem_of_getElem? hy) _ (fun b ob eb nb => by rw [upd_ne nb]; exact eb) (o.on h1)⟩
      · rw [decide_eq_false c]
        refine iteF ⟨_, rfl, rfl, fun m hm z hz => ?_⟩
        by_cases cm : m = j
        · subst cm
          rw [hy] at hz
          cases hz
          exact c
        · exact no m (by omega) z hz
    · rintro σ H' ⟨u, rfl, rfl, no⟩
      refine ⟨_, rfl, p, Cw, dx, _, _, rfl, h1, TW.cw, TW.nR, fR, _, rfl, p, Cw, dx, _, _, rfl, h1, TW.cw, TW.nA, fA, er_made2 (k0 fun x hx mx => ?_)⟩
      obtain ⟨m, hm⟩ := List.getElem?_of_mem mx
      exact no m (by rw [List.length_map]; exact (List.getElem?_eq_some_iff.mp hm).1) x hm hx
def spNm (Cw cBT : Addr) : Sp := fun vs H Q E => ∃ (p L : Addr) (ws : List Str) (i : Nat), vs = [.ref p] ∧ WdAt Cw H p L ws i ∧ (∀ x ∈ ws, WOk x) ∧ ws.length ≤ 200 ∧ i ≤ ws.length ∧
  (∀ x, ws[i]? = some x → nameB x = true → ∀ H', Keeps p H H' → WdAt Cw H' p L ws (i + 1) → Q (.str x) H') ∧
  ((∀ x, ws[i]? = some x → nameB x = false) → ∀ dd H', Same H H' → H' dd = some (.xd (badX i)) → E (.ref cBT) (some dd) H')
theorem scNm : FnScope ["self"] ["self"] (defScope sTakeN) := ⟨rfl, rfl, rfl, by decide +kernel, rfl, by decide +kernel, by decide +kernel⟩
theorem ok_nm {f : Addr} {fd : FuncData} (F : Fun K "take_name" "Words.take_name" sTakeN f fd) (TW : TxtW K mg Cw fWr fOv fAh fOne fTk fNm fEn) (Y : Ty K mg G cT cN fTI fNI fName) (OV : FnOk P w K mg base CX0 1 fOv dOv ["self"] (spOver Cw)) (bOv : Binds K dOv ["self"] [])
    (GN : FnOk P w K mg base CX0 1 fName dName ["value"] spName) (bN : Binds K dName ["value"] []) (kN : PySem.W.keepIn K (.ref fName) = true) (Z : ErM2 P w K mg base "BadText" "line" "word" cBT fBT dBT) : FnOk P w K mg base (L2.CX P w) 3 f fd ["self"] (spNm Cw cBT) := by
  refine F.okX scNm (fun vs H Q E h => ?_) (fun cdv A outer s H vs Q E hr h => ?_)
  · obtain ⟨p, L, ws, i, rfl, _⟩ := h
    rfl
  · obtain ⟨p, L, ws, i, rfl, o, mem, hl, hi, k1, k0⟩ := h
    have hr1 : Room 1 _ := hr.mono (by decide)
    obtain ⟨dx, fs, h1, fW, fR, fA, fM, fl⟩ := o.ob
    have fO := fM "is_over" (by decide +kernel) (by decide +kernel) (by decide +kernel)
    refine ⟨_, pss_cons (ps_if (PW.pt (pw_or (pt_val (pe_meth0 (pv 0) TW.cw TW.mOv OV hr1 bOv .nil pass0)) (pw_or1 (pt_not (pt_val (pe_call GN hr1 rfl Y.gName kN bN .nil pass0 (pa_cons (pe_ix ix_list (pe_fld (pv 0) rfl) (pe_fld (pv 0) rfl) (fun _ _ => rfl)) pa_nil)))))))
        (pss_one (ps_raise rfl (takes_of rfl rfl rfl rfl) (pmk_oex Z.c2.oex Z.c2.iC Z.c2.tI Z.F2 hr Z.b2 .nil pass0 rfl Z.c2.g (pa_cons (pe_fld (pv 0) rfl) (pa_cons (pe_fld (pv 0) rfl) pa_nil))))) pss_nil)
      (pss_cons (ps_fld (pv 0) (pe_op op_add (pe_fld (pv 0) rfl) pe_int) rfl)
      (pss_one (ps_ret (pe_ix ix_list (pe_fld (pv 0) rfl) (pe_op op_sub (pe_fld (pv 0) rfl) pe_int) (fun _ _ => rfl))))), ?_⟩
    refine ⟨_, rfl, p, dx, _, rfl, h1, fO, p, L, ws, i, rfl, o, _, rfl, ?_⟩
    by_cases e : i = ws.length
    · rw [decide_eq_true e]
      have no : ∀ x, ws[i]? = some x → nameB x = false := fun x hx => by rw [e] at hx; simp at hx
      exact iteT ⟨_, rfl, p, Cw, dx, _, _, rfl, h1, TW.cw, TW.nR, fR, _, rfl, p, Cw, dx, _, _, rfl, h1, TW.cw, TW.nA, fA, er_made2 (k0 no)⟩
    · rw [decide_eq_false e]
      obtain ⟨x, hx⟩ : ∃ x, ws[i]? = some x := ⟨_, List.getElem?_eq_getElem (by omega)⟩
      have hxV : (ws.map V.str)[i]? = some (V.str x) := by rw [List.getElem?_map, hx]; rfl
      have mx := mem x (List.mem_of_getElem? hx)
      refine iteF ⟨_, rfl, p, Cw, dx, _, _, rfl, h1, TW.cw, TW.nW, fW, _, rfl, p, Cw, dx, _, _, rfl, h1, TW.cw, TW.nA, fA, L, _, _, _, rfl, rfl, SqL.of o.li, atI_nat hxV, .str x, _, rfl, W_av mx H, _, rfl, ?_⟩
      cases q : nameB x with
      | false =>
        have q' : nmB (.str x) = false := q
        rw [q']
        exact iteT ⟨_, rfl, p, Cw, dx, _, _, rfl, h1, TW.cw, TW.nR, fR, _, rfl, p, Cw, dx, _, _, rfl, h1, TW.cw, TW.nA, fA, er_made2 (k0 fun y hy => by rw [hx] at hy; cases hy; exact q)⟩
      | true =>
        have q' : nmB (.str x) = true := q
        rw [q']
        have o' := o.on h1
        obtain ⟨dx', fs', g1, gW, gR, gA, gM, gl⟩ := o'.ob
        refine iteF ⟨_, rfl, p, Cw, dx, _, _, rfl, h1, TW.cw, TW.nA, fA, _, _, rfl, rfl, _, rfl, p, Cw, dx, _, rfl, h1, TW.cw, TW.nA, (by omega), ?_⟩
        refine ⟨_, rfl, p, Cw, dx', _, _, rfl, g1, TW.cw, TW.nW, gW, _, rfl, p, Cw, dx', _, _, rfl, g1, TW.cw, TW.nA, gA, _, _, rfl, rfl, L, _, _, _, rfl, rfl, SqL.of o'.li, ?_, k1 x hx q _ (fun b ob eb nb => by rw [upd_ne nb]; exact eb) o'⟩
        have ei : ((i + 1 : Nat) : Int) - 1 = (i : Int) := by omega
        rw [ei]
        exact atI_nat hxV
def spEnd (Cw cBT : Addr) : Sp := fun vs H Q E => ∃ (p L : Addr) (ws : List Str) (i : Nat), vs = [.ref p] ∧ WdAt Cw H p L ws i ∧ (i = ws.length → Q .non H) ∧ (¬ i = ws.length → ∀ dd H', Same H H' → H' dd = some (.xd (badX i)) → E (.ref cBT) (some dd) H')
theorem scEnd : FnScope ["self"] ["self"] (defScope sTakeE) := ⟨rfl, rfl, rfl, by decide +kernel, rfl, by decide +kernel, by decide +kernel⟩
theorem ok_end {f : Addr} {fd : FuncData} (F : Fun K "take_end" "Words.take_end" sTakeE f fd) (TW : TxtW K mg Cw fWr fOv fAh fOne fTk fNm fEn) (OV : FnOk P w K mg base CX0 1 fOv dOv ["self"] (spOver Cw)) (bOv : Binds K dOv ["self"] []) (Z : ErM2 P w K mg base "BadText" "line" "word" cBT fBT dBT) : FnOk P w K mg base (L2.CX P w) 3 f fd ["self"] (spEnd Cw cBT) := by
  refine F.okX scEnd (fun vs H Q E h => ?_) (fun cdv A outer s H vs Q E hr h => ?_)
  · obtain ⟨p, L, ws, i, rfl, _⟩ := h
    rfl
  · obtain ⟨p, L, ws, i, rfl, o, k1, k0⟩ := h
    have hr1 : Room 1 _ := hr.mono (by decide)
    obtain ⟨dx, fs, h1, fW, fR, fA, fM, fl⟩ := o.ob
    have fO := fM "is_over" (by decide +kernel) (by decide +kernel) (by decide +kernel)
    refine ⟨_, pss_one (ps_if (pt_not (pt_val (pe_meth0 (pv 0) TW.cw TW.mOv OV hr1 bOv .nil pass0))) (pss_one (ps_raise rfl (takes_of rfl rfl rfl rfl) (pmk_oex Z.c2.oex Z.c2.iC Z.c2.tI Z.F2 hr Z.b2 .nil pass0 rfl Z.c2.g (pa_cons (pe_fld (pv 0) rfl) (pa_cons (pe_fld (pv 0) rfl) pa_nil))))) pss_nil), ?_⟩
    refine ⟨_, rfl, p, dx, _, rfl, h1, fO, p, L, ws, i, rfl, o, _, rfl, ?_⟩
    by_cases e : i = ws.length
    · rw [decide_eq_true e]
      exact iteF (k1 e)
    · rw [decide_eq_false e]
      exact iteT ⟨_, rfl, p, Cw, dx, _, _, rfl, h1, TW.cw, TW.nR, fR, _, rfl, p, Cw, dx, _, _, rfl, h1, TW.cw, TW.nA, fA, er_made2 (k0 e)⟩
def spWdsI (Cw : Addr) : Sp := fun vs H Q _ => ∃ (p dx : Addr) (ws : List Str), vs = [.ref p, .str (Txt.join " " ws), .int 0] ∧ H p = some (.ins Cw dx []) ∧ LineOk ws ∧ ∀ L H', Keeps p H H' → WdAt Cw H' p L ws 0 → Q .non H'
theorem scWdsI : FnScope ["self", "text", "row"] ["self", "text", "row"] (defScope sWdsI) := ⟨rfl, rfl, rfl, by decide +kernel, rfl, by decide +kernel, by decide +kernel⟩
theorem ok_wdsI {f : Addr} {fd : FuncData} (F : Fun K "__init__" "Words.__init__" sWdsI f fd) (TW : TxtW K mg Cw fWr fOv fAh fOne fTk fNm fEn) : FnOk P w K mg base CX0 1 f fd ["self", "text", "row"] (spWdsI Cw) := by
  refine F.ok scWdsI (fun vs H Q E h => ?_) (fun cdv A outer s H vs Q E hr h => ?_)
  · obtain ⟨p, dx, ws, rfl, _⟩ := h
    rfl
  · obtain ⟨p, dx, ws, rfl, hp, lo, k⟩ := h
    refine ⟨_, pss_cons (ps_fld (pv 0) (pe_split (pv 1) pe_str) rfl) (pss_cons (ps_fld (pv 0) (pv 2) rfl) (pss_one (ps_fld (pv 0) pe_int rfl))), ?_⟩
    have ll := line_len lo.mem
    have hf := lo.few
    refine ⟨_, rfl, ⟨_, rfl⟩, _, " ", rfl, rfl, by decide +kernel, (by rw [sizeLine_eq]; omega), fun L nL => ?_⟩
    rw [split_W lo.ne lo.mem]
    have s1 := same_new (o := .lst (ws.map V.str)) nL
    have pL : p ≠ L := ne_of_none hp nL
    refine ⟨_, rfl, p, Cw, dx, _, rfl, s1 _ _ hp, TW.cw, TW.nW, (by show 0 < 1000; decide), ?_⟩
    refine ⟨_, rfl, _, rfl, p, Cw, dx, _, rfl, upd_same, TW.cw, TW.nR, (by show 1 < 1000; decide), ?_⟩
    refine ⟨_, rfl, p, Cw, dx, _, rfl, upd_same, TW.cw, TW.nA, (by show 2 < 1000; decide), ?_⟩
    refine k L _ (fun b o e nb => ?_) ⟨⟨dx, _, upd_same, by rw [lookup_putF, if_neg (by decide +kernel), lookup_putF, if_neg (by decide +kernel), lookup_putF, if_pos rfl], by rw [lookup_putF, if_neg (by decide +kernel), lookup_putF, if_pos rfl], by rw [lookup_putF, if_pos rfl]; rfl, (fun m m1 m2 m3 => by rw [lookup_putF, if_neg m3, lookup_putF, if_neg m2, lookup_putF, if_neg m1]; rfl), (by show 3 ≤ 3; decide)⟩, ?_⟩
    · rw [upd_ne nb, upd_ne nb, upd_ne nb]
      exact s1 _ _ e
    · rw [upd_ne (Ne.symm pL), upd_ne (Ne.symm pL), upd_ne (Ne.symm pL), upd_same]
/-- what is no text -/
def NoStr (K : PySem.W.Frag) (H : Hp) (v : V) : Prop := ∃ t, TyX K H v t ∧ PySem.W.kitOne K t (.type "str") = some false
def spWdsOf (K : PySem.W.Frag) (Cw cBT : Addr) : Sp := fun vs H Q E => ∃ v : V, vs = [v] ∧ ((∃ ws, v = .str (Txt.join " " ws) ∧ LineOk ws ∧ ∀ p L H', H p = none → Same H H' → WdAt Cw H' p L ws 0 → Q (.ref p) H') ∨
  (NoStr K H v ∧ ∀ dd H', Same H H' → H' dd = some (.xd (badX 0)) → E (.ref cBT) (some dd) H'))
theorem scWdsOf : FnScope ["text"] ["text"] (defScope sWdsOf) := ⟨rfl, rfl, rfl, by decide +kernel, rfl, by decide +kernel, by decide +kernel⟩
theorem ok_wdsOf {f : Addr} {fd : FuncData} (F : Fun K "words_of" "words_of" sWdsOf f fd) (T : Txt K mg C fWhole fBetw fDay fChk) (TW : TxtW K mg Cw fWr fOv fAh fOne fTk fNm fEn) (MW : Mk K Cw fWI) (WI : FnOk P w K mg base CX0 1 fWI dWI ["self", "text", "row"] (spWdsI Cw)) (bWI : Binds K dWI ["self", "text", "row"] [])
    (Z : ErM2 P w K mg base "BadText" "line" "word" cBT fBT dBT) : FnOk P w K mg base (L2.CX P w) 3 f fd ["text"] (spWdsOf K Cw cBT) := by
  refine F.okX scWdsOf (fun vs H Q E h => ?_) (fun cdv A outer s H vs Q E hr h => ?_)
  · obtain ⟨v, rfl, _⟩ := h
    rfl
  · obtain ⟨v, rfl, h⟩ := h
    refine ⟨_, pss_cons (ps_if (pt_not (pt_val (pe_callB call_isi (by rfl) T.zIsi (by decide +kernel) (pa_cons (pv 0) (pa_cons (pe_bltn (v := .ty "str") (by rfl) T.zStr (by decide +kernel) rfl) pa_nil)))))
      (pss_one (ps_raise rfl (takes_of rfl rfl rfl rfl) (pmk_oex Z.c2.oex Z.c2.iC Z.c2.tI Z.F2 hr Z.b2 .nil pass0 rfl Z.c2.g (pa_cons pe_int (pa_cons pe_int pa_nil))))) pss_nil)
      (pss_one (ps_ret (pe_make MW WI hr rfl TW.gWds bWI .nil pass0 (pa_cons (pv 0) (pa_cons pe_int pa_nil))))), ?_⟩
    rcases h with ⟨ws, rfl, lo, k⟩ | ⟨⟨t, ty, kt⟩, k⟩
    · refine ⟨_, rfl, .str (Txt.join " " ws), .ty "str", _, _, true, rfl, .ty "str", .base (.str _), kit_ty (by decide +kernel), true, rfl, iteF ⟨_, rfl, fun x dx nx nd ne => ?_⟩⟩
      have s1 : Same H (upd (upd H dx (.own x)) x (.ins Cw dx [])) := fun b o e => by
        rw [upd_ne (ne_of_none e nx), upd_ne (ne_of_none e nd)]
        exact e
      exact ⟨x, dx, ws, rfl, upd_same, lo, fun L H' kp o => ⟨rfl, k x L H' nx (fun b ob e => kp _ _ (s1 _ _ e) (ne_of_none e nx)) o⟩⟩
    · exact ⟨_, rfl, v, .ty "str", _, _, false, rfl, .ty "str", ty, kt, false, rfl, iteT (er_made2 k)⟩
end
end My
namespace My
open PySem PySem.Spec PyProof.Rows L2
abbrev sBkE : Stmt := inClass (top 19) 4
abbrev sAhE : Stmt := inClass (top 20) 4
abbrev sSoE : Stmt := inClass (top 21) 4
abbrev sWhE : Stmt := inClass (top 22) 4
abbrev sLaE : Stmt := inClass (top 23) 4
abbrev sSmE : Stmt := inClass (top 24) 4
abbrev sBkT : Stmt := inClass (top 19) 5
abbrev sAhT : Stmt := inClass (top 20) 5
abbrev sSoT : Stmt := inClass (top 21) 5
abbrev sWhT : Stmt := inClass (top 22) 5
abbrev sLaT : Stmt := inClass (top 23) 5
abbrev sSmT : Stmt := inClass (top 24) 5
def kEq : Kd → Kd → Bool
  | .bk, .bk => true
  | .ah, .ah => true
  | .so, .so => true
  | .wh, .wh => true
  | .la, .la => true
  | .sm, .sm => true
  | _, _ => false
theorem kEq_iff (k j : Kd) : kEq k j = true ↔ k = j := by cases k <;> cases j <;> simp [kEq]
/-- the classes, one to another -/
structure Mx (K : PySem.W.Frag) (G : Kd → Addr) (cT cN : Addr) : Prop where
  is : ∀ k, C8.InsC K (G k)
  kk : ∀ k j, PySem.W.kitOne K (.ref (G k)) (.ref (G j)) = some (kEq k j)
  kT : ∀ k, PySem.W.kitOne K (.ref (G k)) (.ref cT) = some true
  kN : ∀ k, PySem.W.kitOne K (.ref (G k)) (.ref cN) = some (isNum k)
  kB : ∀ k, PySem.W.kitOne K (.type "NoneType") (.ref (G k)) = some false ∧ PySem.W.kitOne K (.type "str") (.ref (G k)) = some false ∧ PySem.W.kitOne K (.type "tuple") (.ref (G k)) = some false ∧ PySem.W.kitOne K (.type "int") (.ref (G k)) = some false
  su : ∀ k j, kEq k j = false → PySem.W.subIn K (.ref (G k)) (.ref (G j)) = some false
  sB : ∀ k, PySem.W.subIn K (.type "NoneType") (.ref (G k)) = some false ∧ PySem.W.subIn K (.type "str") (.ref (G k)) = some false ∧ PySem.W.subIn K (.type "tuple") (.ref (G k)) = some false ∧ PySem.W.subIn K (.type "int") (.ref (G k)) = some false
theorem Mx.ty {K : PySem.W.Frag} {G : Kd → Addr} {cT cN : Addr} (m : Mx K G cT cN) {H : Hp} {q : Addr} {k : Kd} {n : Int} {x : Str} (c : TieX G H q k n x) : TyX K H (.ref q) (.ref (G k)) := let ⟨_, h⟩ := c.ob; let i := m.is k; .base (.ins h i.cl i.ha i.hn i.htk i.hm)
theorem tflV_src (k : Kd) (v n : V) : (tflV k v n).lookup ("source" : Str) = some v := by
  unfold tflV
  split
  · rw [lookup_putF, if_neg num_ne, lookup_putF, if_pos rfl]
  · rw [lookup_putF, if_pos rfl]
theorem tflV_num {k : Kd} (h : isNum k = true) (v n : V) : (tflV k v n).lookup ("number" : Str) = some n := by
  unfold tflV
  rw [if_pos h, lookup_putF, if_pos rfl]
def preOf : Kd → Str
  | .bk => "back "
  | .ah => "ahead "
  | .so => "sofar "
  | .wh => "whole "
  | .la => "last "
  | .sm => "same "
def lineT (k : Kd) (n : Int) (x : Str) : Str := if isNum k = true then (((Str.empty ++ preOf k) ++ (toString n : String)) ++ (" " : Str)) ++ x else (Str.empty ++ preOf k) ++ x
theorem pre_word (k : Kd) : preOf k = wordOf k ++ (" " : Str) := by cases k <;> decide +kernel
theorem line3 {k : Kd} (h : isNum k = true) (n : Int) (x : Str) : Txt.join " " [wordOf k, (toString n : String), x] = lineT k n x := by
  rw [show ∀ (y : Str) (ps : List Str), Txt.join y ps = Str.join y ps from fun y ps => StrLaws.glued_eq_join y ps]
  unfold lineT
  rw [if_pos h, pre_word, Str.empty_append]
  show wordOf k ++ (" " : Str) ++ ((toString n : String) ++ (" " : Str) ++ x) = _
  simp only [Str.append_assoc]
theorem line2 {k : Kd} (h : isNum k = false) (n : Int) (x : Str) : Txt.join " " [wordOf k, x] = lineT k n x := by
  rw [show ∀ (y : Str) (ps : List Str), Txt.join y ps = Str.join y ps from fun y ps => StrLaws.glued_eq_join y ps]
  unfold lineT
  rw [h, pre_word, Str.empty_append]
  rfl
theorem num_len {n : Int} (h0 : 0 ≤ n) (h : n ≤ 60) : (((toString n : String) : Str)).length ≤ 71 := by
  have e : (10 : Nat) ^ 70 = 10000000000000000000000000000000000000000000000000000000000000000000000 := by decide
  exact int_shown (i := n) (by rw [e]; omega)
theorem pre_len (k : Kd) : (preOf k).length ≤ 6 := by cases k <;> decide +kernel
theorem log60 {n : Int} (h0 : 0 ≤ n) (h : n ≤ 60) : n.natAbs.log2 < 1920 := by
  have e2 : (2 : Nat) ^ 64 = 18446744073709551616 := by decide
  exact Nat.lt_trans (PySem.Flt.log2_lt_of (k := 64) (by decide) (by rw [e2]; omega)) (by decide)
section
variable {P : Program} {w : World} {K : PySem.W.Frag} {mg : Str → Option Value} {base : Heap} {C fWhole fBetw fDay fChk fName : Addr} {G : Kd → Addr} {cT cN fTI fNI cBN fBN cBU fBU : Addr} {dBN dBU : FuncData}
def spStr (G : Kd → Addr) (k : Kd) : Sp := fun vs H Q _ => ∃ (p : Addr) (n : Int) (x : Str), vs = [.ref p] ∧ TieX G H p k n x ∧ NameOk x ∧ NumOk k n ∧ Q (.str (lineT k n x)) H
def spEq (K : PySem.W.Frag) (G : Kd → Addr) (k : Kd) : Sp := fun vs H Q _ => ∃ (p : Addr) (v : V) (n : Int) (x : Str), vs = [.ref p, v] ∧ TieX G H p k n x ∧
  ((∃ (q : Addr) (j : Kd) (m : Int) (y : Str), v = .ref q ∧ TieX G H q j m y ∧ (j = k → x = y → (isNum k = true → n = m) → Q (.bl true) H) ∧ (¬ (j = k ∧ x = y ∧ (isNum k = true → n = m)) → Q (.bl false) H)) ∨
    (∃ t : String, TyX K H v (.type t) ∧ PySem.W.kitOne K (.type t) (.ref (G k)) = some false ∧ Q (.bl false) H))
theorem scBkE : FnScope ["self", "other"] ["self", "other"] (defScope sBkE) := ⟨rfl, rfl, rfl, by decide +kernel, rfl, by decide +kernel, by decide +kernel⟩
theorem ok_BkE {f : Addr} {fd : FuncData} (F : Fun K "__eq__" "Back.__eq__" sBkE f fd) (T : Txt K mg C fWhole fBetw fDay fChk) (Y : Ty K mg G cT cN fTI fNI fName) (M : Mx K G cT cN) : FnOk P w K mg base CX0 1 f fd ["self", "other"] (spEq K G .bk) := by
  refine F.ok scBkE (fun vs H Q E h => ?_) (fun cdv A outer s H vs Q E hr h => ?_)
  · obtain ⟨p, v, n, x, rfl, _⟩ := h
    rfl
  · obtain ⟨p, v, n, x, rfl, ⟨dx, hp⟩, h⟩ := h
    refine ⟨_, pss_one (ps_ret (pe_and (pe_callB call_isi (by rfl) T.zIsi (by decide +kernel) (pa_cons (pv 1) (pa_cons (pe_glob (v := .ref (G .bk)) rfl Y.gBk rfl) pa_nil))) (pe_and (pe_cmpR op_eq (pe_fld (pv 0) rfl) (pe_fld (pv 1) rfl) (nomark _)) (pe_one (pe_cmpR op_eq (pe_fld (pv 0) rfl) (pe_fld (pv 1) rfl) (nomark _)))))), ?_⟩
    rcases h with ⟨q, j, m, y, rfl, cq, k1, k0⟩ | ⟨t, ty, kt, k⟩
    · refine ⟨_, rfl, .ref q, .ref (G .bk), _, _, _, rfl, .own _, M.ty cq, M.kk j .bk, _, rfl, ?_⟩
      by_cases e : j = .bk
      · subst e
        obtain ⟨dy, hq⟩ := cq
        refine iteT ⟨_, rfl, p, G .bk, dx, _, _, rfl, hp, Y.cl _, Y.nS _, tflV_src _ _ _, _, rfl, q, G .bk, dy, _, _, rfl, hq, Y.cl _, Y.nS _, tflV_src _ _ _, rfl, _, rfl, ?_⟩
        by_cases ex : x = y
        · rw [decide_eq_true (congrArg V.str ex)]
          refine iteT ⟨_, rfl, p, G .bk, dx, _, _, rfl, hp, Y.cl _, Y.nN _, tflV_num rfl _ _, _, rfl, q, G .bk, dy, _, _, rfl, hq, Y.cl _, Y.nN _, tflV_num rfl _ _, rfl, ?_⟩
          by_cases en : n = m
          · have e : numV .bk n = numV .bk m := by rw [en]
            rw [decide_eq_true e]
            exact k1 rfl ex fun _ => en
          · have e : ¬ numV .bk n = numV .bk m := fun z => en (V.int.inj z)
            rw [decide_eq_false e]
            exact k0 fun z => en (z.2.2 rfl)
        · rw [decide_eq_false (fun z => ex (V.str.inj z))]
          exact iteF (k0 fun z => ex z.2.1)
      · rw [show kEq j .bk = false from (Bool.eq_false_iff.mpr fun z => e ((kEq_iff j .bk).mp z))]
        exact iteF (k0 fun z => e z.1)
    · exact ⟨_, rfl, v, .ref (G .bk), _, _, false, rfl, .own _, ty, kt, _, rfl, iteF k⟩
theorem scBkT : FnScope ["self"] ["self"] (defScope sBkT) := ⟨rfl, rfl, rfl, by decide +kernel, rfl, by decide +kernel, by decide +kernel⟩
theorem ok_BkT {f : Addr} {fd : FuncData} (F : Fun K "__str__" "Back.__str__" sBkT f fd) (Y : Ty K mg G cT cN fTI fNI fName) : FnOk P w K mg base CX0 1 f fd ["self"] (spStr G .bk) := by
  refine F.ok scBkT (fun vs H Q E h => ?_) (fun cdv A outer s H vs Q E hr h => ?_)
  · obtain ⟨p, n, x, rfl, _⟩ := h
    rfl
  · obtain ⟨p, n, x, rfl, ⟨dx, hp⟩, nm, ok, k⟩ := h
    refine ⟨_, pss_one (ps_ret (pe_joined (.cons pe_str (.cons (pe_fmt (pe_fld (pv 0) rfl)) (.cons pe_str (.cons (pe_fmt (pe_fld (pv 0) rfl)) .nil)))))), ?_⟩
    have l1 := num_len ok.lo ok.hi
    have l2 := nm.len
    refine ⟨_, rfl, ?_, _, rfl, p, G .bk, dx, _, _, rfl, hp, Y.cl _, Y.nN _, tflV_num rfl _ _, .inr ⟨n, rfl, log60 ok.lo ok.hi, _, rfl, ?_, _, rfl, ?_, _, rfl, p, G .bk, dx, _, _, rfl, hp, Y.cl _, Y.nS _, tflV_src _ _ _, .inl ⟨x, rfl, small_line (by omega), _, rfl, ?_, k⟩⟩⟩
    all_goals
      refine small_line ?_
      simp only [Str.length_append]
      have lp : (Str.empty : Str).length = 0 := rfl
      have l3 : (Str.ofString "back ").length ≤ 6 := pre_len .bk
      have l4 : (Str.ofString " ").length = 1 := rfl
      omega
theorem scAhE : FnScope ["self", "other"] ["self", "other"] (defScope sAhE) := ⟨rfl, rfl, rfl, by decide +kernel, rfl, by decide +kernel, by decide +kernel⟩
theorem ok_AhE {f : Addr} {fd : FuncData} (F : Fun K "__eq__" "Ahead.__eq__" sAhE f fd) (T : Txt K mg C fWhole fBetw fDay fChk) (Y : Ty K mg G cT cN fTI fNI fName) (M : Mx K G cT cN) : FnOk P w K mg base CX0 1 f fd ["self", "other"] (spEq K G .ah) := by
  refine F.ok scAhE (fun vs H Q E h => ?_) (fun cdv A outer s H vs Q E hr h => ?_)
  · obtain ⟨p, v, n, x, rfl, _⟩ := h
    rfl
  · obtain ⟨p, v, n, x, rfl, ⟨dx, hp⟩, h⟩ := h
    refine ⟨_, pss_one (ps_ret (pe_and (pe_callB call_isi (by rfl) T.zIsi (by decide +kernel) (pa_cons (pv 1) (pa_cons (pe_glob (v := .ref (G .ah)) rfl Y.gAh rfl) pa_nil))) (pe_and (pe_cmpR op_eq (pe_fld (pv 0) rfl) (pe_fld (pv 1) rfl) (nomark _)) (pe_one (pe_cmpR op_eq (pe_fld (pv 0) rfl) (pe_fld (pv 1) rfl) (nomark _)))))), ?_⟩
    rcases h with ⟨q, j, m, y, rfl, cq, k1, k0⟩ | ⟨t, ty, kt, k⟩
    · refine ⟨_, rfl, .ref q, .ref (G .ah), _, _, _, rfl, .own _, M.ty cq, M.kk j .ah, _, rfl, ?_⟩
      by_cases e : j = .ah
      · subst e
        obtain ⟨dy, hq⟩ := cq
        refine iteT ⟨_, rfl, p, G .ah, dx, _, _, rfl, hp, Y.cl _, Y.nS _, tflV_src _ _ _, _, rfl, q, G .ah, dy, _, _, rfl, hq, Y.cl _, Y.nS _, tflV_src _ _ _, rfl, _, rfl, ?_⟩
        by_cases ex : x = y
        · rw [decide_eq_true (congrArg V.str ex)]
          refine iteT ⟨_, rfl, p, G .ah, dx, _, _, rfl, hp, Y.cl _, Y.nN _, tflV_num rfl _ _, _, rfl, q, G .ah, dy, _, _, rfl, hq, Y.cl _, Y.nN _, tflV_num rfl _ _, rfl, ?_⟩
          by_cases en : n = m
          · have e : numV .ah n = numV .ah m := by rw [en]
            rw [decide_eq_true e]
            exact k1 rfl ex fun _ => en
          · have e : ¬ numV .ah n = numV .ah m := fun z => en (V.int.inj z)
            rw [decide_eq_false e]
            exact k0 fun z => en (z.2.2 rfl)
        · rw [decide_eq_false (fun z => ex (V.str.inj z))]
          exact iteF (k0 fun z => ex z.2.1)
      · rw [show kEq j .ah = false from (Bool.eq_false_iff.mpr fun z => e ((kEq_iff j .ah).mp z))]
        exact iteF (k0 fun z => e z.1)
    · exact ⟨_, rfl, v, .ref (G .ah), _, _, false, rfl, .own _, ty, kt, _, rfl, iteF k⟩
theorem scAhT : FnScope ["self"] ["self"] (defScope sAhT) := ⟨rfl, rfl, rfl, by decide +kernel, rfl, by decide +kernel, by decide +kernel⟩
theorem ok_AhT {f : Addr} {fd : FuncData} (F : Fun K "__str__" "Ahead.__str__" sAhT f fd) (Y : Ty K mg G cT cN fTI fNI fName) : FnOk P w K mg base CX0 1 f fd ["self"] (spStr G .ah) := by
  refine F.ok scAhT (fun vs H Q E h => ?_) (fun cdv A outer s H vs Q E hr h => ?_)
  · obtain ⟨p, n, x, rfl, _⟩ := h
    rfl
  · obtain ⟨p, n, x, rfl, ⟨dx, hp⟩, nm, ok, k⟩ := h
    refine ⟨_, pss_one (ps_ret (pe_joined (.cons pe_str (.cons (pe_fmt (pe_fld (pv 0) rfl)) (.cons pe_str (.cons (pe_fmt (pe_fld (pv 0) rfl)) .nil)))))), ?_⟩
    have l1 := num_len ok.lo ok.hi
    have l2 := nm.len
    refine ⟨_, rfl, ?_, _, rfl, p, G .ah, dx, _, _, rfl, hp, Y.cl _, Y.nN _, tflV_num rfl _ _, .inr ⟨n, rfl, log60 ok.lo ok.hi, _, rfl, ?_, _, rfl, ?_, _, rfl, p, G .ah, dx, _, _, rfl, hp, Y.cl _, Y.nS _, tflV_src _ _ _, .inl ⟨x, rfl, small_line (by omega), _, rfl, ?_, k⟩⟩⟩
    all_goals
      refine small_line ?_
      simp only [Str.length_append]
      have lp : (Str.empty : Str).length = 0 := rfl
      have l3 : (Str.ofString "ahead ").length ≤ 6 := pre_len .ah
      have l4 : (Str.ofString " ").length = 1 := rfl
      omega
theorem scSoE : FnScope ["self", "other"] ["self", "other"] (defScope sSoE) := ⟨rfl, rfl, rfl, by decide +kernel, rfl, by decide +kernel, by decide +kernel⟩
theorem ok_SoE {f : Addr} {fd : FuncData} (F : Fun K "__eq__" "Sofar.__eq__" sSoE f fd) (T : Txt K mg C fWhole fBetw fDay fChk) (Y : Ty K mg G cT cN fTI fNI fName) (M : Mx K G cT cN) : FnOk P w K mg base CX0 1 f fd ["self", "other"] (spEq K G .so) := by
  refine F.ok scSoE (fun vs H Q E h => ?_) (fun cdv A outer s H vs Q E hr h => ?_)
  · obtain ⟨p, v, n, x, rfl, _⟩ := h
    rfl
  · obtain ⟨p, v, n, x, rfl, ⟨dx, hp⟩, h⟩ := h
    refine ⟨_, pss_one (ps_ret (pe_and (pe_callB call_isi (by rfl) T.zIsi (by decide +kernel) (pa_cons (pv 1) (pa_cons (pe_glob (v := .ref (G .so)) rfl Y.gSo rfl) pa_nil))) (pe_one (pe_cmpR op_eq (pe_fld (pv 0) rfl) (pe_fld (pv 1) rfl) (nomark _))))), ?_⟩
    rcases h with ⟨q, j, m, y, rfl, cq, k1, k0⟩ | ⟨t, ty, kt, k⟩
    · refine ⟨_, rfl, .ref q, .ref (G .so), _, _, _, rfl, .own _, M.ty cq, M.kk j .so, _, rfl, ?_⟩
      by_cases e : j = .so
      · subst e
        obtain ⟨dy, hq⟩ := cq
        refine iteT ⟨_, rfl, p, G .so, dx, _, _, rfl, hp, Y.cl _, Y.nS _, tflV_src _ _ _, _, rfl, q, G .so, dy, _, _, rfl, hq, Y.cl _, Y.nS _, tflV_src _ _ _, rfl, ?_⟩
        by_cases ex : x = y
        · rw [decide_eq_true (congrArg V.str ex)]
          exact k1 rfl ex fun z => nomatch z
        · rw [decide_eq_false (fun z => ex (V.str.inj z))]
          exact k0 fun z => ex z.2.1
      · rw [show kEq j .so = false from (Bool.eq_false_iff.mpr fun z => e ((kEq_iff j .so).mp z))]
        exact iteF (k0 fun z => e z.1)
    · exact ⟨_, rfl, v, .ref (G .so), _, _, false, rfl, .own _, ty, kt, _, rfl, iteF k⟩
theorem scSoT : FnScope ["self"] ["self"] (defScope sSoT) := ⟨rfl, rfl, rfl, by decide +kernel, rfl, by decide +kernel, by decide +kernel⟩
theorem ok_SoT {f : Addr} {fd : FuncData} (F : Fun K "__str__" "Sofar.__str__" sSoT f fd) (Y : Ty K mg G cT cN fTI fNI fName) : FnOk P w K mg base CX0 1 f fd ["self"] (spStr G .so) := by
  refine F.ok scSoT (fun vs H Q E h => ?_) (fun cdv A outer s H vs Q E hr h => ?_)
  · obtain ⟨p, n, x, rfl, _⟩ := h
    rfl
  · obtain ⟨p, n, x, rfl, ⟨dx, hp⟩, nm, ok, k⟩ := h
    refine ⟨_, pss_one (ps_ret (pe_joined (.cons pe_str (.cons (pe_fmt (pe_fld (pv 0) rfl)) .nil)))), ?_⟩
    have l2 := nm.len
    refine ⟨_, rfl, ?_, _, rfl, p, G .so, dx, _, _, rfl, hp, Y.cl _, Y.nS _, tflV_src _ _ _, .inl ⟨x, rfl, small_line (by omega), _, rfl, ?_, k⟩⟩
    all_goals
      refine small_line ?_
      simp only [Str.length_append]
      have lp : (Str.empty : Str).length = 0 := rfl
      have l3 : (Str.ofString "sofar ").length ≤ 6 := pre_len .so
      have l4 : (Str.ofString " ").length = 1 := rfl
      omega
theorem scWhE : FnScope ["self", "other"] ["self", "other"] (defScope sWhE) := ⟨rfl, rfl, rfl, by decide +kernel, rfl, by decide +kernel, by decide +kernel⟩
theorem ok_WhE {f : Addr} {fd : FuncData} (F : Fun K "__eq__" "Whole.__eq__" sWhE f fd) (T : Txt K mg C fWhole fBetw fDay fChk) (Y : Ty K mg G cT cN fTI fNI fName) (M : Mx K G cT cN) : FnOk P w K mg base CX0 1 f fd ["self", "other"] (spEq K G .wh) := by
  refine F.ok scWhE (fun vs H Q E h => ?_) (fun cdv A outer s H vs Q E hr h => ?_)
  · obtain ⟨p, v, n, x, rfl, _⟩ := h
    rfl
  · obtain ⟨p, v, n, x, rfl, ⟨dx, hp⟩, h⟩ := h
    refine ⟨_, pss_one (ps_ret (pe_and (pe_callB call_isi (by rfl) T.zIsi (by decide +kernel) (pa_cons (pv 1) (pa_cons (pe_glob (v := .ref (G .wh)) rfl Y.gWh rfl) pa_nil))) (pe_one (pe_cmpR op_eq (pe_fld (pv 0) rfl) (pe_fld (pv 1) rfl) (nomark _))))), ?_⟩
    rcases h with ⟨q, j, m, y, rfl, cq, k1, k0⟩ | ⟨t, ty, kt, k⟩
    · refine ⟨_, rfl, .ref q, .ref (G .wh), _, _, _, rfl, .own _, M.ty cq, M.kk j .wh, _, rfl, ?_⟩
      by_cases e : j = .wh
      · subst e
        obtain ⟨dy, hq⟩ := cq
        refine iteT ⟨_, rfl, p, G .wh, dx, _, _, rfl, hp, Y.cl _, Y.nS _, tflV_src _ _ _, _, rfl, q, G .wh, dy, _, _, rfl, hq, Y.cl _, Y.nS _, tflV_src _ _ _, rfl, ?_⟩
        by_cases ex : x = y
        · rw [decide_eq_true (congrArg V.str ex)]
          exact k1 rfl ex fun z => nomatch z
        · rw [decide_eq_false (fun z => ex (V.str.inj z))]
          exact k0 fun z => ex z.2.1
      · rw [show kEq j .wh = false from (Bool.eq_false_iff.mpr fun z => e ((kEq_iff j .wh).mp z))]
        exact iteF (k0 fun z => e z.1)
    · exact ⟨_, rfl, v, .ref (G .wh), _, _, false, rfl, .own _, ty, kt, _, rfl, iteF k⟩
theorem scWhT : FnScope ["self"] ["self"] (defScope sWhT) := ⟨rfl, rfl, rfl, by decide +kernel, rfl, by decide +kernel, by decide +kernel⟩
theorem ok_WhT {f : Addr} {fd : FuncData} (F : Fun K "__str__" "Whole.__str__" sWhT f fd) (Y : Ty K mg G cT cN fTI fNI fName) : FnOk P w K mg base CX0 1 f fd ["self"] (spStr G .wh) := by
  refine F.ok scWhT (fun vs H Q E h => ?_) (fun cdv A outer s H vs Q E hr h => ?_)
  · obtain ⟨p, n, x, rfl, _⟩ := h
    rfl
  · obtain ⟨p, n, x, rfl, ⟨dx, hp⟩, nm, ok, k⟩ := h
    refine ⟨_, pss_one (ps_ret (pe_joined (.cons pe_str (.cons (pe_fmt (pe_fld (pv 0) rfl)) .nil)))), ?_⟩
    have l2 := nm.len
    refine ⟨_, rfl, ?_, _, rfl, p, G .wh, dx, _, _, rfl, hp, Y.cl _, Y.nS _, tflV_src _ _ _, .inl ⟨x, rfl, small_line (by omega), _, rfl, ?_, k⟩⟩
    all_goals
      refine small_line ?_
      simp only [Str.length_append]
      have lp : (Str.empty : Str).length = 0 := rfl
      have l3 : (Str.ofString "whole ").length ≤ 6 := pre_len .wh
      have l4 : (Str.ofString " ").length = 1 := rfl
      omega
theorem scLaE : FnScope ["self", "other"] ["self", "other"] (defScope sLaE) := ⟨rfl, rfl, rfl, by decide +kernel, rfl, by decide +kernel, by decide +kernel⟩
theorem ok_LaE {f : Addr} {fd : FuncData} (F : Fun K "__eq__" "Last.__eq__" sLaE f fd) (T : Txt K mg C fWhole fBetw fDay fChk) (Y : Ty K mg G cT cN fTI fNI fName) (M : Mx K G cT cN) : FnOk P w K mg base CX0 1 f fd ["self", "other"] (spEq K G .la) := by
  refine F.ok scLaE (fun vs H Q E h => ?_) (fun cdv A outer s H vs Q E hr h => ?_)
  · obtain ⟨p, v, n, x, rfl, _⟩ := h
    rfl
  · obtain ⟨p, v, n, x, rfl, ⟨dx, hp⟩, h⟩ := h
    refine ⟨_, pss_one (ps_ret (pe_and (pe_callB call_isi (by rfl) T.zIsi (by decide +kernel) (pa_cons (pv 1) (pa_cons (pe_glob (v := .ref (G .la)) rfl Y.gLa rfl) pa_nil))) (pe_one (pe_cmpR op_eq (pe_fld (pv 0) rfl) (pe_fld (pv 1) rfl) (nomark _))))), ?_⟩
    rcases h with ⟨q, j, m, y, rfl, cq, k1, k0⟩ | ⟨t, ty, kt, k⟩
    · refine ⟨_, rfl, .ref q, .ref (G .la), _, _, _, rfl, .own _, M.ty cq, M.kk j .la, _, rfl, ?_⟩
      by_cases e : j = .la
      · subst e
        obtain ⟨dy, hq⟩ := cq
        refine iteT ⟨_, rfl, p, G .la, dx, _, _, rfl, hp, Y.cl _, Y.nS _, tflV_src _ _ _, _, rfl, q, G .la, dy, _, _, rfl, hq, Y.cl _, Y.nS _, tflV_src _ _ _, rfl, ?_⟩
        by_cases ex : x = y
        · rw [decide_eq_true (congrArg V.str ex)]
          exact k1 rfl ex fun z => nomatch z
        · rw [decide_eq_false (fun z => ex (V.str.inj z))]
          exact k0 fun z => ex z.2.1
      · rw [show kEq j .la = false from (Bool.eq_false_iff.mpr fun z => e ((kEq_iff j .la).mp z))]
        exact iteF (k0 fun z => e z.1)
    · exact ⟨_, rfl, v, .ref (G .la), _, _, false, rfl, .own _, ty, kt, _, rfl, iteF k⟩
theorem scLaT : FnScope ["self"] ["self"] (defScope sLaT) := ⟨rfl, rfl, rfl, by decide +kernel, rfl, by decide +kernel, by decide +kernel⟩
theorem ok_LaT {f : Addr} {fd : FuncData} (F : Fun K "__str__" "Last.__str__" sLaT f fd) (Y : Ty K mg G cT cN fTI fNI fName) : FnOk P w K mg base CX0 1 f fd ["self"] (spStr G .la) := by
  refine F.ok scLaT (fun vs H Q E h => ?_) (fun cdv A outer s H vs Q E hr h => ?_)
  · obtain ⟨p, n, x, rfl, _⟩ := h
    rfl
  · obtain ⟨p, n, x, rfl, ⟨dx, hp⟩, nm, ok, k⟩ := h
    refine ⟨_, pss_one (ps_ret (pe_joined (.cons pe_str (.cons (pe_fmt (pe_fld (pv 0) rfl)) .nil)))), ?_⟩
    have l2 := nm.len
    refine ⟨_, rfl, ?_, _, rfl, p, G .la, dx, _, _, rfl, hp, Y.cl _, Y.nS _, tflV_src _ _ _, .inl ⟨x, rfl, small_line (by omega), _, rfl, ?_, k⟩⟩
    all_goals
      refine small_line ?_
      simp only [Str.length_append]
      have lp : (Str.empty : Str).length = 0 := rfl
      have l3 : (Str.ofString "last ").length ≤ 6 := pre_len .la
      have l4 : (Str.ofString " ").length = 1 := rfl
      omega
theorem scSmE : FnScope ["self", "other"] ["self", "other"] (defScope sSmE) := ⟨rfl, rfl, rfl, by decide +kernel, rfl, by decide +kernel, by decide +kernel⟩
theorem ok_SmE {f : Addr} {fd : FuncData} (F : Fun K "__eq__" "Same.__eq__" sSmE f fd) (T : Txt K mg C fWhole fBetw fDay fChk) (Y : Ty K mg G cT cN fTI fNI fName) (M : Mx K G cT cN) : FnOk P w K mg base CX0 1 f fd ["self", "other"] (spEq K G .sm) := by
  refine F.ok scSmE (fun vs H Q E h => ?_) (fun cdv A outer s H vs Q E hr h => ?_)
  · obtain ⟨p, v, n, x, rfl, _⟩ := h
    rfl
  · obtain ⟨p, v, n, x, rfl, ⟨dx, hp⟩, h⟩ := h
    refine ⟨_, pss_one (ps_ret (pe_and (pe_callB call_isi (by rfl) T.zIsi (by decide +kernel) (pa_cons (pv 1) (pa_cons (pe_glob (v := .ref (G .sm)) rfl Y.gSm rfl) pa_nil))) (pe_one (pe_cmpR op_eq (pe_fld (pv 0) rfl) (pe_fld (pv 1) rfl) (nomark _))))), ?_⟩
    rcases h with ⟨q, j, m, y, rfl, cq, k1, k0⟩ | ⟨t, ty, kt, k⟩
    · refine ⟨_, rfl, .ref q, .ref (G .sm), _, _, _, rfl, .own _, M.ty cq, M.kk j .sm, _, rfl, ?_⟩
      by_cases e : j = .sm
      · subst e
        obtain ⟨dy, hq⟩ := cq
        refine iteT ⟨_, rfl, p, G .sm, dx, _, _, rfl, hp, Y.cl _, Y.nS _, tflV_src _ _ _, _, rfl, q, G .sm, dy, _, _, rfl, hq, Y.cl _, Y.nS _, tflV_src _ _ _, rfl, ?_⟩
        by_cases ex : x = y
        · rw [decide_eq_true (congrArg V.str ex)]
          exact k1 rfl ex fun z => nomatch z
        · rw [decide_eq_false (fun z => ex (V.str.inj z))]
          exact k0 fun z => ex z.2.1
      · rw [show kEq j .sm = false from (Bool.eq_false_iff.mpr fun z => e ((kEq_iff j .sm).mp z))]
        exact iteF (k0 fun z => e z.1)
    · exact ⟨_, rfl, v, .ref (G .sm), _, _, false, rfl, .own _, ty, kt, _, rfl, iteF k⟩
theorem scSmT : FnScope ["self"] ["self"] (defScope sSmT) := ⟨rfl, rfl, rfl, by decide +kernel, rfl, by decide +kernel, by decide +kernel⟩
theorem ok_SmT {f : Addr} {fd : FuncData} (F : Fun K "__str__" "Same.__str__" sSmT f fd) (Y : Ty K mg G cT cN fTI fNI fName) : FnOk P w K mg base CX0 1 f fd ["self"] (spStr G .sm) := by
  refine F.ok scSmT (fun vs H Q E h => ?_) (fun cdv A outer s H vs Q E hr h => ?_)
  · obtain ⟨p, n, x, rfl, _⟩ := h
    rfl
  · obtain ⟨p, n, x, rfl, ⟨dx, hp⟩, nm, ok, k⟩ := h
    refine ⟨_, pss_one (ps_ret (pe_joined (.cons pe_str (.cons (pe_fmt (pe_fld (pv 0) rfl)) .nil)))), ?_⟩
    have l2 := nm.len
    refine ⟨_, rfl, ?_, _, rfl, p, G .sm, dx, _, _, rfl, hp, Y.cl _, Y.nS _, tflV_src _ _ _, .inl ⟨x, rfl, small_line (by omega), _, rfl, ?_, k⟩⟩
    all_goals
      refine small_line ?_
      simp only [Str.length_append]
      have lp : (Str.empty : Str).length = 0 := rfl
      have l3 : (Str.ofString "same ").length ≤ 6 := pre_len .sm
      have l4 : (Str.ofString " ").length = 1 := rfl
      omega
end
end My
namespace My
open PySem PySem.Spec PyProof.Rows L2
inductive HeadT where
  | bad (k : Nat)
  | tie (k : Kd) (n : Int) (x : Str) (a : Nat)
def kindW (w : Str) : Option Kd := if w = "back" then some .bk else if w = "ahead" then some .ah else if w = "sofar" then some .so else if w = "whole" then some .wh else if w = "last" then some .la else if w = "same" then some .sm else none
def kinds : List Str := ["back", "ahead", "sofar", "whole", "last", "same"]
theorem kind_some {w : Str} {k : Kd} (h : kindW w = some k) : w = wordOf k := by
  unfold kindW at h
  repeat' split at h
  all_goals first | (cases h; assumption) | cases h
theorem kind_in {w : Str} {k : Kd} (h : kindW w = some k) : w ∈ kinds := by
  rw [kind_some h]
  cases k <;> simp [kinds, wordOf]
theorem kind_word (k : Kd) : kindW (wordOf k) = some k := by
  unfold kindW
  cases k
  · exact if_pos rfl
  · rw [if_neg (by decide +kernel)]; exact if_pos rfl
  · rw [if_neg (by decide +kernel), if_neg (by decide +kernel)]; exact if_pos rfl
  · rw [if_neg (by decide +kernel), if_neg (by decide +kernel), if_neg (by decide +kernel)]; exact if_pos rfl
  · rw [if_neg (by decide +kernel), if_neg (by decide +kernel), if_neg (by decide +kernel), if_neg (by decide +kernel)]; exact if_pos rfl
  · rw [if_neg (by decide +kernel), if_neg (by decide +kernel), if_neg (by decide +kernel), if_neg (by decide +kernel), if_neg (by decide +kernel)]; exact if_pos rfl
theorem kind_none {w : Str} (h : kindW w = none) : w ∉ kinds := fun m => by
  simp only [kinds, List.mem_cons, List.not_mem_nil, or_false] at m
  rcases m with rfl | rfl | rfl | rfl | rfl | rfl
  · exact absurd (h.symm.trans (kind_word .bk)) (by simp)
  · exact absurd (h.symm.trans (kind_word .ah)) (by simp)
  · exact absurd (h.symm.trans (kind_word .so)) (by simp)
  · exact absurd (h.symm.trans (kind_word .wh)) (by simp)
  · exact absurd (h.symm.trans (kind_word .la)) (by simp)
  · exact absurd (h.symm.trans (kind_word .sm)) (by simp)
def nameT (ws : List Str) (k : Kd) (n : Int) (a : Nat) : HeadT := match ws[a]? with
  | none => .bad a
  | some x => if nameB x = true then .tie k n x (a + 1) else .bad a
def headT (ws : List Str) : HeadT := match ws[0]? with
  | none => .bad 0
  | some w => match kindW w with
    | none => .bad 0
    | some k => if isNum k = true then (match ws[1]? with
        | none => .bad 1
        | some v => if okL (loOf k) v = true then nameT ws k (valOf v) 2 else .bad 1) else nameT ws k 0 1
def outT (ws : List Str) : HeadT := match headT ws with
  | .bad j => .bad j
  | .tie k n x a => if a = ws.length then .tie k n x a else .bad a
def ErrsT (cBT : Addr) (o : HeadT) (H : Hp) (E : XK) : Prop :=
  match o with
  | .bad k => ∀ dd H', Same H H' → H' dd = some (.xd (badX k)) → E (.ref cBT) (some dd) H'
  | .tie .. => True
section
variable {P : Program} {w : World} {K : PySem.W.Frag} {mg : Str → Option Value} {base : Heap} {C Cw fWhole fBetw fDay fChk fName fWr fOv fAh fOne fTk fNm fEn fWI fTT fWO cBT fBT cT cN fTI fNI cBN cBU kA : Addr} {G : Kd → Addr} {dBT dWr dOv dAh dOne dTk dNm dEn dWI dName dTT dWO : FuncData} {fI : Kd → Addr} {dI : Kd → FuncData}
/-- what take_tie needs of the methods of Words -/
structure WdM (P : Program) (w : World) (K : PySem.W.Frag) (mg : Str → Option Value) (base : Heap) (Cw cBT fOne fTk fNm fEn : Addr) (dOne dTk dNm dEn : FuncData) : Prop where
  one : FnOk P w K mg base (L2.CX P w) 3 fOne dOne ["self", "choices"] (spOne K Cw cBT)
  bOne : Binds K dOne ["self", "choices"] []
  tk : FnOk P w K mg base (L2.CX P w) 3 fTk dTk ["self", "low", "high"] (spTake Cw cBT)
  bTk : Binds K dTk ["self", "low", "high"] []
  nm : FnOk P w K mg base (L2.CX P w) 3 fNm dNm ["self"] (spNm Cw cBT)
  bNm : Binds K dNm ["self"] []
  en : FnOk P w K mg base (L2.CX P w) 3 fEn dEn ["self"] (spEnd Cw cBT)
  bEn : Binds K dEn ["self"] []
structure KA (K : PySem.W.Frag) (mg : Str → Option Value) (kA : Addr) : Prop where
  g : mg "KINDS" = some (.ref kA)
  sq : ∀ H, SqT K H kA (kinds.map V.str)
def spTT (G : Kd → Addr) (Cw cBT : Addr) : Sp := fun vs H Q E => ∃ (p L : Addr) (ws : List Str), vs = [.ref p] ∧ WdAt Cw H p L ws 0 ∧ LineOk ws ∧
  (∀ j, headT ws = .bad j → ∀ dd H', Keeps p H H' → H' dd = some (.xd (badX j)) → E (.ref cBT) (some dd) H') ∧
  (∀ k n x a, headT ws = .tie k n x a → NameOk x → NumOk k n → ∀ q H', Keeps p H H' → WdAt Cw H' p L ws a → TieX G H' q k n x → Q (.ref q) H')
theorem scTT : FnScope ["words", "kind", "number", "source"] ["words"] (defScope sTakeT) := ⟨rfl, rfl, rfl, by decide +kernel, rfl, by decide +kernel, by decide +kernel⟩
theorem head_kind {ws : List Str} {w : Str} {k : Kd} (h0 : ws[0]? = some w) (hk : kindW w = some k) : headT ws = if isNum k = true then (match ws[1]? with
        | none => .bad 1
        | some v => if okL (loOf k) v = true then nameT ws k (valOf v) 2 else .bad 1) else nameT ws k 0 1 := by
  unfold headT
  rw [h0]
  dsimp only
  rw [hk]
theorem head_none {ws : List Str} (h : ∀ x, ws[0]? = some x → x ∉ kinds) : headT ws = .bad 0 := by
  unfold headT
  cases e : ws[0]? with
  | none => rfl
  | some w =>
    dsimp only
    cases q : kindW w with
    | none => rfl
    | some k => exact absurd (kind_in q) (h w e)
theorem Keeps.same' {p : Addr} {H H1 H2 : Hp} (a : Keeps p H H1) (b : Same H1 H2) : Keeps p H H2 := a.trans (keeps_same b)
theorem ok_tt {f : Addr} {fd : FuncData} (F : Fun K "take_tie" "take_tie" sTakeT f fd) (T : Txt K mg C fWhole fBetw fDay fChk) (TW : TxtW K mg Cw fWr fOv fAh fOne fTk fNm fEn) (Y : Ty K mg G cT cN fTI fNI fName) (M : MkT P w K mg base G cBN cBU fI dI) (A' : KA K mg kA)
    (D : WdM P w K mg base Cw cBT fOne fTk fNm fEn dOne dTk dNm dEn) : FnOk P w K mg base (L2.CX P w) 6 f fd ["words"] (spTT G Cw cBT) := by
  obtain ⟨tMN, gMN⟩ := Y.gMN
  refine F.okX scTT (fun vs H Q E h => ?_) (fun cdv A outer s H vs Q E hr h => ?_)
  · obtain ⟨p, L, ws, rfl, _⟩ := h
    rfl
  · obtain ⟨p, L, ws, rfl, o, lo, kb, kt⟩ := h
    have hr3 : Room 3 _ := hr.mono (by decide)
    refine ⟨_, pss_cons (ps_set (i := 1) scTT.nd rfl (Or.inl rfl) (pe_meth (E := E) (pv 0) TW.cw TW.mOne D.one hr3 D.bOne .nil (passes_call (takes_of rfl rfl rfl rfl) fun _ _ _ _ h => h) (pa_cons (pe_glob (v := .ref kA) rfl A'.g rfl) pa_nil)))
      (pss_cons (ps_if (pt_cmpR op_eq (pv 1) pe_str (nomark _)) (pss_cons (ps_set (i := 2) scTT.nd rfl (Or.inl rfl) (pe_meth (E := E) (pv 0) TW.cw TW.mTk D.tk hr3 D.bTk .nil (passes_call (takes_of rfl rfl rfl rfl) fun _ _ _ _ h => h) (pa_cons pe_int (pa_cons (pe_glob (v := .int 60) rfl gMN ⟨_, rfl⟩) pa_nil))))
          (pss_one (ps_ret (pe_make (E := E) (M.m .bk) (M.fn .bk rfl) hr rfl Y.gBk (M.bn .bk rfl) .nil (passes_call (takes_of rfl rfl rfl rfl) fun _ _ _ _ h => h) (pa_cons (pe_meth0 (E := E) (pv 0) TW.cw TW.mNm D.nm hr3 D.bNm .nil (passes_call (takes_of rfl rfl rfl rfl) fun _ _ _ _ h => h)) (pa_cons (pv 2) pa_nil)))))) pss_nil)
      (pss_cons (ps_if (pt_cmpR op_eq (pv 1) pe_str (nomark _)) (pss_cons (ps_set (i := 2) scTT.nd rfl (Or.inl rfl) (pe_meth (E := E) (pv 0) TW.cw TW.mTk D.tk hr3 D.bTk .nil (passes_call (takes_of rfl rfl rfl rfl) fun _ _ _ _ h => h) (pa_cons pe_int (pa_cons (pe_glob (v := .int 60) rfl gMN ⟨_, rfl⟩) pa_nil))))
          (pss_one (ps_ret (pe_make (E := E) (M.m .ah) (M.fn .ah rfl) hr rfl Y.gAh (M.bn .ah rfl) .nil (passes_call (takes_of rfl rfl rfl rfl) fun _ _ _ _ h => h) (pa_cons (pe_meth0 (E := E) (pv 0) TW.cw TW.mNm D.nm hr3 D.bNm .nil (passes_call (takes_of rfl rfl rfl rfl) fun _ _ _ _ h => h)) (pa_cons (pv 2) pa_nil)))))) pss_nil)
      (pss_cons (ps_set (i := 3) scTT.nd rfl (Or.inl rfl) (pe_meth0 (E := E) (pv 0) TW.cw TW.mNm D.nm hr3 D.bNm .nil (passes_call (takes_of rfl rfl rfl rfl) fun _ _ _ _ h => h)))
      (pss_cons (ps_if (pt_cmpR op_eq (pv 1) pe_str (nomark _)) (pss_one (ps_ret (pe_make (E := E) (M.m .so) (M.fp .so rfl) hr rfl Y.gSo (M.bp .so rfl) .nil (passes_call (takes_of rfl rfl rfl rfl) fun _ _ _ _ h => h) (pa_cons (pv 3) pa_nil)))) pss_nil)
      (pss_cons (ps_if (pt_cmpR op_eq (pv 1) pe_str (nomark _)) (pss_one (ps_ret (pe_make (E := E) (M.m .wh) (M.fp .wh rfl) hr rfl Y.gWh (M.bp .wh rfl) .nil (passes_call (takes_of rfl rfl rfl rfl) fun _ _ _ _ h => h) (pa_cons (pv 3) pa_nil)))) pss_nil)
      (pss_cons (ps_if (pt_cmpR op_eq (pv 1) pe_str (nomark _)) (pss_one (ps_ret (pe_make (E := E) (M.m .la) (M.fp .la rfl) hr rfl Y.gLa (M.bp .la rfl) .nil (passes_call (takes_of rfl rfl rfl rfl) fun _ _ _ _ h => h) (pa_cons (pv 3) pa_nil)))) pss_nil)
      (pss_one (ps_ret (pe_make (E := E) (M.m .sm) (M.fp .sm rfl) hr rfl Y.gSm (M.bp .sm rfl) .nil (passes_call (takes_of rfl rfl rfl rfl) fun _ _ _ _ h => h) (pa_cons (pv 3) pa_nil)))))))))), ?_⟩
    have hf := lo.few
    have n0 : 0 < ws.length := by
      cases hw : ws with
      | nil => exact absurd hw lo.ne
      | cons a r => simp
    obtain ⟨dx, fs, h1, fW, fR, fA, fM, fl⟩ := o.ob
    refine ⟨_, rfl, p, dx, _, rfl, h1, fM "take_one_of" (by decide +kernel) (by decide +kernel) (by decide +kernel), p, L, kA, ws, kinds, 0, rfl, o, hf, Nat.zero_le _, A'.sq, fun x hx mx H1 kp1 o1 => ?_, fun no dd H1 s1 hd => kb 0 (head_none no) dd H1 (keeps_same s1) hd⟩
    obtain ⟨k, hk⟩ : ∃ k, kindW x = some k := by
      cases e : kindW x with
      | none => exact absurd mx (kind_none e)
      | some k => exact ⟨k, rfl⟩
    have hh := head_kind hx hk
    obtain rfl := kind_some hk
    -- the name, then the tie
    have nmE : ∀ (n : Int) (a : Nat), (headT ws = nameT ws k n a) → ∀ H2, Keeps p H H2 → (∀ x, ws[a]? = some x → nameB x = false) → ∀ dd H', Same H2 H' → H' dd = some (.xd (badX a)) → E (.ref cBT) (some dd) H' := fun n a e H2 kp no dd H' s hd => by
      refine kb a ?_ dd H' (kp.same' s) hd
      rw [e]
      unfold nameT
      cases q : ws[a]? with
      | none => rfl
      | some y =>
        dsimp only
        rw [if_neg (by rw [no y q]; decide)]
    have nmK : ∀ (n : Int) (a : Nat), (headT ws = nameT ws k n a) → NumOk k n → ∀ y, ws[a]? = some y → nameB y = true → ∀ H3, Keeps p H H3 → WdAt Cw H3 p L ws (a + 1) → Made G cBN cBU k (.str y) (numV k n) H3 Q E := fun n a e ok y hy nb H3 kp o3 => by
      have nm := W_nm (lo.mem y (List.mem_of_getElem? hy)) nb
      refine made_ok nm ok fun q H' s t => kt k n y (a + 1) ?_ nm ok q H' (kp.same' s) (o3.same s) t
      rw [e]
      unfold nameT
      rw [hy]
      dsimp only
      rw [if_pos nb]
    obtain ⟨d1, f1, g1, _, _, _, gM, _⟩ := o1.ob
    have mTk := gM "take_integer" (by decide +kernel) (by decide +kernel) (by decide +kernel)
    have mNm := gM "take_name" (by decide +kernel) (by decide +kernel) (by decide +kernel)
    have num_bad : isNum k = true → (∀ v, ws[1]? = some v → okL (loOf k) v = false) → headT ws = .bad 1 := fun i no => by
      rw [hh, if_pos i]
      cases q : ws[1]? with
      | none => rfl
      | some v => 
        dsimp only
        rw [if_neg (by rw [no v q]; decide)]
    have num_ok : isNum k = true → ∀ v, ws[1]? = some v → okL (loOf k) v = true → headT ws = nameT ws k (valOf v) 2 := fun i v hv h => by
      rw [hh, if_pos i, hv]
      dsimp only
      rw [if_pos h]
    have num_nok : ∀ v, okL (loOf k) v = true → isNum k = true → NumOk k (valOf v) := fun v h i => by
      obtain ⟨_, b1, b2⟩ := ok_val h
      cases k with
      | bk => exact ⟨b1, (fun q => nomatch q), b2, fun q => by cases q⟩
      | ah => exact ⟨Int.le_trans (by decide) b1, (fun _ => b1), b2, fun q => by cases q⟩
      | _ => cases i
    refine ⟨_, rfl, rfl, _, rfl, ?_⟩
    cases k with
    | bk =>
      refine ite_eq ?_
      refine ⟨_, rfl, p, d1, _, rfl, g1, mTk, p, L, ws, 1, _, rfl, o1, lo.mem, hf, n0, fun v hv okv H2 kp2 o2 => ?_, fun no dd H2 s2 hd => kb 1 (num_bad rfl no) dd H2 (kp1.same' s2) hd⟩
      obtain ⟨d2, f2, g2, _, _, _, gM2, _⟩ := o2.ob
      have e := num_ok rfl v hv okv
      have okn := num_nok v okv rfl
      refine ⟨_, rfl, p, d2, _, rfl, g2, gM2 "take_name" (by decide +kernel) (by decide +kernel) (by decide +kernel), p, L, ws, 2, rfl, o2, lo.mem, hf, (List.getElem?_eq_some_iff.mp hv).1, fun y hy nb H3 kp3 o3 => ⟨_, rfl, (nmK _ 2 e okn y hy nb H3 ((kp1.trans kp2).trans kp3) o3).num rfl⟩, nmE _ 2 e H2 (kp1.trans kp2)⟩
    | ah =>
      refine ite_ne (by decide +kernel) ⟨_, rfl, rfl, _, rfl, ite_eq ?_⟩
      refine ⟨_, rfl, p, d1, _, rfl, g1, mTk, p, L, ws, 1, _, rfl, o1, lo.mem, hf, n0, fun v hv okv H2 kp2 o2 => ?_, fun no dd H2 s2 hd => kb 1 (num_bad rfl no) dd H2 (kp1.same' s2) hd⟩
      obtain ⟨d2, f2, g2, _, _, _, gM2, _⟩ := o2.ob
      have e := num_ok rfl v hv okv
      have okn := num_nok v okv rfl
      refine ⟨_, rfl, p, d2, _, rfl, g2, gM2 "take_name" (by decide +kernel) (by decide +kernel) (by decide +kernel), p, L, ws, 2, rfl, o2, lo.mem, hf, (List.getElem?_eq_some_iff.mp hv).1, fun y hy nb H3 kp3 o3 => ⟨_, rfl, (nmK _ 2 e okn y hy nb H3 ((kp1.trans kp2).trans kp3) o3).num rfl⟩, nmE _ 2 e H2 (kp1.trans kp2)⟩
    | so =>
      refine ite_ne (by decide +kernel) ⟨_, rfl, rfl, _, rfl, ite_ne (by decide +kernel) ?_⟩
      have e : headT ws = nameT ws _ 0 1 := hh.trans (if_neg (by decide))
      refine ⟨_, rfl, p, d1, _, rfl, g1, mNm, p, L, ws, 1, rfl, o1, lo.mem, hf, n0, fun y hy nb H2 kp2 o2 => ?_, nmE 0 1 e H1 kp1⟩
      have md := (nmK 0 1 e ⟨by decide, (fun q => nomatch q), by decide, fun _ => rfl⟩ y hy nb H2 (kp1.trans kp2) o2).pl rfl
      exact ⟨_, rfl, rfl, _, rfl, ite_eq ⟨_, rfl, md⟩⟩
    | wh =>
      refine ite_ne (by decide +kernel) ⟨_, rfl, rfl, _, rfl, ite_ne (by decide +kernel) ?_⟩
      have e : headT ws = nameT ws _ 0 1 := hh.trans (if_neg (by decide))
      refine ⟨_, rfl, p, d1, _, rfl, g1, mNm, p, L, ws, 1, rfl, o1, lo.mem, hf, n0, fun y hy nb H2 kp2 o2 => ?_, nmE 0 1 e H1 kp1⟩
      have md := (nmK 0 1 e ⟨by decide, (fun q => nomatch q), by decide, fun _ => rfl⟩ y hy nb H2 (kp1.trans kp2) o2).pl rfl
      exact ⟨_, rfl, rfl, _, rfl, ite_ne (by decide +kernel) ⟨_, rfl, rfl, _, rfl, ite_eq ⟨_, rfl, md⟩⟩⟩
    | la =>
      refine ite_ne (by decide +kernel) ⟨_, rfl, rfl, _, rfl, ite_ne (by decide +kernel) ?_⟩
      have e : headT ws = nameT ws _ 0 1 := hh.trans (if_neg (by decide))
      refine ⟨_, rfl, p, d1, _, rfl, g1, mNm, p, L, ws, 1, rfl, o1, lo.mem, hf, n0, fun y hy nb H2 kp2 o2 => ?_, nmE 0 1 e H1 kp1⟩
      have md := (nmK 0 1 e ⟨by decide, (fun q => nomatch q), by decide, fun _ => rfl⟩ y hy nb H2 (kp1.trans kp2) o2).pl rfl
      exact ⟨_, rfl, rfl, _, rfl, ite_ne (by decide +kernel) ⟨_, rfl, rfl, _, rfl, ite_ne (by decide +kernel) ⟨_, rfl, rfl, _, rfl, ite_eq ⟨_, rfl, md⟩⟩⟩⟩
    | sm =>
      refine ite_ne (by decide +kernel) ⟨_, rfl, rfl, _, rfl, ite_ne (by decide +kernel) ?_⟩
      have e : headT ws = nameT ws _ 0 1 := hh.trans (if_neg (by decide))
      refine ⟨_, rfl, p, d1, _, rfl, g1, mNm, p, L, ws, 1, rfl, o1, lo.mem, hf, n0, fun y hy nb H2 kp2 o2 => ?_, nmE 0 1 e H1 kp1⟩
      have md := (nmK 0 1 e ⟨by decide, (fun q => nomatch q), by decide, fun _ => rfl⟩ y hy nb H2 (kp1.trans kp2) o2).pl rfl
      exact ⟨_, rfl, rfl, _, rfl, ite_ne (by decide +kernel) ⟨_, rfl, rfl, _, rfl, ite_ne (by decide +kernel) ⟨_, rfl, rfl, _, rfl, ite_ne (by decide +kernel) ⟨_, rfl, md⟩⟩⟩⟩
end
end My
namespace My
open PySem PySem.Spec PyProof.Rows L2
abbrev sHeard : Stmt := top 38
section
variable {P : Program} {w : World} {K : PySem.W.Frag} {mg : Str → Option Value} {base : Heap} {C Cw fWhole fBetw fDay fChk fName fWr fOv fAh fOne fTk fNm fEn fWI fTT fWO cBT fBT cT cN fTI fNI cBN cBU kA : Addr} {G : Kd → Addr} {dBT dWr dOv dAh dOne dTk dNm dEn dWI dName dTT dWO : FuncData}
def spRT (K : PySem.W.Frag) (G : Kd → Addr) (cT cBT : Addr) : Sp := fun vs H Q E => ∃ v : V, vs = [.ref cT, v] ∧ ((∃ ws, v = .str (Txt.join " " ws) ∧ LineOk ws ∧ ErrsT cBT (outT ws) H E ∧ ∀ k n x a, outT ws = .tie k n x a → NameOk x → NumOk k n → ∀ q H', Same H H' → TieX G H' q k n x → Q (.ref q) H') ∨
  (NoStr K H v ∧ ∀ dd H', Same H H' → H' dd = some (.xd (badX 0)) → E (.ref cBT) (some dd) H'))
theorem scRT : FnScope ["cls", "text", "words", "tie"] ["cls", "text"] (defScope sTieR) := ⟨rfl, rfl, rfl, by decide +kernel, rfl, by decide +kernel, by decide +kernel⟩
theorem ok_rt {f : Addr} {fd : FuncData} (F : Fun K "read" "Tie.read" sTieR f fd) (TW : TxtW K mg Cw fWr fOv fAh fOne fTk fNm fEn)
    (WO : FnOk P w K mg base (L2.CX P w) 3 fWO dWO ["text"] (spWdsOf K Cw cBT)) (bWO : Binds K dWO ["text"] []) (kWO : PySem.W.keepIn K (.ref fWO) = true) (gWO : mg "words_of" = some (.ref fWO))
    (TT : FnOk P w K mg base (L2.CX P w) 6 fTT dTT ["words"] (spTT G Cw cBT)) (bTT : Binds K dTT ["words"] []) (kTT : PySem.W.keepIn K (.ref fTT) = true) (gTT : mg "take_tie" = some (.ref fTT))
    (D : WdM P w K mg base Cw cBT fOne fTk fNm fEn dOne dTk dNm dEn) : FnOk P w K mg base (L2.CX P w) 7 f fd ["cls", "text"] (spRT K G cT cBT) := by
  refine F.okX scRT (fun vs H Q E h => ?_) (fun cdv A outer s H vs Q E hr h => ?_)
  · obtain ⟨v, rfl, _⟩ := h
    rfl
  · obtain ⟨v, rfl, h⟩ := h
    refine ⟨_, pss_cons (ps_set (i := 2) scRT.nd rfl (Or.inl rfl) (pe_call (E := E) WO (hr.mono (by decide)) rfl gWO kWO bWO .nil (passes_call (takes_of rfl rfl rfl rfl) fun _ _ _ _ h => h) (pa_cons (pv 1) pa_nil)))
      (pss_cons (ps_set (i := 3) scRT.nd rfl (Or.inl rfl) (pe_call (E := E) TT hr rfl gTT kTT bTT .nil (passes_call (takes_of rfl rfl rfl rfl) fun _ _ _ _ h => h) (pa_cons (pv 2) pa_nil)))
      (pss_cons (ps_expr (pe_meth0 (E := E) (pv 2) TW.cw TW.mEn D.en (hr.mono (by decide)) D.bEn .nil (passes_call (takes_of rfl rfl rfl rfl) fun _ _ _ _ h => h)))
      (pss_one (ps_ret (pv 3))))), ?_⟩
    rcases h with ⟨ws, rfl, lo, er, kk⟩ | ⟨nos, k⟩
    · refine ⟨_, rfl, _, rfl, .inl ⟨ws, rfl, lo, fun p L H1 np s1 o1 => ?_⟩⟩
      have up : ∀ {H2 : Hp}, Keeps p H1 H2 → Same H H2 := fun kp b ob e => kp _ _ (s1 _ _ e) (ne_of_none e np)
      refine ⟨_, rfl, p, L, ws, rfl, o1, lo, fun j e dd H2 kp hd => ?_, fun k n x a e nm ok q H2 kp o2 t => ?_⟩
      · have z : outT ws = .bad j := by unfold outT; rw [e]
        rw [z] at er
        exact er dd H2 (up kp) hd
      · have z : outT ws = if a = ws.length then .tie k n x a else .bad a := by unfold outT; rw [e]
        obtain ⟨dx, fs, h1, fW, fR, fA, fM, fl⟩ := o2.ob
        refine ⟨_, rfl, p, dx, _, rfl, h1, fM "take_end" (by decide +kernel) (by decide +kernel) (by decide +kernel), p, L, ws, a, rfl, o2, fun ea => ?_, fun na dd H3 s3 hd => ?_⟩
        · rw [if_pos ea] at z
          exact ⟨_, rfl, kk k n x a z nm ok q H2 (up kp) t⟩
        · rw [if_neg na] at z
          rw [z] at er
          exact er dd H3 ((up kp).trans s3) hd
    · exact ⟨_, rfl, v, rfl, .inr ⟨nos, k⟩⟩
end
end My
namespace My
open PySem PySem.Spec PyProof.Rows L2
/-- what the clause wishes of an error: it is one of the clause's, and the clause returns -/
def wRet (K : PySem.W.Frag) (c : Value) (i : Nat) (ts : Addr → Value → Option Addr → TS) (D : Ends) : WX := fun cls d σ H =>
  PySem.W.exmOne K cls c = some true ∧ ∀ a, H a = none → ts a cls d { nx := fun _ _ => False, rt := D.rt, bk := fun _ _ => False, ct := fun _ _ => False } (σ.set i (some (.ref a))) H
section
variable {X : Cx} {x n : Str} {c : Value} {i : Nat} {body suite : List Stmt} {b₀ : Stmt} {np pos pos' : Pos} {tb : WX → TS} {ts : Addr → Value → Option Addr → TS} {hds : List ExceptHandler}
/-- the clause, entered with an error in the air -/
theorem clause_ret (hs : X.stack = X.env :: X.outer) (hf : X.env.frame = some X.env.locals) (hex : X.ex = []) (hN : X.N.Nodup) (hi : X.N[i]? = some n) (hln : X.env.kindOf n = some .local) (hc : Names X x c)
    (hsu : ∀ (a : Addr) (oe : Obj) (cls : Value) (d : Option Addr) (pn : List (Addr × Obj)), Zc cls d oe → (∃ vs, oe.data = .fields vs) → PSs (X.suite a ((a, oe) :: pn)) (b₀ :: suite) (ts a cls d))
    {pins : List (Addr × Obj)} {D : Ends} {xe : Value → Shared → Prop} {u : Value} {s' : Shared} (ok : X.Ok) (air : XE (X.tr (X.pn ++ pins) xe) (wRet X.K c i ts D) u s') :
    wpAny (model X.prog X.w) X.A (noteFrame u X.env) (fun _ s₂ => wpAny (model X.prog X.w) X.A (setFlight u none) (fun _ s₃ =>
      wpAny (model X.prog X.w) X.A (handleBy u X.env (.ExceptHandler (some (.Name x np)) (some n) (b₀ :: suite) pos' :: hds)) (SP X pins D) X.xe s₃) X.xe s₂) X.xe s' := by
  obtain ⟨a, B, sI, pins', σ', H', cls, d, rfl, J', nb, up, sky, na, os, ag, hb1, yes⟩ := air
  have J : Inv X pins σ' H' sI := J'.ofTry ok
  have hfr : X.A.frames = some (X.env :: X.outer) := by rw [ok.frames, hs]
  have inFr : ∀ b, b ∈ frs (X.env :: X.outer) → b ∈ frs X.stack := fun b z => by rw [hs]; exact z
  have frIn : ∀ b, b ∈ frs X.stack → b ∈ frs (X.env :: X.outer) := fun b z => by rw [hs] at z; exact z
  have fInS : ∀ b, b ∈ X.fs → b ∈ frs X.stack := fun b z => inFr b (by
    obtain ⟨e, he, q⟩ := List.mem_filterMap.mp z
    exact List.mem_filterMap.mpr ⟨e, List.mem_cons_of_mem _ he, q⟩)
  have lInS : X.env.locals ∈ frs X.stack := inFr _ (List.mem_filterMap.mpr ⟨X.env, List.mem_cons_self, hf⟩)
  refine Sky.land Zc.steady hfr hf (show Sky B (X.env :: X.outer) a (Zc cls d) X.env.locals s'.heap by rw [← hs]; exact sky) fun h3 fl3 up3 => ?_
  obtain ⟨hB3, hBa, hFF3, oe3, vs3, T3, oT3, ts3, he3, hz3, hd3, _⟩ := id fl3
  -- the error is no frame
  have nfr : a ∉ frs X.stack := fun hm => by
    obtain ⟨_, o', e', hnf⟩ := hFF3.mem (frIn a hm)
    rw [he3] at e'
    cases e'
    exact hnf _ hd3
  have nL : a ≠ X.env.locals := fun z => nfr (z ▸ lInS)
  have nF : a ∉ X.fs := fun z => nfr (fInS a z)
  -- it is new: neither pinned nor there when the def began
  have notB : ∀ b o, B.get? b = some o → b ≠ a := fun b o e z => by
    rw [z, hBa] at e
    cases e
  have n0 : ∀ o, X.s_0.heap.get? a ≠ some o := fun o e => by
    obtain ⟨o', e1⟩ := J.base.there a o e (by rw [hex]; simp)
    exact notB a o' (nb a o' e1 nfr) rfl
  have npn : ∀ p ∈ X.pn ++ pins, p.1 ≠ a := fun p hp => by
    have hp' : p ∈ (X.tr (X.pn ++ pins) xe).pn ++ pins' := List.mem_append_left _ hp
    obtain ⟨k1, _, k3, k4, _⟩ := J'.pin p hp'
    exact notB _ _ (nb p.1 p.2 k1 fun hm => by
      rcases List.mem_cons.mp (J.stkSub _ hm) with z | z
      · exact k3 z
      · exact k4 z)
  have Jp : Inv X pins σ' H' sI := J'.ofTry ok
  have J3 : Inv X pins σ' H' { s' with heap := h3 } := Jp.landed nb fl3.1 (up.trans up3) os ag
  have S3 := J3.suite he3 hd3 na nL nF
  refine wpAny_handleBy_cons (codeAny_handlers_test ?_) (by intro q; cases q)
  have LT : PySem.W.Looks (model X.prog X.w) h3 (typeOf (.ref a)) cls := fun A Q E s k q => wpAny_typeOf_ref (k _ _ he3) (by rw [hz3.1]; exact q)
  have LM := PySem.W.exm_one (M := model X.prog X.w) J3.kIn LT hb1
  have named : ∀ {Q : Value → Shared → Prop} {E : Value → Shared → Prop}, Q c { s' with heap := h3 } → wpAny (model X.prog X.w) (X.A.mark (some (.ref a))) (eval (.Name x np) X.env) Q E { s' with heap := h3 } := fun {Q E} q => by
    obtain ⟨hg, hdbg, hm⟩ := hc
    rcases hm with hm | ⟨hm, hv, hnn⟩
    · exact ld_glob (X := X.suite a ((a, oe3) :: (X.pn ++ pins))) S3 hg hm q hdbg
    · exact ld_blt (X := X.suite a ((a, oe3) :: (X.pn ++ pins))) S3 hg hm hv q hnn hdbg
  refine named (LM.here (codeAny_handlers_suite_as (HandSPX.lands_againZ fl3 fun h4 fl4 up4 => ?_)))
  obtain ⟨_, _, _, oe4, vs4, _, _, _, he4, hz4, hd4, _⟩ := id fl4
  have J4 : Inv X pins σ' H' { s' with heap := h4 } := Jp.landed nb fl4.1 ((up.trans up3).trans up4) os ag
  have S4 := J4.suite he4 hd4 na nL nF
  refine store_ok (X := X.suite a ((a, oe4) :: (X.pn ++ pins))) (v := .ref a) S4 hN hi (.inl hln) rfl (fun s5 S5 => ?_) (.inr hln)
  refine wpAny_mono ((hsu a oe4 cls d (X.pn ++ pins) hz4 ⟨_, hd4⟩).run [] s5 _ H' _ S5 (yes a na)) (fun f s6 hsp => ?_) (fun _ _ z => False.elim z)
  cases f with
  | ret u =>
    obtain ⟨v6, σ6, H6, S6, r6, q6⟩ := hsp
    exact gone_ok (S6.unsuite ok) hN hi hln fun s7 J7 => ⟨_, _, _, J7, r6, q6⟩
  | next =>
    obtain ⟨_, _, _, q6⟩ := hsp
    exact q6.elim
  | brk =>
    obtain ⟨_, _, _, q6⟩ := hsp
    exact q6.elim
  | cont =>
    obtain ⟨_, _, _, q6⟩ := hsp
    exact q6.elim
/-- try: body / except x as n: suite, which returns; more clauses behind it are never asked -/
theorem ps_try_ret (hs : X.stack = X.env :: X.outer) (hf : X.env.frame = some X.env.locals) (hex : X.ex = []) (hN : X.N.Nodup) (hi : X.N[i]? = some n) (hln : X.env.kindOf n = some .local) (hc : Names X x c)
    (hb : ∀ (W : WX) (pn : List (Addr × Obj)) (xe : Value → Shared → Prop), Takes (X.tr pn xe) W → PassesOwn (model X.prog X.w) X.A X.env xe → PSs (X.tr pn xe) body (tb W))
    (hsu : ∀ (a : Addr) (oe : Obj) (cls : Value) (d : Option Addr) (pn : List (Addr × Obj)), Zc cls d oe → (∃ vs, oe.data = .fields vs) → PSs (X.suite a ((a, oe) :: pn)) (b₀ :: suite) (ts a cls d)) :
    PS X (.Try body (.ExceptHandler (some (.Name x np)) (some n) (b₀ :: suite) pos' :: hds) [] [] pos) (fun D σ H => tb (wRet X.K c i ts D) D σ H) := by
  refine ⟨fun pins s σ H D I h => wpAny_Try_except ?_⟩
  have run := (hb (wRet X.K c i ts D) (X.pn ++ pins) _ (fun u s' air => clause_ret (hds := hds) (pos' := pos') (np := np) hs hf hex hN hi hln hc hsu I.ok air) PassesOwn.looking).run [] s σ H D (I.toTry _) h
  refine wpAny_mono run (fun f s1 hsp => ?_) fun _ _ he => he
  cases f with
  | ret u =>
    obtain ⟨v, σ1, H1, J, r, q⟩ := hsp
    exact ⟨v, σ1, H1, J.ofTry I.ok, r, q⟩
  | brk =>
    obtain ⟨σ1, H1, J, q⟩ := hsp
    exact ⟨σ1, H1, J.ofTry I.ok, q⟩
  | cont =>
    obtain ⟨σ1, H1, J, q⟩ := hsp
    exact ⟨σ1, H1, J.ofTry I.ok, q⟩
  | next =>
    obtain ⟨σ1, H1, J, q⟩ := hsp
    exact wpAny_execs_nil ⟨σ1, H1, J.ofTry I.ok, q⟩
end
/-- a wish about errors, told only of states with as many slots as the def has names -/
theorem takes_len {X : Cx} {W : WX} (tk : Takes X W) : Takes X (fun cls d σ H => σ.length = X.N.length → W cls d σ H) := fun u s' ⟨a, B, sI, pins, σ, H, cls, d, e, I, nb, up, sky, na, os, ag, w⟩ =>
  tk u s' ⟨a, B, sI, pins, σ, H, cls, d, e, I, nb, up, sky, na, os, ag, w I.len⟩
theorem okGc {P : Program} {w : World} {K : PySem.W.Frag} {mg : Str → Option Value} {base : Heap} {x qual : Str} {st : Stmt} {f c : Addr} {fd : FuncData} {N ps : List Str} {k : Nat} {sp : Sp} (F : Fun K x qual st f fd) (hc : fd.code = .ref c) (S : FnScope N ps (defScope st)) (len : ∀ vs H Q E, sp vs H Q E → vs.length = ps.length)
    (body : ∀ (A : Around) (outer : List Env) (s : Shared) (H : Hp) (vs : List V) (Q : VK) (E : XK), A.guards = some [] → Room k (A.deeper (envOfC qual (defScope st) s.heap.objs.size f (.ref c))) → sp vs H Q E →
      ∃ t, PSs (cxOf CX0 P w K mg base N qual (defScope st) f (.ref c) A outer s H E).nox (defBody st) t ∧ t { nx := fun _ H' => Q .non H', rt := Q } (start N vs) H) : FnG P w K mg base CX0 (k + 1) f fd ps sp := by
  obtain ⟨oc, od, kV, doc, pm, an, cdv, ct, osl, e, lk, hcd⟩ := F.ex
  have ec : cdv = .ref c := by rw [e] at hc; exact hc
  subst ec
  subst e
  refine ⟨len, fun A outer s H args us vs Q E gd room e0 bnd rv hs => ?_⟩
  have inK : K.In s.heap := e0.mod.kin.keeps fun b o e => (e0.bs b o e).1
  have nol : s.heap.NoLimit := e0.mod.nolimit.keeps fun b o e => (e0.bs b o e).1
  refine codeAny_call_function room.depth (inK _ _ lk) rfl S.co S.gen rfl (PySem.W.codeRec_of inK hcd) (bnd _ _ _ _ (wpAny_newFunctionEnv_cells S.kind (fun y hy => ?_) fun env he s1 x => ?_))
  · exact (S.par y.1 (List.of_mem_zip hy).1).elim .inl fun q => .inr ⟨q, PySem.W.cellsFrom_some _ _ _ (.inl q)⟩
  subst he
  refine ⟨nol.keeps x.toInCall.keep, codeAny_func ?_⟩
  obtain ⟨t, ht, hq⟩ := body A outer s H vs Q E gd (room.deeper _) hs
  refine wpAny_mono (ht.nox.run [] s1 (start N vs) H _ (inv_start S room.hd e0 (len _ _ _ _ hs) rv x) hq) (fun fl s' z => ?_) fun e s' z => z
  match fl, z with
  | .ret u, ⟨v, σ', H', J, ru, q⟩ => exact ⟨v, H', J.os, J.bare, J.base, J.hok, ru, q⟩
  | .next, ⟨σ', H', J, q⟩ => exact ⟨V.non, H', J.os, J.bare, J.base, J.hok, rfl, q⟩
  | .brk, ⟨_, _, _, q⟩ => exact q.elim
  | .cont, ⟨_, _, _, q⟩ => exact q.elim
section
variable {P : Program} {w : World} {K : PySem.W.Frag} {mg : Str → Option Value} {base : Heap} {cBT fBT cDE g c Pt : Addr} {fdH : FuncData}
/-- what heard wishes of an error -/
def Ech (cBT : Addr) (Q : VK) : XK := fun cls d H' => ∃ dd : Addr, d = some dd ∧
  (cls = .ref cBT ∧ ∃ k : Nat, H' dd = some (.xd (badX k)) ∧ ∀ t H'', Same H' H'' → H' t = none → H'' t = some (.tup [.str "text", .int 0, .int (k : Nat)]) → Q (.ref t) H'')
/-- heard: what it returns in a list, or what was raised -/
def TTc (K : PySem.W.Frag) (cBT : Addr) : (XK → Hp → VK → Prop) → Hp → VK → Prop := fun tl H Q => ∀ (H1 : Hp) (Q1 : VK), Same H H1 → (∀ v H2, (∀ t H3, Same H2 H3 → H2 t = none → H3 t = some (.lst [v]) → Q (.ref t) H3) → Q1 v H2) → tl (Ech cBT Q) H1 Q1
structure HeardT (K : PySem.W.Frag) (mg : Str → Option Value) (cBT fBT : Addr) : Prop where
  en : ErC K mg "BadText" "line" cBT fBT
  en2 : ErC K mg "BadText" "word" cBT fBT
  xn : PySem.W.exmOne K (.ref cBT) (.ref cBT) = some true
theorem scHeard : FnScope ["_law_ask", "error"] ["_law_ask"] (defScope sHeard) := ⟨rfl, rfl, rfl, by decide +kernel, rfl, by decide +kernel, by decide +kernel⟩
theorem heard_gives {X : Cx} {g : Addr} {cdg : Value} {q : Str} (T : HeardT X.K X.mg cBT fBT) :
    LamX.GivesTo X ["_law_ask", "error"] "_law_heard" (defScope sHeard) g cdg (defBody sHeard) "_law_ask" q (TTc X.K cBT) := by
  intro f c' s H Q tl act hc h
  refine ⟨_, pss_one (ps_try_ret (X := (cxOf C8.CX0 X.prog X.w X.K X.mg X.base ["_law_ask", "error"] "_law_heard" (defScope sHeard) g cdg X.A X.stack s H C8.E0).nox) (c := .ref cBT) (i := 1)
        (tb := fun W D σ H => ∃ Ec : XK, (∀ cls d σ' H', Ec cls d H' → σ'.length = 2 → W cls d σ' H') ∧ σ[0]? = some (some (.ref f)) ∧ H c' = some (LamX.CodeO c' q) ∧ tl Ec H (fun v H1 => 1 ≤ sizeLine ∧ ∀ t, H1 t = none → D.rt (.ref t) (upd H1 t (.lst [v]))))
        rfl rfl rfl scHeard.nd rfl rfl ⟨rfl, by decide, .inl T.en.g⟩ (fun W pn xe tk _ => ?_) (fun a oe cls d pn hz hd => pss_one (ps_ret (pe_tup (pa_cons pe_str (pa_cons (pe_xf T.en.xf T.en.no hz hd (pv 1)) (pa_cons (pe_xf T.en2.xf T.en2.no hz hd (pv 1)) pa_nil))))))), ?_⟩
  · refine ⟨fun pins s' σ H' D I h' => ?_⟩
    obtain ⟨Ec, hW, h1, h2, h3⟩ := h'
    exact PSs.run (pss_one (ps_ret (pe_lst (pa_cons (act _ pn xe Ec _ _ (takes_len tk) (fun cls d σ' H' e l => hW cls d σ' H' e l)) pa_nil)))) pins s' σ H' D I ⟨h1, h2, h3⟩
  · refine ⟨_, fun cls d σ' H' e l => ?_, rfl, hc, h _ _ (Same.refl H) fun v H2 k => ⟨(by show 1 ≤ sizeLine; decide), fun t nt => k t _ (same_new nt) nt upd_same⟩⟩
    obtain ⟨x0, x1, rfl⟩ : ∃ x0 x1, σ' = [x0, x1] := by
      match σ', l with
      | [x0, x1], _ => exact ⟨_, _, rfl⟩
    obtain ⟨dd, rfl, rfl, n, hdd, k⟩ := e
    exact ⟨T.xn, fun a na => ⟨_, rfl, rfl, rfl, dd, badX n, .int 0, rfl, hdd, rfl, _, rfl, rfl, rfl, dd, badX n, .int (n : Nat), rfl, hdd, rfl, (by show 3 ≤ sizeLine; decide), fun t nt => k t _ (same_new nt) nt upd_same⟩⟩
/-- heard(lambda: ..) -/
theorem pe_heard {X : Cx} {k : Nat} {params : Arguments} {body : Expr} {scope : Scope} {t : XK → TE} {p lpos pos : Pos} (qn : Str) (hq : X.env.qual = qn) (FH : Fun X.K "_law_heard" "_law_heard" sHeard g fdH) (bH : Binds X.K fdH ["_law_ask"] []) (gH : X.mg "_law_heard" = some (.ref g)) (T : HeardT X.K X.mg cBT fBT)
    (gd : X.A.guards = some []) (TB : LamX.TabB X.base X.mg c Pt) (hcode : X.env.code = .ref c) (hr : Room (k + 2) X.A) (hgl : Gl X "_law_heard") (sc : Scope) (hsc : X.env.scope = sc) (hL : LamX.lamSB sc scope = true) (hdef : defaultsOf params X.env = ([], []))
    (hbind : ∀ (q : Str) (cl : List (Str × Addr)) (pm cv ctv : Value), bindArgs (PySem.W.kla_fn "<lambda>" q params body scope cl pm cv ctv) ⟨[], []⟩ = pure [])
    (hbody : ∀ (A : Around) (outer : List Env) (s : Shared) (H : Hp) (E : XK) (f c' : Addr), Room k (A.deeper (LamX.lamEnv X scope s.heap.objs.size f c')) → PE (LamX.lamCx X A outer s H E scope f c') body (t E)) :
    PE X (.Call (.Name "_law_heard" p) [.Lambda params body scope lpos] [] pos) (LamX.tLam [(Pt, qn ++ Str.ofString "<lambda>")] (TTc X.K cBT) t) := by
  subst hq
  obtain ⟨oc, od, kV, doc, pm, an, cdv, ct, osl, rfl, lk, hcd⟩ := FH.ex
  refine LamX.pe_lamcall (Ng := ["_law_ask", "error"]) hgl gH FH.kp lk hcd bH scHeard rfl (.inl rfl) (heard_gives T) TB hcode List.mem_cons_self (fun q hq _ => by rw [List.mem_singleton.mp hq]) hr (by rw [hsc]; exact LamX.lamS_by hL) hdef hbind hbody
end
end My
namespace My
open PySem PySem.Spec PyProof.Rows L2
abbrev sWord : Stmt := top 32
abbrev sLTie : Stmt := top 34
abbrev sMade : Stmt := top 35
def wordsT (k : Kd) (n : Int) (x : Str) : List Str := if isNum k = true then [wordOf k, (toString n : String), x] else [wordOf k, x]
theorem words_text (k : Kd) (n : Int) (x : Str) : lineT k n x = Txt.join " " (wordsT k n x) := by
  unfold wordsT
  cases e : isNum k with
  | true => rw [if_pos rfl, line3 e]
  | false => rw [if_neg (by decide), line2 e]
/-- a drawn name -/
structure NmW (w : Str) : Prop where
  al : ∀ c ∈ w.cps.toList, 97 ≤ c ∧ c ≤ 122
  lo : 0 < w.length
  hi : w.length ≤ 8
theorem NmW.low {w : Str} (h : NmW w) : Low 0 w := by
  refine ⟨?_, fun c hc => .inl (h.al c hc), by have := h.hi; omega⟩
  cases e : w.cps.toList with
  | nil =>
    have hl : w.cps.toList.length = w.length := Array.length_toList
    rw [e] at hl
    have := h.lo
    simp at hl
    omega
  | cons c r => exact ⟨c, r, rfl, h.al c (by rw [e]; exact List.mem_cons_self)⟩
theorem NmW.name {w : Str} (h : NmW w) : NameOk w := by
  refine ⟨?_, low_sk h.low⟩
  have := h.hi
  rw [low_name h.low, decide_eq_false (show ¬ 8 < (w.length : Int) by omega)]
  unfold noNul
  rw [Bool.not_false, Bool.true_and, List.all_eq_true]
  exact fun c hc => decide_eq_true (h.al c hc).1
def namesL : List Str := ["table", "from", "back", "cycle", "none", "last", "a", "b"]
theorem names_all : namesL.all (fun w => w.cps.toList.all (fun c => decide (97 ≤ c) && decide (c ≤ 122)) && (decide (0 < w.length) && decide (w.length ≤ 8))) = true := by decide +kernel
theorem names_ok {w : Str} (h : w ∈ namesL) : NmW w := by
  have := List.all_eq_true.mp names_all w h
  rw [Bool.and_eq_true, Bool.and_eq_true, decide_eq_true_eq, decide_eq_true_eq, List.all_eq_true] at this
  exact ⟨fun c hc => by have := this.1 c hc; rw [Bool.and_eq_true, decide_eq_true_eq, decide_eq_true_eq] at this; exact this, this.2.1, this.2.2⟩
def letL : List Str := ["abcdefghijklmnopqrstuvwxyz", "aby"]
theorem let_ok {z : Str} (h : z ∈ letL) : (∀ c ∈ z.cps.toList, 97 ≤ c ∧ c ≤ 122) ∧ 0 < z.length ∧ z.length ≤ 1000 := by
  have e : letL.all (fun w => w.cps.toList.all (fun c => decide (97 ≤ c) && decide (c ≤ 122)) && (decide (0 < w.length) && decide (w.length ≤ 1000))) = true := by decide +kernel
  have := List.all_eq_true.mp e z h
  rw [Bool.and_eq_true, Bool.and_eq_true, decide_eq_true_eq, decide_eq_true_eq, List.all_eq_true] at this
  exact ⟨fun c hc => by have := this.1 c hc; rw [Bool.and_eq_true, decide_eq_true_eq, decide_eq_true_eq] at this; exact this, this.2.1, this.2.2⟩
theorem num_int {n : Int} (h : 0 ≤ n ∧ n ≤ 60) : PySem.intText? ((toString n : String) : Str) = some n := by
  have e : (List.range 61).all (fun (i : Nat) => PySem.intText? ((toString (i : Int) : String) : Str) == some (i : Int)) = true := by decide +kernel
  have := List.all_eq_true.mp e n.toNat (List.mem_range.mpr (by omega))
  rw [show ((n.toNat : Nat) : Int) = n by omega] at this
  exact beq_iff_eq.mp this
section
variable {P : Program} {w : World} {K : PySem.W.Frag} {mg : Str → Option Value} {base : Heap} {C fWhole fBetw fDay fChk fName fDraw fPick cT cN fTI fNI cBN cBU : Addr} {G : Kd → Addr} {fdD fdP : FuncData} {fI : Kd → Addr} {dI : Kd → FuncData}
def spWord : Sp := fun vs H Q _ => ∃ (p l : Addr) (N : Int), vs = [.ref p] ∧ PenAt H p l N ∧ N ≤ 50000 ∧ ∀ x H', NmW x → SameBut p H H' → PenAt H' p l (N + 11) → Q (.str x) H'
theorem scWord : FnScope ["_law_pen_here", "_law_words", "_law_letters", "_law_word_here", "_law_turn"] ["_law_pen_here"] (defScope sWord) := ⟨rfl, rfl, rfl, by decide +kernel, rfl, by decide +kernel, by decide +kernel⟩
theorem ok_word {f : Addr} {fd : FuncData} (F : Fun K "_law_word" "_law_word" sWord f fd) (T : Txt K mg C fWhole fBetw fDay fChk) (D : Df P w K mg base "_law_draw" 1 fDraw fdD ["_law_pen_here", "_law_many"] spDraw)
    (I : Df P w K mg base "_law_pick" 2 fPick fdP ["_law_pen_here", "_law_some"] (spPick K)) : FnOk P w K mg base CX0 3 f fd ["_law_pen_here"] spWord := by
  refine F.ok scWord (fun vs H Q E h => ?_) (fun cdv A outer s H vs Q E hr h => ?_)
  · obtain ⟨p, l, N, rfl, _⟩ := h
    rfl
  · obtain ⟨p, l, N, rfl, pen, hN, k⟩ := h
    have hr1 : Room 1 _ := hr.mono (by decide)
    refine ⟨_, pss_cons (ps_set (i := 1) scWord.nd rfl (Or.inl rfl) (pe_lst (pa_cons pe_str (pa_cons pe_str (pa_cons pe_str (pa_cons pe_str (pa_cons pe_str (pa_cons pe_str (pa_cons pe_str (pa_cons pe_str pa_nil))))))))))
      (pss_cons (ps_set (i := 2) scWord.nd rfl (Or.inl rfl) (pe_call I.F hr rfl I.g I.kp I.b .nil pass0 (pa_cons (pv 0) (pa_cons (pe_lst (pa_cons pe_str (pa_cons pe_str pa_nil))) pa_nil))))
      (pss_cons (ps_set (i := 3) scWord.nd rfl (Or.inl rfl) pe_str)
      (pss_cons (ps_for PassesOwn.never rfl (pi_range1 rfl T.zRange (pa_cons (pe_op op_add pe_int (pe_call D.F hr1 rfl D.g D.kp D.b .nil pass0 (pa_cons (pv 0) (pa_cons pe_int pa_nil)))) pa_nil)) (pg_name (i := 4) scWord.nd rfl (Or.inl rfl))
        (pss_one (ps_set (i := 3) scWord.nd rfl (Or.inl rfl) (pe_op op_add_str (pv 3) (pe_call I.F hr rfl I.g I.kp I.b .nil pass0 (pa_cons (pv 0) (pa_cons (pv 2) pa_nil)))))))
      (pss_one (ps_ret (pe_call I.F hr rfl I.g I.kp I.b .nil pass0 (pa_cons (pv 0) (pa_cons (pe_op op_cat (pv 1) (pe_op op_rep (pe_lst (pa_cons (pv 3) pa_nil)) pe_int)) pa_nil)))))))), ?_⟩
    obtain ⟨px, hp⟩ := pen.lst
    refine ⟨(by show 8 ≤ sizeLine; decide), fun A1 n1 => ?_⟩
    have s1 := same_new (o := .lst [.str "table", .str "from", .str "back", .str "cycle", .str "none", .str "last", .str "a", .str "b"]) n1
    have A1p : A1 ≠ p := Ne.symm (ne_of_none hp n1)
    refine ⟨_, rfl, (by show 2 ≤ sizeLine; decide), fun A2 n2 => ?_⟩
    have s2 := s1.trans (same_new (o := .lst [.str "abcdefghijklmnopqrstuvwxyz", .str "aby"]) n2)
    have A2p : A2 ≠ p := Ne.symm (ne_of_none (s1 _ _ hp) n2)
    have h1 : (upd (upd H A1 (.lst [.str "table", .str "from", .str "back", .str "cycle", .str "none", .str "last", .str "a", .str "b"])) A2 (.lst [.str "abcdefghijklmnopqrstuvwxyz", .str "aby"])) A1 = some (.lst (namesL.map V.str)) := same_new n2 _ _ upd_same
    refine ⟨p, l, N, pen.same s2, by omega, .inl ⟨A2, letL.map V.str, rfl, upd_same, A2p, (by show 0 < 2; decide), (by show 2 ≤ 1000; decide), fun i v H3 hi sb3 pen3 => ?_⟩⟩
    obtain ⟨z, hz, rfl⟩ : ∃ z, z ∈ letL ∧ v = .str z := by
      obtain ⟨z, hz, e⟩ := List.mem_map.mp (List.mem_of_getElem? hi)
      exact ⟨z, hz, e.symm⟩
    obtain ⟨zl, z0, z1⟩ := let_ok hz
    have h3 := sb3 _ _ A1p h1
    have sH3 := (Same.but s2).trans sb3
    clear h1 s1 n1 n2 s2 sb3
    refine ⟨_, rfl, p, l, N + 1, 8, rfl, pen3, by decide, log_small (by decide) (by decide), by omega, fun r H4 r0 r1 sb4 pen4 => ⟨_, _, rfl, rfl, ?_⟩⟩
    obtain ⟨m, rfl⟩ := Int.eq_ofNat_of_zero_le r0
    refine ⟨1 + (m : Int), rfl, by omega, by omega, for_range (lo := 0) (n := (1 + (m : Int)).toNat) (fun i σ H' => ∃ (u : Option V) (x : Str), σ = [some (.ref p), some (.ref A1), some (.str z), some (.str x), u] ∧ (∀ c ∈ x.cps.toList, 97 ≤ c ∧ c ≤ 122) ∧ x.length = i ∧ H' A1 = some (.lst (namesL.map V.str)) ∧ SameBut p H H' ∧ PenAt H' p l (N + 2 + i))
      ⟨none, "", rfl, (fun c hc => by cases hc), rfl, sb4 _ _ A1p h3, sH3.trans sb4, pen4.le (by omega)⟩ ?_ ?_⟩
    · rintro i σ H5 hi ⟨u, x, rfl, xl, xn, hA, sb5, pen5⟩
      refine ⟨_, rfl, _, rfl, _, rfl, p, l, N + 2 + i, pen5, by omega, .inr ⟨z, rfl, z0, z1, fun j c H6 hc sb6 pen6 => ?_⟩⟩
      have hcm := zl c (List.mem_of_getElem? hc)
      refine ⟨x, ⟨#[c]⟩, rfl, rfl, (by have : (⟨#[c]⟩ : Str).length = 1 := rfl; rw [sizeLine_eq]; omega), ?_⟩
      refine ⟨_, _, rfl, fun d hd => ?_, ?_, sb6 _ _ A1p hA, sb5.trans sb6, pen6.le (by omega)⟩
      · have e : (x ++ (⟨#[c]⟩ : Str)).cps.toList = x.cps.toList ++ [c] := by
          show (x.cps ++ #[c]).toList = _
          simp
        rw [e] at hd
        rcases List.mem_append.mp hd with h | h
        · exact xl d h
        · rw [List.mem_singleton.mp h]; exact hcm
      · show (x.cps ++ #[c]).size = i + 1
        rw [Array.size_append]
        have : x.cps.size = i := xn
        rw [this]
        rfl
    · rintro σ H5 ⟨u, x, rfl, xl, xn, hA, sb5, pen5⟩
      have nx : NmW x := ⟨xl, by omega, by omega⟩
      obtain ⟨py, hpy⟩ := pen5.lst
      refine ⟨_, rfl, _, rfl, _, rfl, (by show 1 ≤ sizeLine; decide), fun A3 n3 => ?_⟩
      have s3 := same_new (o := .lst [.str x]) n3
      refine ⟨A3, 8, _, rfl, rfl, upd_same, by decide, by decide, (by show 1 * 8 ≤ sizeLine; decide), fun A4 n4 => ?_⟩
      have s4 := s3.trans (same_new (o := .lst (List.replicate ((8 : Int).toNat) [V.str x]).flatten) n4)
      refine ⟨A1, A4, _, _, rfl, rfl, s4 _ _ hA, upd_same, (by show 8 + 8 ≤ sizeLine; decide), fun A5 n5 => ?_⟩
      have s5 := s4.trans (same_new (o := .lst (namesL.map V.str ++ (List.replicate ((8 : Int).toNat) [V.str x]).flatten)) n5)
      have A5p : A5 ≠ p := Ne.symm (ne_of_none (s4 _ _ hpy) n5)
      refine ⟨p, l, N + 2 + ((1 + (m : Int)).toNat : Nat), pen5.same s5, by omega, .inl ⟨A5, _, rfl, upd_same, A5p, (by show 0 < 16; decide), (by show 16 ≤ 1000; decide), fun j v H6 hj sb6 pen6 => ?_⟩⟩
      obtain ⟨y, ny, rfl⟩ : ∃ y, NmW y ∧ v = .str y := by
        rcases List.mem_append.mp (List.mem_of_getElem? hj) with h | h
        · obtain ⟨y, hy, e⟩ := List.mem_map.mp h
          exact ⟨y, names_ok hy, e.symm⟩
        · obtain ⟨q, hq, hv⟩ := List.mem_flatten.mp h
          rw [List.eq_of_mem_replicate hq] at hv
          exact ⟨x, nx, List.mem_singleton.mp hv⟩
      exact k y H6 ny ((sb5.trans (Same.but s5)).trans sb6) (pen6.le (by omega))
def spLTie : Sp := fun vs H Q _ => ∃ (p l a : Addr) (N : Int) (xs : List Str), vs = [.ref p, .ref a] ∧ PenAt H p l N ∧ N ≤ 50000 ∧ H a = some (.lst (xs.map V.str)) ∧ a ≠ p ∧ 0 < xs.length ∧ xs.length ≤ 100 ∧ (∀ x ∈ xs, NmW x) ∧
  ∀ t k n x H', SameBut p H H' → PenAt H' p l (N + 4) → H' t = some (.lst ((wordsT k n x).map V.str)) → t ≠ p → NmW x → NumOk k n → Q (.ref t) H'
theorem scLTie : FnScope ["_law_pen_here", "_law_names_here", "_law_kind", "_law_source"] ["_law_pen_here", "_law_names_here"] (defScope sLTie) := ⟨rfl, rfl, rfl, by decide +kernel, rfl, by decide +kernel, by decide +kernel⟩
theorem ok_ltie {f : Addr} {fd : FuncData} (F : Fun K "_law_tie" "_law_tie" sLTie f fd) (T : Txt K mg C fWhole fBetw fDay fChk) (D : Df P w K mg base "_law_draw" 1 fDraw fdD ["_law_pen_here", "_law_many"] spDraw)
    (I : Df P w K mg base "_law_pick" 2 fPick fdP ["_law_pen_here", "_law_some"] (spPick K)) : FnOk P w K mg base CX0 3 f fd ["_law_pen_here", "_law_names_here"] spLTie := by
  refine F.ok scLTie (fun vs H Q E h => ?_) (fun cdv A outer s H vs Q E hr h => ?_)
  · obtain ⟨p, l, a, N, xs, rfl, _⟩ := h
    rfl
  · obtain ⟨p, l, a, N, xs, rfl, pen, hN, ha, nap, z0, z1, nms, kk⟩ := h
    have hr1 : Room 1 _ := hr.mono (by decide)
    refine ⟨_, pss_cons (ps_par (i := 2) (j := 3) rfl scLTie.nd rfl rfl (by decide) rfl rfl (pa_cons (pe_call I.F hr rfl I.g I.kp I.b .nil pass0 (pa_cons (pv 0) (pa_cons (pe_lst (pa_cons pe_str (pa_cons pe_str (pa_cons pe_str (pa_cons pe_str (pa_cons pe_str (pa_cons pe_str pa_nil))))))) pa_nil)))
          (pa_cons (pe_call I.F hr rfl I.g I.kp I.b .nil pass0 (pa_cons (pv 0) (pa_cons (pv 1) pa_nil))) pa_nil)) rfl)
      (pss_cons (ps_if (pt_cmpR op_eq (pv 2) pe_str (nomark _)) (pss_one (ps_ret (pe_lst (pa_cons (pv 2) (pa_cons (pe_callTy call_str_int (by rfl) T.zStr (by decide +kernel) (pa_cons (pe_call I.F hr rfl I.g I.kp I.b .nil pass0 (pa_cons (pv 0)
          (pa_cons (pe_lst (pa_cons pe_int (pa_cons pe_int (pa_cons pe_int (pa_cons pe_int (pa_cons (pe_call D.F hr1 rfl D.g D.kp D.b .nil pass0 (pa_cons (pv 0) (pa_cons pe_int pa_nil))) pa_nil)))))) pa_nil))) pa_nil)) (pa_cons (pv 3) pa_nil)))))) pss_nil)
      (pss_one (ps_ret (pe_ifExp (pt_cmpR op_eq (pv 2) pe_str (nomark _))
        (pe_lst (pa_cons (pv 2) (pa_cons (pe_callTy call_str_int (by rfl) T.zStr (by decide +kernel) (pa_cons (pe_call I.F hr rfl I.g I.kp I.b .nil pass0 (pa_cons (pv 0)
          (pa_cons (pe_lst (pa_cons pe_int (pa_cons pe_int (pa_cons (pe_op op_add pe_int (pe_call D.F hr1 rfl D.g D.kp D.b .nil pass0 (pa_cons (pv 0) (pa_cons pe_int pa_nil)))) pa_nil)))) pa_nil))) pa_nil)) (pa_cons (pv 3) pa_nil))))
        (pe_lst (pa_cons (pv 2) (pa_cons (pv 3) pa_nil))))))), ?_⟩
    obtain ⟨px, hp⟩ := pen.lst
    refine ⟨_, rfl, (by show 6 ≤ sizeLine; decide), fun q nq => ?_⟩
    have s1 := same_new (o := .lst [.str "back", .str "ahead", .str "sofar", .str "whole", .str "last", .str "same"]) nq
    have nqp : q ≠ p := Ne.symm (ne_of_none hp nq)
    refine ⟨p, l, N, pen.same s1, by omega, .inl ⟨q, _, rfl, upd_same, nqp, (by show 0 < 6; decide), (by show 6 ≤ 1000; decide), fun i v H1 hi sb1 pen1 => ?_⟩⟩
    obtain ⟨k, rfl⟩ : ∃ k, v = .str (wordOf k) := by
      have hv := List.mem_of_getElem? hi
      simp only [List.mem_cons, List.not_mem_nil, or_false] at hv
      rcases hv with rfl | rfl | rfl | rfl | rfl | rfl
      · exact ⟨.bk, rfl⟩
      · exact ⟨.ah, rfl⟩
      · exact ⟨.so, rfl⟩
      · exact ⟨.wh, rfl⟩
      · exact ⟨.la, rfl⟩
      · exact ⟨.sm, rfl⟩
    have sH1 := (Same.but s1).trans sb1
    refine ⟨_, rfl, _, rfl, p, l, N + 1, pen1, by omega, .inl ⟨a, xs.map V.str, rfl, sH1 _ _ nap ha, nap, by rw [List.length_map]; exact z0, by rw [List.length_map]; omega, fun j v H2 hj sb2 pen2 => ?_⟩⟩
    rw [List.getElem?_map] at hj
    obtain ⟨x, hx, rfl⟩ := Option.map_eq_some_iff.mp hj
    have nx := nms x (List.mem_of_getElem? hx)
    have sH2 := sH1.trans sb2
    -- a list is laid at the end
    have lay : ∀ {H' : Hp} {t : Addr} {M : Int}, PenAt H' p l M → H' t = none → t ≠ p := fun {H' t M} pn nt => let ⟨_, e⟩ := pn.lst; Ne.symm (ne_of_none e nt)
    have fin : ∀ (n : Int) (H' : Hp), SameBut p H H' → PenAt H' p l (N + 4) → NumOk k n → isNum k = true → 3 ≤ sizeLine ∧ ∀ t, H' t = none → Q (.ref t) (upd H' t (.lst [.str (wordOf k), .str (toString n : String), .str x])) := fun n H' sb pn ok e =>
      ⟨by decide, fun t nt => kk t k n x _ (sb.trans (Same.but (same_new nt))) (pn.same (same_new nt)) (by rw [upd_same]; unfold wordsT; rw [if_pos e]; rfl) (lay pn nt) nx ok⟩
    have fin0 : isNum k = false → 2 ≤ sizeLine ∧ ∀ t, H2 t = none → Q (.ref t) (upd H2 t (.lst [.str (wordOf k), .str x])) := fun e =>
      ⟨by decide, fun t nt => kk t k 0 x _ (sH2.trans (Same.but (same_new nt))) ((pen2.same (same_new nt)).le (by omega)) (by rw [upd_same]; unfold wordsT; rw [if_neg (by rw [e]; decide)]; rfl) (lay pen2 nt) nx ⟨by decide, (fun q => by rw [q] at e; cases e), by decide, fun _ => rfl⟩⟩
    refine ⟨_, _, rfl, _, rfl, rfl, _, rfl, ?_⟩
    cases k with
    | bk =>
      refine ite_eq ⟨_, rfl, _, rfl, _, rfl, p, l, N + 2, 61, rfl, pen2.le (by omega), by decide, log_small (by decide) (by decide), by omega, fun r H3 r0 r1 sb3 pen3 => ⟨(by show 5 ≤ sizeLine; decide), fun q3 n3 => ?_⟩⟩
      refine ⟨p, l, N + 3, (pen3.same (same_new n3)).le (by omega), by omega, .inl ⟨q3, _, rfl, upd_same, lay pen3 n3, (by show 0 < 5; decide), (by show 5 ≤ 1000; decide), fun j v H4 hj sb4 pen4 => ?_⟩⟩
      obtain ⟨m, rfl, m0, m1⟩ : ∃ m : Int, v = .int m ∧ 0 ≤ m ∧ m ≤ 60 := by
        have hv := List.mem_of_getElem? hj
        simp only [List.mem_cons, List.not_mem_nil, or_false] at hv
        rcases hv with rfl | rfl | rfl | rfl | rfl
        · exact ⟨_, rfl, by decide, by decide⟩
        · exact ⟨_, rfl, by decide, by decide⟩
        · exact ⟨_, rfl, by decide, by decide⟩
        · exact ⟨_, rfl, by decide, by decide⟩
        · exact ⟨_, rfl, by omega, by omega⟩
      exact ⟨m, rfl, log60 (by omega) (by omega), _, rfl, fin m H4 (sH2.trans (sb3.trans ((Same.but (same_new n3)).trans sb4))) (pen4.le (by omega)) ⟨m0, (fun q => nomatch q), m1, (fun q => nomatch q)⟩ rfl⟩
    | ah =>
      refine ite_ne (by decide +kernel) ⟨_, rfl, rfl, _, rfl, ite_eq ⟨_, rfl, _, rfl, _, rfl, p, l, N + 2, 60, rfl, pen2.le (by omega), by decide, log_small (by decide) (by decide), by omega, fun r H3 r0 r1 sb3 pen3 => ⟨_, _, rfl, rfl, (by show 3 ≤ sizeLine; decide), fun q3 n3 => ?_⟩⟩⟩
      refine ⟨p, l, N + 3, (pen3.same (same_new n3)).le (by omega), by omega, .inl ⟨q3, _, rfl, upd_same, lay pen3 n3, (by show 0 < 3; decide), (by show 3 ≤ 1000; decide), fun j v H4 hj sb4 pen4 => ?_⟩⟩
      obtain ⟨m, rfl, m0, m1⟩ : ∃ m : Int, v = .int m ∧ 1 ≤ m ∧ m ≤ 60 := by
        have hv := List.mem_of_getElem? hj
        simp only [List.mem_cons, List.not_mem_nil, or_false] at hv
        rcases hv with rfl | rfl | rfl
        · exact ⟨_, rfl, by decide, by decide⟩
        · exact ⟨_, rfl, by decide, by decide⟩
        · exact ⟨_, rfl, by omega, by omega⟩
      exact ⟨m, rfl, log60 (by omega) (by omega), _, rfl, fin m H4 (sH2.trans (sb3.trans ((Same.but (same_new n3)).trans sb4))) (pen4.le (by omega)) ⟨by omega, (fun _ => m0), m1, (fun q => nomatch q)⟩ rfl⟩
    | so => exact ite_ne (by decide +kernel) ⟨_, rfl, rfl, _, rfl, ite_ne (by decide +kernel) ⟨_, rfl, _, rfl, fin0 rfl⟩⟩
    | wh => exact ite_ne (by decide +kernel) ⟨_, rfl, rfl, _, rfl, ite_ne (by decide +kernel) ⟨_, rfl, _, rfl, fin0 rfl⟩⟩
    | la => exact ite_ne (by decide +kernel) ⟨_, rfl, rfl, _, rfl, ite_ne (by decide +kernel) ⟨_, rfl, _, rfl, fin0 rfl⟩⟩
    | sm => exact ite_ne (by decide +kernel) ⟨_, rfl, rfl, _, rfl, ite_ne (by decide +kernel) ⟨_, rfl, _, rfl, fin0 rfl⟩⟩
def spMade (G : Kd → Addr) : Sp := fun vs H Q _ => ∃ (t : Addr) (k : Kd) (n : Int) (x : Str), vs = [.ref t] ∧ H t = some (.lst ((wordsT k n x).map V.str)) ∧ NameOk x ∧ NumOk k n ∧ ∀ p H', Same H H' → TieX G H' p k n x → Q (.ref p) H'
theorem scMade : FnScope ["_law_told"] ["_law_told"] (defScope sMade) := ⟨rfl, rfl, rfl, by decide +kernel, rfl, by decide +kernel, by decide +kernel⟩
theorem ok_made {f : Addr} {fd : FuncData} (F : Fun K "_law_made_tie" "_law_made_tie" sMade f fd) (T : Txt K mg C fWhole fBetw fDay fChk) (Y : Ty K mg G cT cN fTI fNI fName) (M : MkT P w K mg base G cBN cBU fI dI) : FnOk P w K mg base CX0 6 f fd ["_law_told"] (spMade G) := by
  refine F.ok scMade (fun vs H Q E h => ?_) (fun cdv A outer s H vs Q E hr h => ?_)
  · obtain ⟨t, k, n, x, rfl, _⟩ := h
    rfl
  · obtain ⟨t, k, n, x, rfl, ht, nm, ok, kk⟩ := h
    refine ⟨_, pss_cons (ps_if (pt_cmpR op_eq (pe_ix ix_list (pv 0) pe_int (fun _ _ => rfl)) pe_str (nomark _)) (pss_one (ps_ret (pe_make (M.m .bk) (M.fn .bk rfl) hr rfl Y.gBk (M.bn .bk rfl) .nil passL (pa_cons (pe_ix ix_list (pv 0) pe_int (fun _ _ => rfl)) (pa_cons (pe_callTy call_int_str (by rfl) T.zInt (by decide +kernel) (pa_cons (pe_ix ix_list (pv 0) pe_int (fun _ _ => rfl)) pa_nil)) pa_nil))))) pss_nil)
      (pss_cons (ps_if (pt_cmpR op_eq (pe_ix ix_list (pv 0) pe_int (fun _ _ => rfl)) pe_str (nomark _)) (pss_one (ps_ret (pe_make (M.m .ah) (M.fn .ah rfl) hr rfl Y.gAh (M.bn .ah rfl) .nil passL (pa_cons (pe_ix ix_list (pv 0) pe_int (fun _ _ => rfl)) (pa_cons (pe_callTy call_int_str (by rfl) T.zInt (by decide +kernel) (pa_cons (pe_ix ix_list (pv 0) pe_int (fun _ _ => rfl)) pa_nil)) pa_nil))))) pss_nil)
      (pss_cons (ps_if (pt_cmpR op_eq (pe_ix ix_list (pv 0) pe_int (fun _ _ => rfl)) pe_str (nomark _)) (pss_one (ps_ret (pe_make (M.m .so) (M.fp .so rfl) hr rfl Y.gSo (M.bp .so rfl) .nil passL (pa_cons (pe_ix ix_list (pv 0) pe_int (fun _ _ => rfl)) pa_nil)))) pss_nil)
      (pss_cons (ps_if (pt_cmpR op_eq (pe_ix ix_list (pv 0) pe_int (fun _ _ => rfl)) pe_str (nomark _)) (pss_one (ps_ret (pe_make (M.m .wh) (M.fp .wh rfl) hr rfl Y.gWh (M.bp .wh rfl) .nil passL (pa_cons (pe_ix ix_list (pv 0) pe_int (fun _ _ => rfl)) pa_nil)))) pss_nil)
      (pss_one (ps_ret (pe_ifExp (pt_cmpR op_eq (pe_ix ix_list (pv 0) pe_int (fun _ _ => rfl)) pe_str (nomark _)) (pe_make (M.m .la) (M.fp .la rfl) hr rfl Y.gLa (M.bp .la rfl) .nil passL (pa_cons (pe_ix ix_list (pv 0) pe_int (fun _ _ => rfl)) pa_nil)) (pe_make (M.m .sm) (M.fp .sm rfl) hr rfl Y.gSm (M.bp .sm rfl) .nil passL (pa_cons (pe_ix ix_list (pv 0) pe_int (fun _ _ => rfl)) pa_nil)))))))), ?_⟩
    have md := made_ok (cBN := cBN) (cBU := cBU) (E := E0) nm ok kk
    have hs := SqL.of (K := K) ht
    have l3 : ((toString n : String) : Str).length ≤ 640 := Nat.le_trans (num_len ok.lo ok.hi) (by decide)
    cases k with
    | bk =>
      have w0 : ((wordsT .bk n x).map V.str)[0]? = some (.str (wordOf .bk)) := rfl
      have w1 : ((wordsT .bk n x).map V.str)[1]? = some (.str (toString n : String)) := rfl
      have w2 : ((wordsT .bk n x).map V.str)[2]? = some (.str x) := rfl
      exact ⟨_, rfl, t, _, _, _, rfl, rfl, hs, atI_nat (j := 0) w0, rfl, _, rfl, ite_eq ⟨_, rfl, t, _, _, _, rfl, rfl, hs, atI_nat (j := 2) w2, _, rfl, t, _, _, _, rfl, rfl, hs, atI_nat (j := 1) w1, _, n, rfl, num_int ⟨ok.lo, ok.hi⟩, l3, md.num rfl⟩⟩
    | ah =>
      have w0 : ((wordsT .ah n x).map V.str)[0]? = some (.str (wordOf .ah)) := rfl
      have w1 : ((wordsT .ah n x).map V.str)[1]? = some (.str (toString n : String)) := rfl
      have w2 : ((wordsT .ah n x).map V.str)[2]? = some (.str x) := rfl
      exact ⟨_, rfl, t, _, _, _, rfl, rfl, hs, atI_nat (j := 0) w0, rfl, _, rfl, ite_ne (by decide +kernel) ⟨_, rfl, t, _, _, _, rfl, rfl, hs, atI_nat (j := 0) w0, rfl, _, rfl, ite_eq ⟨_, rfl, t, _, _, _, rfl, rfl, hs, atI_nat (j := 2) w2, _, rfl, t, _, _, _, rfl, rfl, hs, atI_nat (j := 1) w1, _, n, rfl, num_int ⟨ok.lo, ok.hi⟩, l3, md.num rfl⟩⟩⟩
    | so =>
      have w0 : ((wordsT .so n x).map V.str)[0]? = some (.str (wordOf .so)) := rfl
      have w1 : ((wordsT .so n x).map V.str)[1]? = some (.str x) := rfl
      exact ⟨_, rfl, t, _, _, _, rfl, rfl, hs, atI_nat (j := 0) w0, rfl, _, rfl, ite_ne (by decide +kernel) ⟨_, rfl, t, _, _, _, rfl, rfl, hs, atI_nat (j := 0) w0, rfl, _, rfl, ite_ne (by decide +kernel) ⟨_, rfl, t, _, _, _, rfl, rfl, hs, atI_nat (j := 0) w0, rfl, _, rfl, ite_eq ⟨_, rfl, t, _, _, _, rfl, rfl, hs, atI_nat (j := 1) w1, md.pl rfl⟩⟩⟩⟩
    | wh =>
      have w0 : ((wordsT .wh n x).map V.str)[0]? = some (.str (wordOf .wh)) := rfl
      have w1 : ((wordsT .wh n x).map V.str)[1]? = some (.str x) := rfl
      exact ⟨_, rfl, t, _, _, _, rfl, rfl, hs, atI_nat (j := 0) w0, rfl, _, rfl, ite_ne (by decide +kernel) ⟨_, rfl, t, _, _, _, rfl, rfl, hs, atI_nat (j := 0) w0, rfl, _, rfl, ite_ne (by decide +kernel) ⟨_, rfl, t, _, _, _, rfl, rfl, hs, atI_nat (j := 0) w0, rfl, _, rfl, ite_ne (by decide +kernel) ⟨_, rfl, t, _, _, _, rfl, rfl, hs, atI_nat (j := 0) w0, rfl, _, rfl, ite_eq ⟨_, rfl, t, _, _, _, rfl, rfl, hs, atI_nat (j := 1) w1, md.pl rfl⟩⟩⟩⟩⟩
    | la =>
      have w0 : ((wordsT .la n x).map V.str)[0]? = some (.str (wordOf .la)) := rfl
      have w1 : ((wordsT .la n x).map V.str)[1]? = some (.str x) := rfl
      exact ⟨_, rfl, t, _, _, _, rfl, rfl, hs, atI_nat (j := 0) w0, rfl, _, rfl, ite_ne (by decide +kernel) ⟨_, rfl, t, _, _, _, rfl, rfl, hs, atI_nat (j := 0) w0, rfl, _, rfl, ite_ne (by decide +kernel) ⟨_, rfl, t, _, _, _, rfl, rfl, hs, atI_nat (j := 0) w0, rfl, _, rfl, ite_ne (by decide +kernel) ⟨_, rfl, t, _, _, _, rfl, rfl, hs, atI_nat (j := 0) w0, rfl, _, rfl, ite_ne (by decide +kernel) ⟨_, rfl, t, _, _, _, rfl, rfl, hs, atI_nat (j := 0) w0, rfl, _, rfl, ite_eq ⟨_, rfl, t, _, _, _, rfl, rfl, hs, atI_nat (j := 1) w1, md.pl rfl⟩⟩⟩⟩⟩⟩
    | sm =>
      have w0 : ((wordsT .sm n x).map V.str)[0]? = some (.str (wordOf .sm)) := rfl
      have w1 : ((wordsT .sm n x).map V.str)[1]? = some (.str x) := rfl
      exact ⟨_, rfl, t, _, _, _, rfl, rfl, hs, atI_nat (j := 0) w0, rfl, _, rfl, ite_ne (by decide +kernel) ⟨_, rfl, t, _, _, _, rfl, rfl, hs, atI_nat (j := 0) w0, rfl, _, rfl, ite_ne (by decide +kernel) ⟨_, rfl, t, _, _, _, rfl, rfl, hs, atI_nat (j := 0) w0, rfl, _, rfl, ite_ne (by decide +kernel) ⟨_, rfl, t, _, _, _, rfl, rfl, hs, atI_nat (j := 0) w0, rfl, _, rfl, ite_ne (by decide +kernel) ⟨_, rfl, t, _, _, _, rfl, rfl, hs, atI_nat (j := 0) w0, rfl, _, rfl, ite_ne (by decide +kernel) ⟨_, rfl, t, _, _, _, rfl, rfl, hs, atI_nat (j := 1) w1, md.pl rfl⟩⟩⟩⟩⟩⟩
end
end My
namespace My
open PySem PySem.Spec PyProof.Rows L2
abbrev sIsName : Stmt := top 36
abbrev sIsNum : Stmt := top 37
abbrev sDue : Stmt := top 39
theorem lc_its {x : Str} {g : TG} {tt : TT} {te : TE} {vs : List Nat} {σ : L2.St} {H1 : Hp} {D : Addr} {Qd : Hp → Prop} (Pv : Nat → Hp → Prop) (h0 : Pv 0 (upd H1 D (.lst [])))
    (hs : ∀ i c H, x.cps[i]? = some c → Pv i H → g (.str ⟨#[c]⟩) (wipe σ vs) H fun σ2 H2 => wipe σ2 vs = wipe σ vs ∧ tt σ2 H2 fun b H3 =>
      if b = true then te σ2 H3 fun y H4 => ∃ acc, H4 D = some (.lst acc) ∧ acc.length < sizeLine ∧ Pv (i + 1) (upd H4 D (.lst (acc ++ [y]))) else Pv (i + 1) H3) (hd : ∀ H, Pv x.cps.size H → Qd H) :
    ∃ W : Nat → Nat → Hp → Prop, (∃ m, W 0 m (upd H1 D (.lst []))) ∧ ∀ i m H, W i m H →
      ((Its x).stop i H ∧ Qd H) ∨ ((Its x).go i H ∧ ∃ Nx : Hp → Prop, (∀ H', Nx H' → ∃ m', m' < m ∧ W (i + 1) m' H') ∧ ∀ y H', (Its x).yld i H y H' → g y (wipe σ vs) H' fun σ2 H2 => wipe σ2 vs = wipe σ vs ∧ tt σ2 H2 fun b H3 =>
        if b = true then te σ2 H3 fun y H4 => ∃ acc, H4 D = some (.lst acc) ∧ acc.length < sizeLine ∧ Nx (upd H4 D (.lst (acc ++ [y]))) else Nx H3) := by
  refine ⟨fun i m H => m = x.cps.size - i ∧ i ≤ x.cps.size ∧ Pv i H, ⟨x.cps.size, by simp, Nat.zero_le _, h0⟩, ?_⟩
  rintro i m H ⟨rfl, hi, p⟩
  by_cases hlt : i < x.cps.size
  · refine .inr ⟨hlt, Pv (i + 1), fun H' p' => ⟨x.cps.size - (i + 1), by omega, rfl, hlt, p'⟩, fun y H' q => ?_⟩
    obtain ⟨rfl, c, hc, rfl⟩ := q
    exact hs i c _ hc p
  · have e : i = x.cps.size := by omega
    subst e
    exact .inl ⟨Nat.le_refl _, hd H p⟩
theorem inV_strs (x : Str) : ∀ l : List Str, inV (.str x) (l.map V.str) = l.contains x
  | [] => rfl
  | a :: r => by
    have ih := inV_strs x r
    rw [List.contains_cons, ← ih]
    show ((a == x) || inV (.str x) (r.map V.str)) = ((x == a) || inV (.str x) (r.map V.str))
    rw [show (a == x) = (x == a) from by rw [Bool.eq_iff_iff, beq_iff_eq, beq_iff_eq, eq_comm]]
theorem dp_strs {K : PySem.W.Frag} {H : Hp} : ∀ xs : List Str, DpAll K H (xs.map V.str) (xs.map PyData.str)
  | [] => .nil
  | a :: r => .cons (.str a) (dp_strs r)
theorem eqv_nil : ∀ xs : List Str, PyData.eqv (.list (xs.map PyData.str)) (.list []) = xs.isEmpty
  | [] => rfl
  | _ :: _ => rfl
theorem chars_at {x : Str} {i c : Nat} (h : x.cps[i]? = some c) : (charsW x)[i]? = some (⟨#[c]⟩ : Str) := by
  unfold charsW
  rw [List.getElem?_map, Array.getElem?_toList, h]
  rfl
theorem chars_len (x : Str) : (charsW x).length = x.cps.size := by
  unfold charsW
  rw [List.length_map, Array.length_toList]
def wrongV : HeadT → V
  | .bad j => .int (j : Nat)
  | .tie .. => .non
def nameO (ws : List Str) (i : Nat) : Bool := match ws[i]? with
  | some x => nameB x
  | none => false
def numO (lo : Int) (ws : List Str) (i : Nat) : Bool := match ws[i]? with
  | some x => okL lo x
  | none => false
section
variable {P : Program} {w : World} {K : PySem.W.Frag} {mg : Str → Option Value} {base : Heap} {C fWhole fBetw fDay fChk fIn fIm : Addr} {dIn dIm : FuncData}
def spIsName : Sp := fun vs H Q _ => ∃ (L : Addr) (ws : List Str) (i : Nat), vs = [.ref L, .int (i : Nat)] ∧ H L = some (.lst (ws.map V.str)) ∧ (∀ x ∈ ws, WOk x) ∧ ws.length ≤ 200 ∧ ∀ H', Same H H' → Q (.bl (nameO ws i)) H'
theorem scIsName : FnScope ["_law_words", "_law_at", "_law_sign"] ["_law_words", "_law_at"] (defScope sIsName) := ⟨rfl, rfl, rfl, by decide +kernel, rfl, by decide +kernel, by decide +kernel⟩
theorem ok_isName {f : Addr} {fd : FuncData} (F : Fun K "_law_is_name" "_law_is_name" sIsName f fd) (T : Txt K mg C fWhole fBetw fDay fChk) : FnOk P w K mg base CX0 1 f fd ["_law_words", "_law_at"] spIsName := by
  refine F.ok scIsName (fun vs H Q E h => ?_) (fun cdv A outer s H vs Q E hr h => ?_)
  · obtain ⟨L, ws, i, rfl, _⟩ := h
    rfl
  · obtain ⟨L, ws, i, rfl, hL, mem, few, kk⟩ := h
    refine ⟨_, pss_cons (ps_if (PW.pt (pw_or (pt_cmpR op_ge (pv 1) (pe_callB call_len_seq (by rfl) T.zLen PySem.boot_len (pa_cons (pv 0) pa_nil)) (nomark _)) (pw_or1 (pt_not (pt_chain op_le op_le pe_int (pe_callB call_len_str (by rfl) T.zLen PySem.boot_len (pa_cons (pe_ix ix_list (pv 0) (pv 1) (fun _ _ => rfl)) pa_nil)) pe_int))))) (pss_one (ps_ret pe_bl)) pss_nil)
      (pss_one (ps_ret (pe_cmpR (op_eqD hr.units) (pe_lc (own := [("_law_sign", 2)]) (g := gName 2) rfl scIsName.nd (pi_str (pe_ix ix_list (pv 0) (pv 1) (fun _ _ => rfl)))
            (blkOk_by (N := ["_law_words", "_law_at", "_law_sign"]) (sc := defScope sIsName) (by decide +kernel)) (fun _ _ _ _ _ => pg_name (i := 2) scIsName.nd rfl (Or.inl rfl)) (fun _ _ _ _ _ => pts_one (pt_cmpR op_notIn_str (pv 2) pe_str (by rfl)))
            (fun _ _ _ _ _ => pv 2)) (pe_lst pa_nil) (nomark _)))), ?_⟩
    refine ⟨_, rfl, _, rfl, L, _, rfl, .inl (SqL.of hL), _, _, rfl, rfl, _, rfl, ?_⟩
    rw [List.length_map]
    by_cases c : ws.length ≤ i
    · have e : nameO ws i = false := by unfold nameO; rw [List.getElem?_eq_none c]
      have k0 := kk H (Same.refl H)
      rw [e] at k0
      rw [decide_eq_true (by omega)]
      exact iteT k0
    · rw [decide_eq_false (by omega)]
      obtain ⟨x, hx⟩ : ∃ x, ws[i]? = some x := ⟨_, List.getElem?_eq_getElem (by omega)⟩
      have e : nameO ws i = nameB x := by unfold nameO; rw [hx]
      rw [e] at kk
      have mx := mem x (List.mem_of_getElem? hx)
      have lx := W_len mx
      have sg := W_sg mx
      have ra : (ws.map V.str)[i]? = some (.str x) := by rw [List.getElem?_map, hx]; rfl
      refine iteF ⟨_, rfl, _, rfl, L, _, _, _, rfl, rfl, SqL.of hL, atI_nat ra, _, rfl, Nat.le_of_lt (small1000 (by omega)), _, _, rfl, rfl, _, rfl, ?_⟩
      by_cases c1 : 1 ≤ (x.length : Int)
      · rw [decide_eq_true c1] at sg ⊢
        refine iteT ⟨_, _, rfl, rfl, _, rfl, ?_⟩
        by_cases c8 : (x.length : Int) ≤ 8
        · rw [decide_eq_true c8] at sg ⊢
          refine iteF ⟨_, rfl, _, rfl, L, _, _, _, rfl, rfl, SqL.of hL, atI_nat ra, x, rfl, fun D hD => ?_⟩
          refine lc_its (x := x) (fun j H' => H' D = some (.lst ((((charsW x).take j).filter outW).map V.str)) ∧ ∀ b o, b ≠ D → H b = some o → H' b = some o) ⟨upd_same, fun b o nb e => by rw [upd_ne nb]; exact e⟩ ?_ ?_
          · rintro j ch H6 hc ⟨hA, q⟩
            have hc' := chars_at hc
            refine ⟨rfl, ⟨_, rfl, _, _, rfl, rfl, _, rfl, ?_⟩⟩
            show if outW ⟨#[ch]⟩ = true then _ else _
            cases e : outW ⟨#[ch]⟩ with
            | true =>
              refine iteT ⟨_, rfl, _, hA, ?_, ?_, fun b o nb e => ?_⟩
              · rw [List.length_map]
                exact small1000 (Nat.le_trans (List.length_filter_le _ _) (Nat.le_trans (List.length_take_le _ _) (by have := (Array.getElem?_eq_some_iff.mp hc).1; have l2 : x.length = x.cps.size := rfl; omega)))
              · rw [upd_same, List.take_succ, hc', List.filter_append]
                simp [e]
              · rw [upd_ne nb]
                exact q b o nb e
            | false =>
              refine iteF ⟨?_, q⟩
              rw [hA, List.take_succ, hc', List.filter_append]
              simp [e]
          · rintro H6 ⟨hD6, q⟩
            have s6 : Same H H6 := fun b o e => q b o (ne_of_none e hD) e
            rw [List.take_of_length_le (by rw [chars_len]; exact Nat.le_refl _)] at hD6
            refine ⟨Nat.zero_le _, fun u nu => ?_⟩
            have s7 := same_new (o := .lst []) nu
            refine ⟨.list ((signsW x).map PyData.str), .list [], .lst (SqL.of (s7 _ _ hD6)) (dp_strs _), .lst (SqL.of upd_same) .nil, W_shW mx, PySem.W.shaped_ints [], ?_⟩
            rw [eqv_nil, show (signsW x).isEmpty = nameB x from sg]
            exact kk _ (s6.trans s7)
        · rw [decide_eq_false c8] at sg ⊢
          have k0 := kk H (Same.refl H)
          rw [← sg] at k0
          exact iteT k0
      · rw [decide_eq_false c1] at sg ⊢
        have k0 := kk H (Same.refl H)
        rw [← sg] at k0
        exact iteF ⟨_, rfl, iteT k0⟩
def spIsNum : Sp := fun vs H Q _ => ∃ (L : Addr) (ws : List Str) (i : Nat) (lo : Int), vs = [.ref L, .int (i : Nat), .int lo, .int 60] ∧ H L = some (.lst (ws.map V.str)) ∧ (∀ x ∈ ws, WOk x) ∧ ws.length ≤ 200 ∧ (lo = 0 ∨ lo = 1) ∧ ∀ H', Same H H' → Q (.bl (numO lo ws i)) H'
theorem scIsNum : FnScope ["_law_words", "_law_at", "_law_least", "_law_most", "_law_sign"] ["_law_words", "_law_at", "_law_least", "_law_most"] (defScope sIsNum) := ⟨rfl, rfl, rfl, by decide +kernel, rfl, by decide +kernel, by decide +kernel⟩
theorem ok_isNum {f : Addr} {fd : FuncData} (F : Fun K "_law_is_number" "_law_is_number" sIsNum f fd) (T : Txt K mg C fWhole fBetw fDay fChk) : FnOk P w K mg base CX0 1 f fd ["_law_words", "_law_at", "_law_least", "_law_most"] spIsNum := by
  refine F.ok scIsNum (fun vs H Q E h => ?_) (fun cdv A outer s H vs Q E hr h => ?_)
  · obtain ⟨L, ws, i, lo, rfl, _⟩ := h
    rfl
  · obtain ⟨L, ws, i, lo, rfl, hL, mem, few, hlo, kk⟩ := h
    refine ⟨_, pss_cons (ps_if (PW.pt (pw_or (pt_cmpR op_ge (pv 1) (pe_callB call_len_seq (by rfl) T.zLen PySem.boot_len (pa_cons (pv 0) pa_nil)) (nomark _)) (pw_or1 (pt_not (pt_chain op_le op_le pe_int (pe_callB call_len_str (by rfl) T.zLen PySem.boot_len (pa_cons (pe_ix ix_list (pv 0) (pv 1) (fun _ _ => rfl)) pa_nil)) pe_int))))) (pss_one (ps_ret pe_bl)) pss_nil)
      (pss_cons (ps_if (PW.pt (pw_or (pt_cmpR (op_neD hr.units) (pe_lc (own := [("_law_sign", 4)]) (g := gName 4) rfl scIsNum.nd (pi_str (pe_ix ix_list (pv 0) (pv 1) (fun _ _ => rfl)))
            (blkOk_by (N := ["_law_words", "_law_at", "_law_least", "_law_most", "_law_sign"]) (sc := defScope sIsNum) (by decide +kernel)) (fun _ _ _ _ _ => pg_name (i := 4) scIsNum.nd rfl (Or.inl rfl)) (fun _ _ _ _ _ => pts_one (pt_cmpR op_notIn_str (pv 4) pe_str (by rfl)))
            (fun _ _ _ _ _ => pv 4)) (pe_lst pa_nil) (nomark _)) (pw_or1 (PW.pt (pw_and (pt_cmpR op_eq (pe_ix ix_str (pe_ix ix_list (pv 0) (pv 1) (fun _ _ => rfl)) pe_int (fun _ _ => rfl)) pe_str (nomark _)) (pw_and1 (pt_cmpR op_ne (pe_ix ix_list (pv 0) (pv 1) (fun _ _ => rfl)) pe_str (nomark _)))))))) (pss_one (ps_ret pe_bl)) pss_nil)
      (pss_one (ps_ret (pe_chain op_le op_le (pv 2) (pe_callTy call_int_str (by rfl) T.zInt (by decide +kernel) (pa_cons (pe_ix ix_list (pv 0) (pv 1) (fun _ _ => rfl)) pa_nil)) (pv 3))))), ?_⟩
    refine ⟨_, rfl, _, rfl, L, _, rfl, .inl (SqL.of hL), _, _, rfl, rfl, _, rfl, ?_⟩
    rw [List.length_map]
    by_cases c : ws.length ≤ i
    · have e : numO lo ws i = false := by unfold numO; rw [List.getElem?_eq_none c]
      have k0 := kk H (Same.refl H)
      rw [e] at k0
      rw [decide_eq_true (by omega)]
      exact iteT k0
    · rw [decide_eq_false (by omega)]
      obtain ⟨x, hx⟩ : ∃ x, ws[i]? = some x := ⟨_, List.getElem?_eq_getElem (by omega)⟩
      have mx := mem x (List.mem_of_getElem? hx)
      have e : numO lo ws i = okN lo x := by unfold numO; rw [hx, W_okN mx hlo]
      rw [e] at kk
      have lx := W_len mx
      have ra : (ws.map V.str)[i]? = some (.str x) := by rw [List.getElem?_map, hx]; rfl
      have noN : numL x = none → ∀ H', Same H H' → Q (.bl false) H' := fun z H' s => by
        have k0 := kk H' s
        unfold okN at k0
        rw [z] at k0
        exact k0
      refine iteF ⟨_, rfl, _, rfl, L, _, _, _, rfl, rfl, SqL.of hL, atI_nat ra, _, rfl, Nat.le_of_lt (small1000 (by omega)), _, _, rfl, rfl, _, rfl, ?_⟩
      by_cases c1 : 1 ≤ (x.length : Int)
      · rw [decide_eq_true c1]
        refine iteT ⟨_, _, rfl, rfl, _, rfl, ?_⟩
        by_cases c8 : (x.length : Int) ≤ 60
        · rw [decide_eq_true c8]
          refine iteF ⟨_, rfl, _, rfl, L, _, _, _, rfl, rfl, SqL.of hL, atI_nat ra, x, rfl, fun D hD => ?_⟩
          refine lc_its (x := x) (fun j H' => H' D = some (.lst ((((charsW x).take j).filter outD).map V.str)) ∧ ∀ b o, b ≠ D → H b = some o → H' b = some o) ⟨upd_same, fun b o nb e => by rw [upd_ne nb]; exact e⟩ ?_ ?_
          · rintro j ch H6 hc ⟨hA, q⟩
            have hc' := chars_at hc
            refine ⟨rfl, ⟨_, rfl, _, _, rfl, rfl, _, rfl, ?_⟩⟩
            show if outD ⟨#[ch]⟩ = true then _ else _
            cases e : outD ⟨#[ch]⟩ with
            | true =>
              refine iteT ⟨_, rfl, _, hA, ?_, ?_, fun b o nb e => ?_⟩
              · rw [List.length_map]
                exact small1000 (Nat.le_trans (List.length_filter_le _ _) (Nat.le_trans (List.length_take_le _ _) (by have := (Array.getElem?_eq_some_iff.mp hc).1; have l2 : x.length = x.cps.size := rfl; omega)))
              · rw [upd_same, List.take_succ, hc', List.filter_append]
                simp [e]
              · rw [upd_ne nb]
                exact q b o nb e
            | false =>
              refine iteF ⟨?_, q⟩
              rw [hA, List.take_succ, hc', List.filter_append]
              simp [e]
          · rintro H6 ⟨hD6, q⟩
            have s6 : Same H H6 := fun b o e => q b o (ne_of_none e hD) e
            rw [List.take_of_length_le (by rw [chars_len]; exact Nat.le_refl _)] at hD6
            refine ⟨Nat.zero_le _, fun u nu => ?_⟩
            have s7 := same_new (o := .lst []) nu
            refine ⟨.list ((signsD x).map PyData.str), .list [], .lst (SqL.of (s7 _ _ hD6)) (dp_strs _), .lst (SqL.of upd_same) .nil, W_shD mx, PySem.W.shaped_ints [], _, rfl, ?_⟩
            rw [eqv_nil]
            have sA := s6.trans s7
            have hLA := sA _ _ hL
            generalize upd H6 u (.lst []) = HA at sA hLA ⊢
            cases ed : (signsD x).isEmpty with
            | false => exact iteT (noN (by unfold numL; rw [ed, Bool.false_and, Bool.and_false, Bool.and_false, if_neg (by decide)]) _ sA)
            | true =>
              obtain ⟨ch, hch⟩ : ∃ ch, x.cps.toList[0]? = some ch := ⟨_, List.getElem?_eq_getElem (by rw [Array.length_toList]; have l2 : x.length = x.cps.size := rfl; omega)⟩
              have h0 : (charsW x)[0]? = some (⟨#[ch]⟩ : Str) := by unfold charsW; rw [List.getElem?_map, hch]; rfl
              have nl : numL x = if (!(decide ((⟨#[ch]⟩ : Str) = "0") && !decide (x = ("0" : Str)))) = true then PySem.intText? x else none := by
                unfold numL
                rw [h0, ed, decide_eq_true c1, decide_eq_true c8, Bool.true_and, Bool.true_and, Bool.true_and]
                congr 1
                simp
              obtain ⟨n, hn⟩ := W_dig mx ed c1 c8
              have go : numL x = some n → ∀ H', Same H H' → Q (.bl (decide (lo ≤ n) && decide (n ≤ 60))) H' := fun z H' s => by
                have k0 := kk H' s
                unfold okN at k0
                rw [z] at k0
                exact k0
              refine iteF ⟨_, rfl, _, rfl, L, _, _, _, rfl, rfl, SqL.of hLA, atI_nat ra, x, 0, ch, rfl, rfl, Nat.le_of_lt (small1000 (by omega)), atI_nat (j := 0) hch, rfl, _, rfl, ?_⟩
              have e1 : decide (V.str ⟨#[ch]⟩ = V.str "0") = decide ((⟨#[ch]⟩ : Str) = "0") := by
                rw [Bool.eq_iff_iff, decide_eq_true_eq, decide_eq_true_eq]
                exact ⟨fun z => V.str.inj z, fun z => by rw [z]⟩
              have e2 : decide (V.str x = V.str "0") = decide (x = ("0" : Str)) := by
                rw [Bool.eq_iff_iff, decide_eq_true_eq, decide_eq_true_eq]
                exact ⟨fun z => V.str.inj z, fun z => by rw [z]⟩
              rw [e1]
              cases d0 : decide ((⟨#[ch]⟩ : Str) = "0") with
              | false =>
                rw [d0, Bool.false_and, Bool.not_false, if_pos rfl, hn] at nl
                have g := go nl _ sA
                refine iteF ⟨_, rfl, _, rfl, _, rfl, L, _, _, _, rfl, rfl, SqL.of hLA, atI_nat ra, x, n, rfl, hn, by omega, _, _, rfl, rfl, _, rfl, ?_⟩
                by_cases cl : lo ≤ n
                · rw [decide_eq_true cl] at g ⊢
                  exact iteT ⟨_, rfl, _, _, rfl, rfl, g⟩
                · rw [decide_eq_false cl] at g ⊢
                  exact iteF g
              | true =>
                rw [d0, Bool.true_and, Bool.not_not] at nl
                refine iteT ⟨_, rfl, _, rfl, L, _, _, _, rfl, rfl, SqL.of hLA, atI_nat ra, rfl, _, rfl, ?_⟩
                rw [e2]
                cases d1 : decide (x = ("0" : Str)) with
                | false =>
                  rw [d1, if_neg (by decide)] at nl
                  exact iteT (noN nl _ sA)
                | true =>
                  rw [d1, if_pos rfl, hn] at nl
                  have g := go nl _ sA
                  refine iteF ⟨_, rfl, _, rfl, _, rfl, L, _, _, _, rfl, rfl, SqL.of hLA, atI_nat ra, x, n, rfl, hn, by omega, _, _, rfl, rfl, _, rfl, ?_⟩
                  by_cases cl : lo ≤ n
                  · rw [decide_eq_true cl] at g ⊢
                    exact iteT ⟨_, rfl, _, _, rfl, rfl, g⟩
                  · rw [decide_eq_false cl] at g ⊢
                    exact iteF g
        · rw [decide_eq_false c8]
          exact iteT (noN (by unfold numL; rw [decide_eq_false c8, Bool.false_and, Bool.and_false, if_neg (by decide)]) _ (Same.refl H))
      · rw [decide_eq_false c1]
        exact iteF ⟨_, rfl, iteT (noN (by unfold numL; rw [decide_eq_false c1, Bool.false_and, if_neg (by decide)]) _ (Same.refl H))⟩
def spDue : Sp := fun vs H Q _ => ∃ ws : List Str, vs = [.str (Txt.join " " ws)] ∧ LineOk ws ∧ ∀ H', Same H H' → Q (wrongV (outT ws)) H'
theorem scDue : FnScope ["_law_line", "_law_words", "_law_at"] ["_law_line"] (defScope sDue) := ⟨rfl, rfl, rfl, by decide +kernel, rfl, by decide +kernel, by decide +kernel⟩
theorem ok_due {f : Addr} {fd : FuncData} (F : Fun K "_law_due" "_law_due" sDue f fd) (T : Txt K mg C fWhole fBetw fDay fChk) (NF : Df P w K mg base "_law_is_name" 1 fIn dIn ["_law_words", "_law_at"] spIsName) (MF : Df P w K mg base "_law_is_number" 1 fIm dIm ["_law_words", "_law_at", "_law_least", "_law_most"] spIsNum) :
    FnOk P w K mg base CX0 2 f fd ["_law_line"] spDue := by
  refine F.ok scDue (fun vs H Q E h => ?_) (fun cdv A outer s H vs Q E hr h => ?_)
  · obtain ⟨ws, rfl, _⟩ := h
    rfl
  · obtain ⟨ws, rfl, lo, kk⟩ := h
    refine ⟨_, pss_cons (ps_par (i := 1) (j := 2) rfl scDue.nd rfl rfl (by decide) rfl rfl (pa_cons (pe_split (pv 0) pe_str) (pa_cons pe_int pa_nil)) rfl)
      (pss_cons (ps_if (pt_cmpR op_notIn_seq (pe_ix ix_list (pv 1) pe_int (fun _ _ => rfl)) (pe_tup (pa_cons pe_str (pa_cons pe_str (pa_cons pe_str (pa_cons pe_str (pa_cons pe_str (pa_cons pe_str pa_nil))))))) (by rfl)) (pss_one (ps_ret pe_int)) pss_nil)
      (C8.pss_cut (ps_if (pt_cmpR op_in_seq (pe_ix ix_list (pv 1) pe_int (fun _ _ => rfl)) (pe_tup (pa_cons pe_str (pa_cons pe_str pa_nil))) (by rfl))
        (pss_cons (ps_if (pt_not (pt_val (pe_call MF.F hr rfl MF.g MF.kp MF.b .nil pass0 (pa_cons (pv 1) (pa_cons pe_int (pa_cons (pe_callTy call_int1 (by rfl) T.zInt (by decide +kernel) (pa_cons (pe_cmpR op_eq (pe_ix ix_list (pv 1) pe_int (fun _ _ => rfl)) pe_str (nomark _)) pa_nil)) (pa_cons pe_int pa_nil))))))) (pss_one (ps_ret pe_int)) pss_nil)
        (pss_one (ps_set (i := 2) scDue.nd rfl (Or.inl rfl) pe_int))) pss_nil)
      (pss_cons (ps_if (pt_not (pt_val (pe_call NF.F hr rfl NF.g NF.kp NF.b .nil pass0 (pa_cons (pv 1) (pa_cons (pv 2) pa_nil))))) (pss_one (ps_ret (pv 2))) pss_nil)
      (pss_one (ps_ret (pe_ifExp (pt_cmpR op_eq (pe_callB call_len_seq (by rfl) T.zLen PySem.boot_len (pa_cons (pv 1) pa_nil)) (pe_op op_add (pv 2) pe_int) (nomark _)) pe_non (pe_op op_add (pv 2) pe_int))))))), ?_⟩
    have ll := line_len lo.mem
    have hf := lo.few
    have n0 : 0 < ws.length := by
      cases hw : ws with
      | nil => exact absurd hw lo.ne
      | cons a r => simp
    obtain ⟨w0, h0⟩ : ∃ x, ws[0]? = some x := ⟨_, List.getElem?_eq_getElem n0⟩
    have r0 : (ws.map V.str)[0]? = some (.str w0) := by rw [List.getElem?_map, h0]; rfl
    refine ⟨_, rfl, ⟨_, rfl⟩, _, " ", rfl, rfl, by decide +kernel, (by rw [sizeLine_eq]; omega), fun L nL => ?_⟩
    rw [split_W lo.ne lo.mem]
    have s1 := same_new (o := .lst (ws.map V.str)) nL
    have hL := upd_same (H := H) (a := L) (o := .lst (ws.map V.str))
    generalize upd H L (.lst (ws.map V.str)) = H1 at s1 hL ⊢
    refine ⟨_, _, rfl, _, rfl, L, _, _, _, rfl, rfl, SqL.of hL, atI_nat (j := 0) r0, (by show 6 ≤ sizeLine; decide), fun S nS => ?_⟩
    have s2 := same_new (o := .tup [.str "back", .str "ahead", .str "sofar", .str "whole", .str "last", .str "same"]) nS
    refine ⟨S, kinds.map V.str, rfl, .inr (SqT.of upd_same), rfl, by rfl, _, rfl, ?_⟩
    rw [inV_strs]
    have hL2 := s2 _ _ hL
    have s12 := s1.trans s2
    change if (if true = true then _ else _) = true then _ else _
    generalize (upd H1 S (.tup [.str "back", .str "ahead", .str "sofar", .str "whole", .str "last", .str "same"])) = H2 at s2 hL2 s12 ⊢
    cases hk : kindW w0 with
    | none =>
      have c : kinds.contains w0 = false := by
        rw [Bool.eq_false_iff]
        intro z
        exact kind_none hk (List.contains_iff_mem.mp z)
      rw [c]
      have e : outT ws = .bad 0 := by unfold outT headT; rw [h0]; dsimp only; rw [hk]
      have k0 := kk H2 s12
      rw [e] at k0
      exact iteT k0
    | some k =>
      have c : kinds.contains w0 = true := List.contains_iff_mem.mpr (kind_in hk)
      rw [c]
      have hh := head_kind h0 hk
      obtain rfl := kind_some hk
      refine iteF ⟨fun σ' H' => ∃ (a : Nat) (n : Int), σ' = [some (.str (Txt.join " " ws)), some (.ref L), some (.int (a : Nat))] ∧ headT ws = nameT ws k n a ∧ Same H2 H', ?_, ?_⟩
      · refine ⟨_, rfl, L, _, _, _, rfl, rfl, SqL.of hL2, atI_nat (j := 0) r0, (by show 2 ≤ sizeLine; decide), fun T2 nT2 => ?_⟩
        have s3 := same_new (o := .tup [.str "back", .str "ahead"]) nT2
        refine ⟨T2, _, rfl, .inr (SqT.of upd_same), rfl, by rfl, _, rfl, ?_⟩
        have hL3 := s3 _ _ hL2
        have s13 := s12.trans s3
        generalize upd H2 T2 (.tup [.str "back", .str "ahead"]) = H3 at s3 hL3 s13 ⊢
        refine inV_two (fun hn => ?_) (fun hn => ?_)
        · rw [if_pos hn] at hh
          have hl0 : (if decide (V.str (wordOf k) = V.str "ahead") = true then (1 : Int) else 0) = loOf k := by
            cases k with
            | bk => rw [decide_eq_false (fun z => absurd (V.str.inj z) (by decide +kernel))]; rfl
            | ah => rw [decide_eq_true (show V.str (wordOf .ah) = V.str "ahead" from rfl)]; rfl
            | _ => cases hn
          refine ⟨_, rfl, _, rfl, L, _, _, _, rfl, rfl, SqL.of hL3, atI_nat (j := 0) r0, rfl, .inr ⟨_, rfl, L, ws, 1, loOf k, by rw [hl0]; rfl, hL3, lo.mem, hf, by cases k <;> first | exact .inl rfl | exact .inr rfl, fun H4 s4 => ?_⟩⟩
          refine ⟨_, rfl, ?_⟩
          cases e : numO (loOf k) ws 1 with
          | false =>
            have e2 : headT ws = .bad 1 := by
              rw [hh]
              unfold numO at e
              cases q : ws[1]? with
              | none => rfl
              | some v => rw [q] at e; dsimp only at e ⊢; rw [if_neg (by rw [e]; decide)]
            have e3 : outT ws = .bad 1 := by unfold outT; rw [e2]
            have k0 := kk H4 (s13.trans s4)
            rw [e3] at k0
            exact iteT k0
          | true =>
            unfold numO at e
            cases q : ws[1]? with
            | none => rw [q] at e; cases e
            | some v =>
              rw [q] at e hh
              dsimp only at e hh
              rw [if_pos e] at hh
              exact iteF ⟨2, _, rfl, hh, s3.trans s4⟩
        · rw [if_neg (by rw [hn]; decide)] at hh
          exact ⟨1, 0, rfl, hh, s3⟩
      · rintro σ' H5 ⟨a, n, rfl, he, s5⟩
        have hL5 := s5 _ _ hL2
        have s15 := s12.trans s5
        refine ⟨_, rfl, _, rfl, L, ws, a, rfl, hL5, lo.mem, hf, fun H6 s6 => ⟨_, rfl, ?_⟩⟩
        have s16 := s15.trans s6
        have k0 := kk H6 s16
        unfold nameT at he
        cases e : nameO ws a with
        | false =>
          have e2 : headT ws = .bad a := by
            rw [he]
            unfold nameO at e
            cases q : ws[a]? with
            | none => rfl
            | some v => rw [q] at e; dsimp only at e ⊢; rw [if_neg (by rw [e]; decide)]
          have e3 : outT ws = .bad a := by unfold outT; rw [e2]
          rw [e3] at k0
          exact iteT ⟨_, rfl, k0⟩
        | true =>
          unfold nameO at e
          cases q : ws[a]? with
          | none => rw [q] at e; cases e
          | some x =>
            rw [q] at e he
            dsimp only at e he
            rw [if_pos e] at he
            have e2 : outT ws = if a + 1 = ws.length then .tie k n x (a + 1) else .bad (a + 1) := by unfold outT; rw [he]
            refine iteF ⟨_, rfl, L, _, rfl, .inl (SqL.of (s6 _ _ hL5)), _, rfl, _, _, rfl, rfl, rfl, _, rfl, ?_⟩
            rw [List.length_map]
            by_cases ce : a + 1 = ws.length
            · rw [if_pos ce] at e2
              rw [e2] at k0
              rw [decide_eq_true (show V.int (ws.length : Nat) = V.int ((a : Int) + 1) by rw [show (ws.length : Int) = (a : Int) + 1 by omega])]
              exact iteT k0
            · rw [if_neg ce] at e2
              rw [e2] at k0
              rw [decide_eq_false (fun z => ce (by have := V.int.inj z; omega))]
              exact iteF ⟨_, rfl, _, _, rfl, rfl, k0⟩
end
end My
namespace My
open PySem PySem.Spec PyProof.Rows L2
abbrev sKinds : Stmt := top 40
abbrev sBent : Stmt := top 41
theorem tails_all : tails.all (fun t => decide (3 ≤ t.length) || (tails.contains (t ++ "0") && tails.contains (t ++ "z"))) = true := by decide +kernel
theorem wlv_up {n m : Nat} {w : Str} (h : WLv n w) (z : n ≤ m) : WLv m w := by
  rcases h with ⟨b, hb, t, ht, l, e⟩ | h
  · exact .inl ⟨b, hb, t, ht, by omega, e⟩
  · exact .inr ⟨h.hd, h.al, by have := h.len; omega⟩
theorem len_app (a b : Str) : (a ++ b).length = a.length + b.length := Array.size_append
theorem wlv_add {n : Nat} {w c : Str} (hn : n < 3) (hc : c = "0" ∨ c = "z") (h : WLv n w) : WLv (n + 1) (w ++ c) := by
  have l1 : c.length = 1 := by rcases hc with rfl | rfl <;> rfl
  rcases h with ⟨b, hb, t, ht, l, rfl⟩ | h
  · have := List.all_eq_true.mp tails_all t ht
    rw [decide_eq_false (show ¬ 3 ≤ t.length by omega), Bool.false_or, Bool.and_eq_true, List.contains_iff_mem, List.contains_iff_mem] at this
    refine .inl ⟨b, hb, t ++ c, by rcases hc with rfl | rfl; exact this.1; exact this.2, by rw [len_app]; omega, str_assoc b t c⟩
  · obtain ⟨d, r, e, d1, d2⟩ := h.hd
    have ea : (w ++ c).cps.toList = w.cps.toList ++ c.cps.toList := by
      show (w.cps ++ c.cps).toList = _
      simp
    refine .inr ⟨⟨d, r ++ c.cps.toList, by rw [ea, e]; rfl, d1, d2⟩, fun x hx => ?_, by rw [len_app]; have := h.len; omega⟩
    rw [ea] at hx
    rcases List.mem_append.mp hx with h' | h'
    · exact h.al x h'
    · rcases hc with rfl | rfl
      · have : x = 48 := List.mem_singleton.mp (show x ∈ [48] from h')
        exact .inr this
      · have : x = 122 := List.mem_singleton.mp (show x ∈ [122] from h')
        exact .inl ⟨by omega, by omega⟩
theorem empty_wlv (n : Nat) : WLv n "" := .inl ⟨"", by rw [← List.contains_iff_mem]; decide +kernel, "", by rw [← List.contains_iff_mem]; decide +kernel, Nat.zero_le _, rfl⟩
theorem join_flat (sep : Str) : ∀ (q us : List Str), q ≠ [] → Str.join sep (Str.join sep q :: us) = Str.join sep (q ++ us)
  | [], _, h => absurd rfl h
  | [a], us, _ => rfl
  | a :: b :: r, us, _ => by
    have ih := join_flat sep (b :: r) us (by simp)
    show Str.join sep ((a ++ sep ++ Str.join sep (b :: r)) :: us) = a ++ sep ++ Str.join sep (b :: r ++ us)
    rw [show Str.join sep ((a ++ sep ++ Str.join sep (b :: r)) :: us) = Str.join sep (a :: Str.join sep (b :: r) :: us) from join_two sep a (Str.join sep (b :: r)) [] us, ← ih]
    rfl
theorem join_last (sep l t : Str) : ∀ q : List Str, Str.join sep (q ++ [l]) ++ t = Str.join sep (q ++ [l ++ t])
  | [] => rfl
  | [a] => by
    show a ++ sep ++ l ++ t = a ++ sep ++ (l ++ t)
    rw [str_assoc]
  | a :: b :: r => by
    have ih := join_last sep l t (b :: r)
    show a ++ sep ++ Str.join sep (b :: r ++ [l]) ++ t = a ++ sep ++ Str.join sep (b :: r ++ [l ++ t])
    rw [← ih, str_assoc]
theorem join_blank (sep : Str) : ∀ q : List Str, q ≠ [] → Str.join sep q ++ sep = Str.join sep (q ++ [("" : Str)])
  | [], h => absurd rfl h
  | [a], _ => by
    show (⟨(a ++ sep).cps⟩ : Str) = ⟨(a ++ sep).cps ++ #[]⟩
    rw [Array.append_empty]
  | a :: b :: r, _ => by
    have ih := join_blank sep (b :: r) (by simp)
    show a ++ sep ++ Str.join sep (b :: r) ++ sep = a ++ sep ++ Str.join sep (b :: r ++ [("" : Str)])
    rw [← ih, str_assoc]
/-- a text of words -/
def PartOk (j : Nat) (u : Str) : Prop := ∃ q : List Str, q ≠ [] ∧ (∀ w ∈ q, WLv j w) ∧ q.length ≤ 1 + j ∧ u = Txt.join " " q
theorem part_up {j m : Nat} {u : Str} (h : PartOk j u) (z : j ≤ m) : PartOk m u := let ⟨q, a, b, c, d⟩ := h; ⟨q, a, fun w hw => wlv_up (b w hw) z, by omega, d⟩
theorem part_one {j : Nat} {w : Str} (h : WLv j w) : PartOk j w := ⟨[w], by simp, fun x hx => by rw [List.mem_singleton.mp hx]; exact h, by simp, by rw [TL.join_eq]; rfl⟩
theorem part_add {j : Nat} {u c : Str} (hj : j < 3) (hc : c = " " ∨ c = "0" ∨ c = "z") (h : PartOk j u) : PartOk (j + 1) (u ++ c) := by
  obtain ⟨q, ne, mem, l, rfl⟩ := h
  rcases hc with rfl | hc
  · refine ⟨q ++ [("" : Str)], by simp, fun w hw => ?_, by rw [List.length_append, List.length_singleton]; omega, ?_⟩
    · rcases List.mem_append.mp hw with h | h
      · exact wlv_up (mem w h) (by omega)
      · rw [List.mem_singleton.mp h]; exact empty_wlv _
    · rw [TL.join_eq, TL.join_eq, ← join_blank " " q ne]
  · obtain ⟨q', l', rfl⟩ : ∃ q' l', q = q' ++ [l'] := ⟨q.dropLast, q.getLast ne, (List.dropLast_concat_getLast ne).symm⟩
    refine ⟨q' ++ [l' ++ c], by simp, fun w hw => ?_, by rw [List.length_append, List.length_singleton] at l ⊢; omega, ?_⟩
    · rcases List.mem_append.mp hw with h | h
      · exact wlv_up (mem w (List.mem_append_left _ h)) (by omega)
      · rw [List.mem_singleton.mp h]
        exact wlv_add hj hc (mem l' (by simp))
    · rw [TL.join_eq, TL.join_eq, join_last]
theorem parts_line {j : Nat} : ∀ {us : List Str}, us ≠ [] → (∀ u ∈ us, PartOk j u) → ∃ ws : List Str, Txt.join " " us = Txt.join " " ws ∧ ws ≠ [] ∧ (∀ w ∈ ws, WLv j w) ∧ ws.length ≤ us.length * (1 + j)
  | [], ne, _ => absurd rfl ne
  | [u], _, h => by
    obtain ⟨q, ne, mem, l, rfl⟩ := h u (by simp)
    refine ⟨q, ?_, ne, mem, by simpa using l⟩
    rw [TL.join_eq, TL.join_eq]
    rfl
  | u :: v :: r, _, h => by
    obtain ⟨q, ne, mem, l, rfl⟩ := h u (by simp)
    obtain ⟨ws, e, ne', mem', l'⟩ := parts_line (us := v :: r) (by simp) fun x hx => h x (by simp at hx ⊢; exact .inr hx)
    refine ⟨q ++ ws, ?_, by simp [ne], fun w hw => (List.mem_append.mp hw).elim (mem w) (mem' w), ?_⟩
    · rw [TL.join_eq, TL.join_eq] at e ⊢
      rw [TL.join_eq, join_flat " " q (v :: r) ne]
      have go : ∀ p : List Str, p ≠ [] → Str.join " " (p ++ v :: r) = Str.join " " (p ++ ws) := by
        intro p
        induction p with
        | nil => intro h; exact absurd rfl h
        | cons a p ih =>
          intro _
          cases p with
          | nil =>
            cases ws with
            | nil => exact absurd rfl ne'
            | cons b t =>
              show a ++ " " ++ Str.join " " (v :: r) = a ++ " " ++ Str.join " " (b :: t)
              rw [e]
          | cons b p =>
            show a ++ " " ++ Str.join " " (b :: p ++ v :: r) = a ++ " " ++ Str.join " " (b :: p ++ ws)
            rw [ih (by simp)]
      exact go q ne
    · rw [List.length_append]
      simp only [List.length_cons] at l' ⊢
      have : (r.length + 1 + 1) * (1 + j) = (r.length + 1) * (1 + j) + (1 + j) := Nat.succ_mul _ _
      omega
theorem part_len {j : Nat} {u : Str} (hj : j ≤ 3) (h : PartOk j u) : u.length ≤ 400 := by
  obtain ⟨q, ne, mem, l, rfl⟩ := h
  have := line_len (ws := q) fun w hw => wlv_check hj (mem w hw)
  omega
theorem cut_to (ws : List Str) (k : Nat) : cutV (ws.map V.str) none (some ((k : Nat) : Int)) = (ws.take k).map V.str := by
  unfold cutV
  rw [HT.sIx_none, HT.sIx_nat, List.drop_zero, Nat.sub_zero, List.map_take, List.take_eq_take_iff]
  omega
theorem cut_from (ws : List Str) (k : Nat) : cutV (ws.map V.str) (some ((k : Nat) : Int)) none = (ws.drop k).map V.str := by
  unfold cutV
  rw [HT.sIx_none, HT.sIx_nat, List.map_drop, List.take_of_length_le (by rw [List.length_drop]; omega)]
  rw [List.length_map]
  by_cases c : k ≤ ws.length
  · rw [Nat.min_eq_left c]
  · rw [Nat.min_eq_right (by omega), List.drop_eq_nil_of_le (by rw [List.length_map]; omega), List.drop_eq_nil_of_le (by rw [List.length_map]; omega)]
end My
namespace My
open PySem PySem.Spec PyProof.Rows L2
def kindsV (k : Kd) : List V := [.bl (kEq k .bk), .bl (kEq k .ah), .bl (kEq k .so), .bl (kEq k .wh)] ++ [.bl (kEq k .la), .bl (kEq k .sm), .bl (isNum k), .bl true]
section
variable {P : Program} {w : World} {K : PySem.W.Frag} {mg : Str → Option Value} {base : Heap} {C fWhole fBetw fDay fChk fName fDraw fPick fWo cT cN fTI fNI : Addr} {G : Kd → Addr} {fdD fdP dWo : FuncData}
def spKinds (G : Kd → Addr) : Sp := fun vs H Q _ => ∃ (p : Addr) (k : Kd) (n : Int) (x : Str), vs = [.ref p] ∧ TieX G H p k n x ∧ ∀ t H', Same H H' → H' t = some (.lst (kindsV k)) → Q (.ref t) H'
theorem scKinds : FnScope ["_law_tie_here", "_law_found"] ["_law_tie_here"] (defScope sKinds) := ⟨rfl, rfl, rfl, by decide +kernel, rfl, by decide +kernel, by decide +kernel⟩
theorem ok_kinds {f : Addr} {fd : FuncData} (F : Fun K "_law_kinds" "_law_kinds" sKinds f fd) (T : Txt K mg C fWhole fBetw fDay fChk) (Y : Ty K mg G cT cN fTI fNI fName) (M : Mx K G cT cN) : FnOk P w K mg base CX0 1 f fd ["_law_tie_here"] (spKinds G) := by
  refine F.ok scKinds (fun vs H Q E h => ?_) (fun cdv A outer s H vs Q E hr h => ?_)
  · obtain ⟨p, k, n, x, rfl, _⟩ := h
    rfl
  · obtain ⟨p, k, n, x, rfl, c, kk⟩ := h
    refine ⟨_, pss_cons (ps_set (i := 1) scKinds.nd rfl (Or.inl rfl) (pe_lst (pa_cons (pe_callB call_isi (by rfl) T.zIsi (by decide +kernel) (pa_cons (pv 0) (pa_cons (pe_glob (v := .ref (G .bk)) rfl Y.gBk rfl) pa_nil))) (pa_cons (pe_callB call_isi (by rfl) T.zIsi (by decide +kernel) (pa_cons (pv 0) (pa_cons (pe_glob (v := .ref (G .ah)) rfl Y.gAh rfl) pa_nil))) (pa_cons (pe_callB call_isi (by rfl) T.zIsi (by decide +kernel) (pa_cons (pv 0) (pa_cons (pe_glob (v := .ref (G .so)) rfl Y.gSo rfl) pa_nil))) (pa_cons (pe_callB call_isi (by rfl) T.zIsi (by decide +kernel) (pa_cons (pv 0) (pa_cons (pe_glob (v := .ref (G .wh)) rfl Y.gWh rfl) pa_nil))) pa_nil))))))
      (pss_one (ps_ret (pe_op op_cat (pv 1) (pe_lst (pa_cons (pe_callB call_isi (by rfl) T.zIsi (by decide +kernel) (pa_cons (pv 0) (pa_cons (pe_glob (v := .ref (G .la)) rfl Y.gLa rfl) pa_nil))) (pa_cons (pe_callB call_isi (by rfl) T.zIsi (by decide +kernel) (pa_cons (pv 0) (pa_cons (pe_glob (v := .ref (G .sm)) rfl Y.gSm rfl) pa_nil))) (pa_cons (pe_callB call_isi (by rfl) T.zIsi (by decide +kernel) (pa_cons (pv 0) (pa_cons (pe_glob (v := .ref cN) rfl Y.gN rfl) pa_nil))) (pa_cons (pe_callB call_isi (by rfl) T.zIsi (by decide +kernel) (pa_cons (pv 0) (pa_cons (pe_glob (v := .ref cT) rfl Y.gT rfl) pa_nil))) pa_nil)))))))), ?_⟩
    refine ⟨_, rfl, .ref p, .ref (G .bk), _, _, _, rfl, .own _, M.ty c, M.kk k .bk, _, rfl, .ref p, .ref (G .ah), _, _, _, rfl, .own _, M.ty c, M.kk k .ah, _, rfl, .ref p, .ref (G .so), _, _, _, rfl, .own _, M.ty c, M.kk k .so, _, rfl, .ref p, .ref (G .wh), _, _, _, rfl, .own _, M.ty c, M.kk k .wh, (by show 4 ≤ sizeLine; decide), fun a na => ?_⟩
    have s1 := same_new (o := .lst [.bl (kEq k .bk), .bl (kEq k .ah), .bl (kEq k .so), .bl (kEq k .wh)]) na
    have ha := upd_same (H := H) (a := a) (o := .lst [.bl (kEq k .bk), .bl (kEq k .ah), .bl (kEq k .so), .bl (kEq k .wh)])
    generalize upd H a (.lst [.bl (kEq k .bk), .bl (kEq k .ah), .bl (kEq k .so), .bl (kEq k .wh)]) = H1 at s1 ha ⊢
    refine ⟨_, rfl, _, rfl, .ref p, .ref (G .la), _, _, _, rfl, .own _, M.ty (c.same s1), M.kk k .la, _, rfl, .ref p, .ref (G .sm), _, _, _, rfl, .own _, M.ty (c.same s1), M.kk k .sm, _, rfl, .ref p, .ref cN, _, _, _, rfl, .own _, M.ty (c.same s1), M.kN k, _, rfl, .ref p, .ref cT, _, _, _, rfl, .own _, M.ty (c.same s1), M.kT k, (by show 4 ≤ sizeLine; decide), fun b nb => ?_⟩
    have s2 := s1.trans (same_new (o := .lst [.bl (kEq k .la), .bl (kEq k .sm), .bl (isNum k), .bl true]) nb)
    exact ⟨a, b, _, _, rfl, rfl, (same_new nb) _ _ ha, upd_same, (by show 4 + 4 ≤ sizeLine; decide), fun d nd => kk d _ (s2.trans (same_new nd)) upd_same⟩
def oddL : List Str := ["", "from", "back", "ahead", "sofar", "0", "1", "60", "61", "07", "-1", "+2", "B", "abcdefghi", nine61, "a\n"]
def lowB (w : Str) : Bool := match w.cps.toList with
  | [] => false
  | c :: r => (decide (97 ≤ c) && decide (c ≤ 122)) && ((c :: r).all (fun c => (decide (97 ≤ c) && decide (c ≤ 122)) || decide (c = 48)) && decide (w.length ≤ 9))
theorem low_of {w : Str} (h : lowB w = true) : Low 0 w := by
  unfold lowB at h
  split at h
  · cases h
  · rename_i c r e
    rw [Bool.and_eq_true, Bool.and_eq_true, Bool.and_eq_true, decide_eq_true_eq, decide_eq_true_eq, decide_eq_true_eq, List.all_eq_true] at h
    refine ⟨⟨c, r, e, h.1.1, h.1.2⟩, fun d hd => ?_, h.2.2⟩
    rw [e] at hd
    have := h.2.1 d hd
    rw [Bool.or_eq_true, Bool.and_eq_true, decide_eq_true_eq, decide_eq_true_eq, decide_eq_true_eq] at this
    exact this
theorem odd_all : oddL.all (fun w => baseF.contains w || lowB w) = true := by decide +kernel
theorem app_empty (w : Str) : w ++ ("" : Str) = w := by
  show (⟨w.cps ++ #[]⟩ : Str) = w
  simp
theorem base_wlv {w : Str} (h : w ∈ baseF) : WLv 0 w := .inl ⟨w, h, "", by rw [← List.contains_iff_mem]; decide +kernel, Nat.le_refl _, (app_empty w).symm⟩
theorem odd_wlv {w : Str} (h : w ∈ oddL) : WLv 0 w := by
  have := List.all_eq_true.mp odd_all w h
  rw [Bool.or_eq_true] at this
  rcases this with h | h
  · exact base_wlv (List.contains_iff_mem.mp h)
  · exact .inr (low_of h)
def spBent : Sp := fun vs H Q _ => ∃ (p l a : Addr) (N : Int) (us : List Str) (j : Nat), vs = [.ref p, .ref a] ∧ PenAt H p l N ∧ N ≤ 40000 ∧ H a = some (.lst (us.map V.str)) ∧ a ≠ p ∧ (∀ u ∈ us, PartOk j u) ∧ j < 3 ∧ us.length ≤ 10 ∧
  ∀ (us' : List Str) (t : Addr) (H' : Hp), SameBut p H H' → PenAt H' p l (N + 20) → H' t = some (.lst (us'.map V.str)) → t ≠ p → (∀ u ∈ us', PartOk (j + 1) u) → us'.length ≤ us.length + 1 → Q (.ref t) H'
theorem scBent : FnScope ["_law_pen_here", "_law_words", "_law_kind", "_law_at", "_law_odd", "_law_word_here"] ["_law_pen_here", "_law_words"] (defScope sBent) := ⟨rfl, rfl, rfl, by decide +kernel, rfl, by decide +kernel, by decide +kernel⟩
theorem ok_bent {f : Addr} {fd : FuncData} (F : Fun K "_law_bent" "_law_bent" sBent f fd) (T : Txt K mg C fWhole fBetw fDay fChk) (D : Df P w K mg base "_law_draw" 1 fDraw fdD ["_law_pen_here", "_law_many"] spDraw)
    (I : Df P w K mg base "_law_pick" 2 fPick fdP ["_law_pen_here", "_law_some"] (spPick K)) (WD : Df P w K mg base "_law_word" 3 fWo dWo ["_law_pen_here"] spWord) : FnOk P w K mg base CX0 4 f fd ["_law_pen_here", "_law_words"] spBent := by
  refine F.ok scBent (fun vs H Q E h => ?_) (fun cdv A outer s H vs Q E hr h => ?_)
  · obtain ⟨p, l, a, N, us, j, rfl, _⟩ := h
    rfl
  · obtain ⟨p, l, a, N, us, j, rfl, pen, hN, ha, nap, mem, hj, few, kk⟩ := h
    have hr1 : Room 1 _ := hr.mono (by decide)
    have hr2 : Room 2 _ := hr.mono (by decide)
    refine ⟨_, pss_cons (ps_par (i := 2) (j := 3) rfl scBent.nd rfl rfl (by decide) rfl rfl (pa_cons (pe_call D.F hr1 rfl D.g D.kp D.b .nil pass0 (pa_cons (pv 0) (pa_cons pe_int pa_nil))) (pa_cons (pe_call D.F hr1 rfl D.g D.kp D.b .nil pass0 (pa_cons (pv 0) (pa_cons (pe_op op_add (pe_callB call_len_seq (by rfl) T.zLen PySem.boot_len (pa_cons (pv 1) pa_nil)) pe_int) pa_nil))) pa_nil)) rfl)
      (pss_cons (ps_set (i := 4) scBent.nd rfl (Or.inl rfl) (pe_lst (pa_cons pe_str (pa_cons pe_str (pa_cons pe_str (pa_cons pe_str (pa_cons pe_str (pa_cons pe_str (pa_cons pe_str (pa_cons pe_str (pa_cons pe_str (pa_cons pe_str (pa_cons pe_str (pa_cons pe_str (pa_cons pe_str (pa_cons pe_str (pa_cons (pe_op op_mulS pe_str pe_int) (pa_cons pe_str pa_nil))))))))))))))))))
      (pss_cons (ps_set (i := 5) scBent.nd rfl (Or.inl rfl) (pe_call I.F hr2 rfl I.g I.kp I.b .nil pass0 (pa_cons (pv 0) (pa_cons (pe_op op_cat (pv 4) (pe_lst (pa_cons (pe_call WD.F hr rfl WD.g WD.kp WD.b .nil pass0 (pa_cons (pv 0) pa_nil)) pa_nil))) pa_nil))))
      (pss_cons (ps_if (pt_cmpR op_eq (pv 2) pe_int (nomark _)) (pss_one (ps_ret (pe_op op_cat (pe_op op_cat (pe_slice sl_list (pv 1) po_none (po_some (pv 3))) (pe_lst (pa_cons (pv 5) pa_nil))) (pe_slice sl_list (pv 1) (po_some (pv 3)) po_none)))) pss_nil)
      (pss_cons (ps_if (pt_cmpR op_eq (pv 2) pe_int (nomark _)) (pss_one (ps_ret (pe_op op_cat (pe_slice sl_list (pv 1) po_none (po_some (pv 3))) (pe_slice sl_list (pv 1) (po_some (pe_op op_add (pv 3) pe_int)) po_none)))) pss_nil)
      (pss_cons (ps_if (PW.pt (pw_or (pt_cmpR op_eq (pv 2) pe_int (nomark _)) (pw_or1 (pt_cmpR op_eq (pv 3) (pe_callB call_len_seq (by rfl) T.zLen PySem.boot_len (pa_cons (pv 1) pa_nil)) (nomark _))))) (pss_one (ps_ret (pe_op op_cat (pe_op op_cat (pe_slice sl_list (pv 1) po_none (po_some (pv 3))) (pe_lst (pa_cons (pv 5) pa_nil))) (pe_slice sl_list (pv 1) (po_some (pe_op op_add (pv 3) pe_int)) po_none)))) pss_nil)
      (pss_one (ps_ret (pe_op op_cat (pe_op op_cat (pe_slice sl_list (pv 1) po_none (po_some (pv 3))) (pe_lst (pa_cons (pe_op op_add_str (pe_ix ix_list (pv 1) (pv 3) (fun _ _ => rfl)) (pe_call I.F hr2 rfl I.g I.kp I.b .nil pass0 (pa_cons (pv 0) (pa_cons (pe_lst (pa_cons pe_str (pa_cons pe_str (pa_cons pe_str pa_nil)))) pa_nil)))) pa_nil)))
          (pe_slice sl_list (pv 1) (po_some (pe_op op_add (pv 3) pe_int)) po_none))))))))), ?_⟩
    obtain ⟨px, hp⟩ := pen.lst
    refine ⟨_, rfl, p, l, N, 4, rfl, pen, by decide, log_small (by decide) (by decide), by omega, fun kd H1 _ _ sb1 pen1 => ?_⟩
    have ha1 := sb1 _ _ nap ha
    refine ⟨_, rfl, _, rfl, a, _, rfl, .inl (SqL.of ha1), _, _, rfl, rfl, p, l, N + 1, _, rfl, pen1, by omega, log_small (by omega) (by rw [List.length_map]; omega), by omega, fun r H2 r0 r1 sb2 pen2 => ?_⟩
    obtain ⟨i, rfl⟩ := Int.eq_ofNat_of_zero_le r0
    have hi : i ≤ us.length := by rw [List.length_map] at r1; omega
    have ha2 := sb2 _ _ nap ha1
    have sb12 := sb1.trans sb2
    refine ⟨_, _, rfl, ?_⟩
    refine ⟨_, _, rfl, rfl, (by decide), (by decide), (by decide +kernel), (by decide +kernel), (by decide +kernel), (by show 16 ≤ sizeLine; decide), fun O nO => ?_⟩
    have t1 := same_new (o := .lst (oddL.map V.str)) nO
    have pen3 := pen2.same t1
    have hO : (upd H2 O (.lst (oddL.map V.str))) O = some (.lst (oddL.map V.str)) := upd_same
    obtain ⟨py, hpy⟩ := pen2.lst
    have Op : O ≠ p := Ne.symm (ne_of_none hpy nO)
    have ha3 := t1 _ _ ha2
    have sb13 := sb12.trans (Same.but t1)
    change gName 4 (.ref O) _ (upd H2 O (.lst (oddL.map V.str))) _
    generalize upd H2 O (.lst (oddL.map V.str)) = H3 at t1 pen3 hO ha3 sb13 ⊢
    refine ⟨_, rfl, _, rfl, _, rfl, p, l, N + 2, rfl, pen3.le (by omega), by omega, fun x H4 nx sb4 pen4 => ?_⟩
    have hO4 := sb4 _ _ Op hO
    refine ⟨(by show 1 ≤ sizeLine; decide), fun X1 nX1 => ?_⟩
    have t2 := same_new (o := .lst [.str x]) nX1
    refine ⟨O, X1, _, _, rfl, rfl, t2 _ _ hO4, upd_same, (by show 16 + 1 ≤ sizeLine; decide), fun X2 nX2 => ?_⟩
    have t3 := t2.trans (same_new (o := .lst (oddL.map V.str ++ [.str x])) nX2)
    obtain ⟨pz, hpz⟩ := pen4.lst
    have X2p : X2 ≠ p := Ne.symm (ne_of_none (t2 _ _ hpz) nX2)
    refine ⟨p, l, N + 13, (pen4.same t3).le (by omega), by omega, .inl ⟨X2, _, rfl, upd_same, X2p, (by show 0 < 17; decide), (by show 17 ≤ 1000; decide), fun jj v H5 hjj sb5 pen5 => ?_⟩⟩
    obtain ⟨y, wy, rfl⟩ : ∃ y, WLv 0 y ∧ v = .str y := by
      rcases List.mem_append.mp (List.mem_of_getElem? hjj) with h | h
      · obtain ⟨y, hy, e⟩ := List.mem_map.mp h
        exact ⟨y, odd_wlv hy, e.symm⟩
      · exact ⟨x, .inr nx.low, List.mem_singleton.mp h⟩
    have sb15 : SameBut p H H5 := ((sb13.trans sb4).trans (Same.but t3)).trans sb5
    have ha5 := sb15 _ _ nap ha
    have py5 : PartOk (j + 1) y := part_one (wlv_up wy (Nat.zero_le _))
    have tA : ∀ (m : Nat), ∀ u ∈ us.take m, PartOk (j + 1) u := fun m u h => part_up (mem u (List.mem_of_mem_take h)) (Nat.le_succ _)
    have tB : ∀ (m : Nat), ∀ u ∈ us.drop m, PartOk (j + 1) u := fun m u h => part_up (mem u (List.mem_of_mem_drop h)) (Nat.le_succ _)
    have plus : ((i : Nat) : Int) + 1 = ((i + 1 : Nat) : Int) := by omega
    have lay : ∀ {H' : Hp} {t : Addr} {M : Int}, PenAt H' p l M → H' t = none → t ≠ p := fun {H' t M} pn nt => let ⟨_, e⟩ := pn.lst; Ne.symm (ne_of_none e nt)
    clear hO4 hO t2 t3 nX1 nX2 sb4 sb5 hpz X2p sb13 sb12 sb1 sb2 ha1 ha2 ha3 hpy Op nO pen1 pen2 pen3 pen4 hp
    have three : ∀ (b : Nat), i ≤ b → ∀ (z : Str) (q : Addr) (H' : Hp), PartOk (j + 1) z → SameBut p H5 H' → PenAt H' p l (N + 20) → H' q = some (.lst (((us.take i).map V.str ++ [V.str z]) ++ (us.drop b).map V.str)) → q ≠ p → Q (.ref q) H' := by
      intro b hb z q H' hz sb pn hq qp
      refine kk (us.take i ++ [z] ++ us.drop b) q H' (sb15.trans sb) pn (by rw [hq, List.map_append, List.map_append]; rfl) qp (fun u hu => ?_) ?_
      · rcases List.mem_append.mp hu with h | h
        · rcases List.mem_append.mp h with h | h
          · exact tA i u h
          · rw [List.mem_singleton.mp h]; exact hz
        · exact tB b u h
      · rw [List.length_append, List.length_append, List.length_take, List.length_drop, List.length_singleton]
        omega
    have szM : ∀ (b : Nat) (z : V), ((us.take i).map V.str ++ [z]).length + ((us.drop b).map V.str).length ≤ sizeLine := fun b z => by
      rw [List.length_append, List.length_singleton, List.length_map, List.length_map, List.length_take, List.length_drop, sizeLine_eq]
      omega
    have szN : ∀ (z : V), ((us.take i).map V.str).length + [z].length ≤ sizeLine := fun z => by
      rw [List.length_singleton, List.length_map, List.length_take, sizeLine_eq]
      omega
    have pen5' := pen5.le (M := N + 20) (by omega)
    refine ⟨_, rfl, rfl, _, rfl, ite2 (fun _ => ?_) (fun _ => ?_)⟩
    · refine ⟨_, rfl, _, rfl, _, rfl, a, _, rfl, SqL.of ha5, fun A1 n1 => ?_⟩
      rw [cut_to]
      have s1 := same_new (o := .lst ((us.take i).map V.str)) n1
      refine ⟨_, rfl, (by show 1 ≤ sizeLine; decide), fun A2 n2 => ?_⟩
      have s2 := same_new (o := .lst [V.str y]) n2
      refine ⟨A1, A2, _, _, rfl, rfl, s2 _ _ upd_same, upd_same, szN _, fun A3 n3 => ?_⟩
      have s3 := same_new (o := .lst ((us.take i).map V.str ++ [V.str y])) n3
      have s13 := (s1.trans s2).trans s3
      refine ⟨_, rfl, _, rfl, _, rfl, a, _, rfl, SqL.of (s13 _ _ ha5), fun A4 n4 => ?_⟩
      rw [cut_from]
      have s4 := same_new (o := .lst ((us.drop i).map V.str)) n4
      refine ⟨A3, A4, _, _, rfl, rfl, s4 _ _ upd_same, upd_same, szM i _, fun q nq => ?_⟩
      exact three i (Nat.le_refl _) y q _ py5 (Same.but ((s13.trans s4).trans (same_new nq))) (pen5'.same ((s13.trans s4).trans (same_new nq))) upd_same (lay (pen5'.same (s13.trans s4)) nq)
    refine ⟨_, rfl, rfl, _, rfl, ite2 (fun _ => ?_) (fun _ => ?_)⟩
    · refine ⟨_, rfl, _, rfl, _, rfl, a, _, rfl, SqL.of ha5, fun A1 n1 => ?_⟩
      rw [cut_to]
      have s1 := same_new (o := .lst ((us.take i).map V.str)) n1
      refine ⟨_, rfl, _, rfl, _, _, rfl, rfl, _, rfl, a, _, rfl, SqL.of (s1 _ _ ha5), fun A4 n4 => ?_⟩
      rw [plus, cut_from]
      have s4 := same_new (o := .lst ((us.drop (i + 1)).map V.str)) n4
      refine ⟨A1, A4, _, _, rfl, rfl, s4 _ _ upd_same, upd_same, (by rw [List.length_map, List.length_map, List.length_take, List.length_drop, sizeLine_eq]; omega), fun q nq => ?_⟩
      refine kk (us.take i ++ us.drop (i + 1)) q _ (sb15.trans (Same.but ((s1.trans s4).trans (same_new nq)))) (pen5'.same ((s1.trans s4).trans (same_new nq))) (by rw [upd_same, List.map_append]) (lay (pen5'.same (s1.trans s4)) nq) (fun u hu => (List.mem_append.mp hu).elim (tA i u) (tB (i + 1) u)) ?_
      rw [List.length_append, List.length_take, List.length_drop]
      omega
    -- the word put in the place of another one
    have repl : ∀ (H' : Hp), H' = H5 → tRet (tOp rCat (tOp rCat (tSl (rSlL K) (tVar 1) tNoPart (tPart (tVar 3))) (tLst (tCons (tVar 5) tNil))) (tSl (rSlL K) (tVar 1) (tPart (tOp (rI0 fun i j => .int (i + j)) (tVar 3) (tC (.int 1)))) tNoPart)) { nx := fun _ H' => Q .non H', rt := Q } [some (.ref p), some (.ref a), some (.int kd), some (.int (i : Nat)), some (.ref O), some (.str y)] H' := by
      rintro H' rfl
      refine ⟨_, rfl, _, rfl, _, rfl, a, _, rfl, SqL.of ha5, fun A1 n1 => ?_⟩
      rw [cut_to]
      have s1 := same_new (o := .lst ((us.take i).map V.str)) n1
      refine ⟨_, rfl, (by show 1 ≤ sizeLine; decide), fun A2 n2 => ?_⟩
      have s2 := same_new (o := .lst [V.str y]) n2
      refine ⟨A1, A2, _, _, rfl, rfl, s2 _ _ upd_same, upd_same, szN _, fun A3 n3 => ?_⟩
      have s3 := same_new (o := .lst ((us.take i).map V.str ++ [V.str y])) n3
      have s13 := (s1.trans s2).trans s3
      refine ⟨_, rfl, _, rfl, _, _, rfl, rfl, _, rfl, a, _, rfl, SqL.of (s13 _ _ ha5), fun A4 n4 => ?_⟩
      rw [plus, cut_from]
      have s4 := same_new (o := .lst ((us.drop (i + 1)).map V.str)) n4
      refine ⟨A3, A4, _, _, rfl, rfl, s4 _ _ upd_same, upd_same, szM (i + 1) _, fun q nq => ?_⟩
      exact three (i + 1) (Nat.le_succ _) y q _ py5 (Same.but ((s13.trans s4).trans (same_new nq))) (pen5'.same ((s13.trans s4).trans (same_new nq))) upd_same (lay (pen5'.same (s13.trans s4)) nq)
    refine ⟨_, rfl, rfl, _, rfl, ite2 (fun _ => iteT (repl _ rfl)) (fun _ => ?_)⟩
    refine ⟨_, rfl, _, rfl, a, _, rfl, .inl (SqL.of ha5), rfl, _, rfl, ?_⟩
    rw [List.length_map]
    by_cases ce : i = us.length
    · rw [decide_eq_true (show V.int (i : Nat) = V.int (us.length : Nat) by rw [ce])]
      exact iteT (repl _ rfl)
    · rw [decide_eq_false (fun z => ce (by have := V.int.inj z; omega))]
      obtain ⟨u, hu⟩ : ∃ u, us[i]? = some u := ⟨_, List.getElem?_eq_getElem (by omega)⟩
      have ra : (us.map V.str)[i]? = some (.str u) := by rw [List.getElem?_map, hu]; rfl
      have pu := mem u (List.mem_of_getElem? hu)
      refine iteF ⟨_, rfl, _, rfl, _, rfl, a, _, rfl, SqL.of ha5, fun A1 n1 => ?_⟩
      rw [cut_to]
      have s1 := same_new (o := .lst ((us.take i).map V.str)) n1
      have nA1 := lay pen5 n1
      refine ⟨_, rfl, _, rfl, a, _, _, _, rfl, rfl, SqL.of (s1 _ _ ha5), atI_nat ra, _, rfl, (by show 3 ≤ sizeLine; decide), fun B1 m1 => ?_⟩
      have s1' := s1.trans (same_new (o := .lst [V.str " ", .str "0", .str "z"]) m1)
      refine ⟨p, l, N + 14, (pen5.same s1').le (by omega), by omega, .inl ⟨B1, _, rfl, upd_same, lay (pen5.same s1) m1, (by show 0 < 3; decide), (by show 3 ≤ 1000; decide), fun j2 v H6 hj2 sb6 pen6 => ?_⟩⟩
      obtain ⟨cs, hcs, rfl⟩ : ∃ cs : Str, (cs = " " ∨ cs = "0" ∨ cs = "z") ∧ v = .str cs := by
        have hv := List.mem_of_getElem? hj2
        simp only [List.mem_cons, List.not_mem_nil, or_false] at hv
        rcases hv with rfl | rfl | rfl
        · exact ⟨_, .inl rfl, rfl⟩
        · exact ⟨_, .inr (.inl rfl), rfl⟩
        · exact ⟨_, .inr (.inr rfl), rfl⟩
      have lc : cs.length = 1 := by rcases hcs with rfl | rfl | rfl <;> rfl
      have lu := part_len (by omega) pu
      have hA6 := sb6 _ _ nA1 (same_new m1 _ _ upd_same)
      have ha6 := sb6 _ _ nap (s1' _ _ ha5)
      have sb56 := (Same.but s1').trans sb6
      have pen6' := pen6.le (M := N + 20) (by omega)
      refine ⟨u, cs, rfl, rfl, (by rw [sizeLine_eq]; omega), (by show 1 ≤ sizeLine; decide), fun A2 n2 => ?_⟩
      have s2 := same_new (o := .lst [V.str (u ++ cs)]) n2
      refine ⟨A1, A2, _, _, rfl, rfl, s2 _ _ hA6, upd_same, szN _, fun A3 n3 => ?_⟩
      have s3 := s2.trans (same_new (o := .lst ((us.take i).map V.str ++ [V.str (u ++ cs)])) n3)
      refine ⟨_, rfl, _, rfl, _, _, rfl, rfl, _, rfl, a, _, rfl, SqL.of (s3 _ _ ha6), fun A4 n4 => ?_⟩
      rw [plus, cut_from]
      have s4 := same_new (o := .lst ((us.drop (i + 1)).map V.str)) n4
      refine ⟨A3, A4, _, _, rfl, rfl, s4 _ _ upd_same, upd_same, szM (i + 1) _, fun q nq => ?_⟩
      exact three (i + 1) (Nat.le_succ _) (u ++ cs) q _ (part_add hj hcs pu) (sb56.trans (Same.but ((s3.trans s4).trans (same_new nq)))) (pen6'.same ((s3.trans s4).trans (same_new nq))) upd_same (lay (pen6'.same (s3.trans s4)) nq)
end
end My
namespace My
open PySem PySem.Spec PyProof.Rows L2
abbrev sLaw : Stmt := top 42
def gD {α : Type} : List α → List α → List α
  | [a], [d] => [a, d]
  | _, _ => []
theorem rel_D {vs : List V} {us : List Value} {zs : List V} {ws : List Value} (r1 : Vals vs us) (r2 : Vals zs ws) : Vals (gD vs zs) (gD us ws) := by
  cases r1 with
  | nil => exact .nil
  | cons h1 t1 =>
    cases t1 with
    | cons _ _ => exact .nil
    | nil =>
      cases r2 with
      | nil => exact .nil
      | cons h2 t2 =>
        cases t2 with
        | nil => exact .cons h1 (.cons h2 .nil)
        | cons _ _ => exact .nil
theorem kb_of {K : PySem.W.Frag} {x qual : Str} {st : Stmt} {f : Addr} {fd : FuncData} (F : Fun K x qual st f fd) (h : ∀ (kV doc pm : Value) (an : Option Addr) (cdv ct a d : Value), bindArgs (PySem.W.fnOf x qual (defArgs st) (defBody st) (defScope st) .none kV doc pm an cdv ct) ⟨[a], [("text", d)]⟩ = pure [(("cls" : Str), a), (("text" : Str), d)]) :
    KBinds K fd ["cls", "text"] ["text"] gD gD := by
  obtain ⟨oc, od, kV, doc, pm, an, cdv, ct, osl, rfl, lk, hcd⟩ := F.ex
  refine ⟨fun s us ws _ hl => ?_, rel_D⟩
  match us, ws, hl with
  | [a], [d], _ => exact .of_eq (h kV doc pm an cdv ct a d)
  | [], _, hl => exact absurd hl (by simp [gD])
  | [_], [], hl => exact absurd hl (by simp [gD])
  | [_], _ :: _ :: _, hl => exact absurd hl (by simp [gD])
  | _ :: _ :: _, _, hl => exact absurd hl (by simp [gD])
theorem tabs_but {T : List (Addr × Str)} {H H' : Hp} {L : Addr} {xs : List V} (t : LamX.Tabs T H) (s : SameBut L H H') (hL : H L = some (.lst xs)) : LamX.Tabs T H' := fun q hq => by
  obtain ⟨ps, h1, h2, h3⟩ := t q hq
  refine ⟨ps, s _ _ (ne_of h1 hL (by intro z; cases z)) h1, h2, fun pos cv hc => ?_⟩
  obtain ⟨c, e1, e2⟩ := h3 pos cv hc
  exact ⟨c, e1, s _ _ (ne_of e2 hL (by intro z; unfold LamX.CodeO at z; cases z)) e2⟩
theorem tabs_same {T : List (Addr × Str)} {H H' : Hp} (t : LamX.Tabs T H) (s : Same H H') : LamX.Tabs T H' := t.ext s
theorem pen_ext {H H' : Hp} {p l : Addr} {N : Int} (h : PenAt H p l N) (s : LamX.ExtN H H') : PenAt H' p l N := by
  obtain ⟨ms, n, c, e1, e2, z⟩ := h.ex
  exact ⟨ms, n, c, s _ _ e1 (fun _ q => by cases q), s _ _ e2 (fun _ q => by cases q), z⟩
theorem pe_exK {X : Cx} {e : Expr} {t : Kd → TE} (h : ∀ k, PE X e (t k)) : PE X e (fun σ H Q => ∃ k, t k σ H Q) := ⟨fun pins s σ H Q I ⟨k, q⟩ => (h k).run pins s σ H Q I q⟩
theorem opr_ex {X : Cx} {c : Value → Value → Sem Value} {r : Kd → R2} (h : ∀ k, OpR X c (r k)) : OpR X c (fun x y H Q => ∃ k, r k x y H Q) := fun pins s σ H x y v u Q I rx ry ⟨k, q⟩ => h k pins s σ H x y v u Q I rx ry q
/-- a heard value -/
def HdT (G : Kd → Addr) (H : Hp) (t : Addr) (o : HeadT) : Prop :=
  match o with
  | .bad k => H t = some (.tup [.str "text", .int 0, .int (k : Nat)])
  | .tie k n x _ => ∃ m, H t = some (.lst [.ref m]) ∧ TieX G H m k n x ∧ NameOk x ∧ NumOk k n
theorem heard_read {G : Kd → Addr} {cBT : Addr} {ws : List Str} {H : Hp} {Q Q1 : VK} (hQ : ∀ v H2, (∀ t H3, Same H2 H3 → H2 t = none → H3 t = some (.lst [v]) → Q (.ref t) H3) → Q1 v H2) (k : ∀ t H', Same H H' → H t = none → HdT G H' t (outT ws) → Q (.ref t) H') :
    ErrsT cBT (outT ws) H (Ech cBT Q) ∧ ∀ kd n x a, outT ws = .tie kd n x a → NameOk x → NumOk kd n → ∀ q H', Same H H' → TieX G H' q kd n x → Q1 (.ref q) H' := by
  refine ⟨?_, fun kd n x a e nm ok q H' s t => hQ (.ref q) H' fun u H3 s3 n3 h3 => k u H3 (s.trans s3) (s.free n3) (by rw [e]; exact ⟨q, h3, t.same s3, nm, ok⟩)⟩
  cases e : outT ws with
  | bad n => exact fun dd H' s h => ⟨dd, rfl, rfl, n, h, fun t H'' s' n' ht => k t H'' (s.trans s') (s.free n') (by rw [e]; exact ht)⟩
  | tie kd n x a => trivial
theorem kind_low (k : Kd) : Low 0 (wordOf k) := low_of (by cases k <;> decide +kernel)
theorem num_wlv {n : Int} (h : 0 ≤ n ∧ n ≤ 60) : WLv 0 ((toString n : String) : Str) := by
  refine base_wlv (List.mem_append_left _ ?_)
  refine List.mem_of_getElem? (i := n.toNat) ?_
  unfold numsW
  rw [List.getElem?_map, List.getElem?_range (by omega)]
  show some (Str.ofString (toString ((n.toNat : Nat) : Int))) = _
  rw [show ((n.toNat : Nat) : Int) = n by omega]
theorem words_wlv {k : Kd} {n : Int} {x : Str} (nx : NmW x) (ok : NumOk k n) : ∀ w ∈ wordsT k n x, WLv 0 w := by
  intro w hw
  unfold wordsT at hw
  split at hw
  · rcases List.mem_cons.mp hw with rfl | hw
    · exact .inr (kind_low k)
    · rcases List.mem_cons.mp hw with rfl | hw
      · exact num_wlv ⟨ok.lo, ok.hi⟩
      · rw [List.mem_singleton.mp hw]; exact .inr nx.low
  · rcases List.mem_cons.mp hw with rfl | hw
    · exact .inr (kind_low k)
    · rw [List.mem_singleton.mp hw]; exact .inr nx.low
theorem words_len (k : Kd) (n : Int) (x : Str) : (wordsT k n x).length ≤ 3 := by
  unfold wordsT
  split
  · show 3 ≤ 3; decide
  · show 2 ≤ 3; decide
theorem words_ok {k : Kd} {n : Int} {x : Str} (nx : NmW x) (ok : NumOk k n) : LineOk (wordsT k n x) :=
  ⟨by unfold wordsT; split <;> simp, fun w hw => wlv_check (by decide) (words_wlv nx ok w hw), Nat.le_trans (words_len k n x) (by decide)⟩
theorem num_val {n : Int} (h : 0 ≤ n ∧ n ≤ 60) : valW ((toString n : String) : Str) = some n := by
  have e : (List.range 61).all (fun (i : Nat) => valW ((toString (i : Int) : String) : Str) == some (i : Int)) = true := by decide +kernel
  have := List.all_eq_true.mp e n.toNat (List.mem_range.mpr (by omega))
  rw [show ((n.toNat : Nat) : Int) = n by omega] at this
  exact beq_iff_eq.mp this
theorem num_inj {n m : Int} (h : 0 ≤ n ∧ n ≤ 60) (h2 : 0 ≤ m ∧ m ≤ 60) (e : ((toString n : String) : Str) = ((toString m : String) : Str)) : n = m := by
  have a := num_val h
  rw [e, num_val h2] at a
  exact (Option.some.inj a).symm
theorem words_out {k : Kd} {n : Int} {x : Str} (nm : NameOk x) (ok : NumOk k n) : ∃ a, outT (wordsT k n x) = .tie k n x a := by
  have nb := nm.nb
  cases e : isNum k with
  | true =>
    have v := num_val ⟨ok.lo, ok.hi⟩
    have vo : valOf ((toString n : String) : Str) = n := by unfold valOf; rw [v]; rfl
    have o : okL (loOf k) ((toString n : String) : Str) = true := by
      unfold okL
      rw [v]
      have := ok.nu e
      unfold numV at this
      rw [if_pos e] at this
      exact this
    have w : wordsT k n x = [wordOf k, (toString n : String), x] := by unfold wordsT; rw [if_pos e]
    refine ⟨3, ?_⟩
    rw [w]
    have h : headT [wordOf k, (toString n : String), x] = .tie k n x 3 := by
      rw [head_kind (w := wordOf k) rfl (kind_word k), if_pos e]
      show (if okL (loOf k) ((toString n : String) : Str) = true then nameT _ k (valOf ((toString n : String) : Str)) 2 else _) = _
      rw [if_pos o, vo]
      show (if nameB x = true then HeadT.tie k n x 3 else _) = _
      rw [if_pos nb]
    unfold outT
    rw [h]
    rfl
  | false =>
    have w : wordsT k n x = [wordOf k, x] := by unfold wordsT; rw [if_neg (by rw [e]; decide)]
    obtain rfl : n = 0 := ok.no e
    refine ⟨2, ?_⟩
    rw [w]
    have h : headT [wordOf k, x] = .tie k 0 x 2 := by
      rw [head_kind (w := wordOf k) rfl (kind_word k), if_neg (by rw [e]; decide)]
      show (if nameB x = true then HeadT.tie k 0 x 2 else _) = _
      rw [if_pos nb]
    unfold outT
    rw [h]
    rfl
theorem back_base : baseF.all (fun b => tails.all fun t => !okL 0 (b ++ t) || decide ((b ++ t) = ((toString (valOf (b ++ t)) : String) : Str))) = true := by decide +kernel
/-- int(w), where it is a number of 0 to 60, is written as w -/
theorem W_back {lo : Int} {w : Str} (m : WLv 3 w) (hl : lo = 0 ∨ lo = 1) (h : okL lo w = true) : w = ((toString (valOf w) : String) : Str) := by
  rcases m with ⟨b, hb, t, ht, _, rfl⟩ | m
  · obtain ⟨e, b1, b2⟩ := ok_val h
    have o : okL 0 (b ++ t) = true := by
      unfold okL
      rw [e]
      show (decide (0 ≤ valOf (b ++ t)) && decide (valOf (b ++ t) ≤ 60)) = true
      rw [decide_eq_true (by omega), decide_eq_true b2]
      rfl
    have := List.all_eq_true.mp (List.all_eq_true.mp back_base b hb) t ht
    rw [o] at this
    exact of_decide_eq_true this
  · unfold okL at h
    rw [low_val m] at h
    cases h
theorem name_tie {ws : List Str} {k j : Kd} {n m : Int} {x : Str} {a b : Nat} (h : nameT ws k n a = .tie j m x b) : ws[a]? = some x ∧ j = k ∧ m = n ∧ b = a + 1 := by
  unfold nameT at h
  cases e : ws[a]? with
  | none => rw [e] at h; cases h
  | some y =>
    rw [e] at h
    dsimp only at h
    split at h
    · cases h
      exact ⟨rfl, rfl, rfl, rfl⟩
    · cases h
theorem out_line {ws : List Str} {k : Kd} {n : Int} {x : Str} {a : Nat} (mem : ∀ w ∈ ws, WLv 3 w) (h : outT ws = .tie k n x a) : Txt.join " " ws = lineT k n x := by
  rw [words_text]
  congr 1
  have hd : headT ws = .tie k n x a ∧ a = ws.length := by
    unfold outT at h
    split at h
    · cases h
    · rename_i k' n' x' a' e
      split at h
      · cases h
        exact ⟨e, by assumption⟩
      · cases h
  obtain ⟨hd, ha⟩ := hd
  cases h0 : ws[0]? with
  | none => unfold headT at hd; rw [h0] at hd; cases hd
  | some w0 =>
    cases hk : kindW w0 with
    | none => unfold headT at hd; rw [h0] at hd; dsimp only at hd; rw [hk] at hd; cases hd
    | some k0 =>
      rw [head_kind h0 hk] at hd
      have ew := kind_some hk
      cases e : isNum k0 with
      | true =>
        rw [if_pos e] at hd
        cases h1 : ws[1]? with
        | none => rw [h1] at hd; cases hd
        | some v =>
          rw [h1] at hd
          dsimp only at hd
          split at hd
          · rename_i o
            obtain ⟨h2, rfl, rfl, rfl⟩ := name_tie hd
            have back := W_back (mem v (List.mem_of_getElem? h1)) (by cases k <;> first | exact .inl rfl | exact .inr rfl) o
            unfold wordsT
            rw [if_pos e, ← ew, ← back]
            match ws, ha with
            | [a, b, c], _ =>
              cases h0
              cases h1
              cases h2
              rfl
          · cases hd
      | false =>
        rw [if_neg (by rw [e]; decide)] at hd
        obtain ⟨h1, rfl, rfl, rfl⟩ := name_tie hd
        unfold wordsT
        rw [if_neg (by rw [e]; decide), ← ew]
        match ws, ha with
        | [a, b], _ =>
          cases h0
          cases h1
          rfl
theorem read_odd {K : PySem.W.Frag} {G : Kd → Addr} {cBT : Addr} {v : V} {H : Hp} {Q Q1 : VK} (hv : NoStr K H v)
    (k : ∀ t H', Same H H' → H t = none → H' t = some (.tup [.str "text", .int 0, .int ((0 : Nat) : Int)]) → Q (.ref t) H') :
    (∃ ws, v = .str (Txt.join " " ws) ∧ LineOk ws ∧ ErrsT cBT (outT ws) H (Ech cBT Q) ∧ ∀ kd n x a, outT ws = .tie kd n x a → NameOk x → NumOk kd n → ∀ q H', Same H H' → TieX G H' q kd n x → Q1 (.ref q) H') ∨ (NoStr K H v ∧ ∀ dd H', Same H H' → H' dd = some (.xd (badX 0)) → Ech cBT Q (.ref cBT) (some dd) H') :=
  .inr ⟨hv, fun dd H' s h => ⟨dd, rfl, rfl, 0, h, fun t H'' s' n' ht => k t H'' (s.trans s') (s.free n') ht⟩⟩
theorem NoStr.of {K : PySem.W.Frag} {H : Hp} {v : V} {t : String} (h : TyX K H v (.type t)) (k : kitB t "str" = some false) : NoStr K H v := ⟨_, h, kit_ty k⟩
/-- what is heard of a wrong line, as data -/
def badD (j : Nat) : PyData := .tuple [.str "text", .int 0, .int (j : Nat)]
theorem bad_shaped (j : Nat) : SeqAt.shaped (badD j) = true := by
  show (PyData.canLay0 _ && decide (PyData.depth _ ≤ 64)) = true
  rw [Bool.and_eq_true, decide_eq_true_eq]
  refine ⟨?_, ?_⟩
  · simp only [badD, PyData.canLay0, PyData.canLayAll0, strOk_of, Bool.and_self]
  · simp [badD, PyData.depth, PyData.depthAll]
theorem bad_dp {K : PySem.W.Frag} {H : Hp} {t : Addr} {j : Nat} (h : H t = some (.tup [.str "text", .int 0, .int (j : Nat)])) : Dp K H (.ref t) (badD j) := .tup (SqT.of h) (.cons (.str _) (.cons (.int _) (.cons (.int _) .nil)))
theorem bad_eqv (j : Nat) : PyData.eqv (badD j) (badD j) = true := SeqAt.eqv_refl _ (SeqAt.canLay_of_shaped (bad_shaped j))
/-- the six __str__ -/
structure StrT (P : Program) (w : World) (K : PySem.W.Frag) (mg : Str → Option Value) (base : Heap) (G : Kd → Addr) (fT : Kd → Addr) (dT : Kd → FuncData) : Prop where
  F : ∀ k, FnOk P w K mg base CX0 1 (fT k) (dT k) ["self"] (spStr G k)
  b : ∀ k, Binds K (dT k) ["self"] []
  at_ : ∀ k, PySem.W.findIn K (.ref (G k)) "__str__" = some (some (.ref (fT k)))
  fn : ∀ k, PySem.W.isFn K (.ref (fT k)) = true
/-- the six __eq__ -/
structure EqT (P : Program) (w : World) (K : PySem.W.Frag) (mg : Str → Option Value) (base : Heap) (G : Kd → Addr) (fE : Kd → Addr) (dE : Kd → FuncData) : Prop where
  F : ∀ k, FnOk P w K mg base CX0 1 (fE k) (dE k) ["self", "other"] (spEq K G k)
  b : ∀ k, Binds K (dE k) ["self", "other"] []
  eo : ∀ k, EqO K (G k) (fE k)
  no : ∀ k, NeO K (G k) (fE k)
theorem made_goal {G : Kd → Addr} {cBN cBU : Addr} {k : Kd} {n : Int} {x : Str} {H : Hp} {E : XK} {Q' : Addr → Hp → Prop} (hk : isNum k = false) (nm : NameOk x) (ok : NumOk k n) (kk : ∀ p H', Same H H' → TieX G H' p k n x → Q' p H') :
    ∀ p dx, H p = none → H dx = none → dx ≠ p → spInitP G cBN k [.ref p, .str x] (upd (upd H dx (.own p)) p (.ins (G k) dx [])) (fun u H2 => u = .non ∧ Q' p H2) E :=
  (made_ok (cBU := cBU) (Q := fun v H' => match v with | .ref p => Q' p H' | _ => True) nm ok kk).pl hk
theorem eqvAll_strs : ∀ a b : List Str, PyData.eqvAll (a.map PyData.str) (b.map PyData.str) = decide (a = b)
  | [], [] => rfl
  | [], _ :: _ => rfl
  | _ :: _, [] => rfl
  | x :: a, y :: b => by
    have ih := eqvAll_strs a b
    show (PyData.eqv (.str x) (.str y) && PyData.eqvAll (a.map PyData.str) (b.map PyData.str)) = decide (x :: a = y :: b)
    rw [ih]
    show ((x == y) && decide (a = b)) = decide (x :: a = y :: b)
    rw [Bool.eq_iff_iff, Bool.and_eq_true, beq_iff_eq, decide_eq_true_eq, decide_eq_true_eq, List.cons.injEq]
theorem eqv_strs (a b : List Str) : PyData.eqv (.list (a.map PyData.str)) (.list (b.map PyData.str)) = decide (a = b) := eqvAll_strs a b
theorem sk_app {a b : Str} (h1 : PyData.strOk a = true) (h2 : PyData.strOk b = true) : PyData.strOk (a ++ b) = true := by
  unfold PyData.strOk at h1 h2 ⊢
  show (a.cps ++ b.cps).all _ = true
  rw [Array.all_append, h1, h2]
  rfl
theorem sk_join : ∀ {q : List Str}, (∀ w ∈ q, PyData.strOk w = true) → PyData.strOk (Str.join " " q) = true
  | [], _ => by decide +kernel
  | [a], h => h a (by simp)
  | a :: b :: r, h => sk_app (sk_app (h a (by simp)) (by decide +kernel)) (sk_join (q := b :: r) fun w hw => h w (List.mem_cons_of_mem _ hw))
theorem parts_shaped {j : Nat} {us : List Str} (hj : j ≤ 3) (h : ∀ u ∈ us, PartOk j u) : SeqAt.shaped (.list (us.map PyData.str)) = true :=
  shaped_strs (List.all_eq_true.mpr fun u hu => by
    obtain ⟨q, _, m, _, e⟩ := h u hu
    rw [e, TL.join_eq]
    exact sk_join fun w hw => W_sk (wlv_check hj (m w hw)))
theorem words_parts {k : Kd} {n : Int} {x : Str} (nx : NmW x) (ok : NumOk k n) : ∀ u ∈ wordsT k n x, PartOk 0 u := fun u hu => part_one (words_wlv nx ok u hu)
theorem wordOf_inj {k j : Kd} (h : wordOf k = wordOf j) : k = j := by
  have a := kind_word k
  rw [h, kind_word j] at a
  exact (Option.some.inj a).symm
theorem words_eq {k j : Kd} {n m : Int} {x y : Str} (ok : NumOk k n) (ok2 : NumOk j m) : wordsT k n x = wordsT j m y ↔ (j = k ∧ x = y ∧ (isNum k = true → n = m)) := by
  constructor
  · intro h
    have h0 : k = j := by
      unfold wordsT at h
      split at h <;> split at h
      · exact wordOf_inj (List.cons.inj h).1
      · exact wordOf_inj (List.cons.inj h).1
      · exact wordOf_inj (List.cons.inj h).1
      · exact wordOf_inj (List.cons.inj h).1
    subst h0
    unfold wordsT at h
    cases e : isNum k with
    | true =>
      rw [if_pos e, if_pos e] at h
      have h1 := List.cons.inj (List.cons.inj h).2
      exact ⟨rfl, (List.cons.inj h1.2).1, fun _ => num_inj ⟨ok.lo, ok.hi⟩ ⟨ok2.lo, ok2.hi⟩ h1.1⟩
    | false =>
      rw [if_neg (by rw [e]; decide), if_neg (by rw [e]; decide)] at h
      exact ⟨rfl, (List.cons.inj (List.cons.inj h).2).1, fun q => by cases q⟩
  · rintro ⟨rfl, rfl, h⟩
    unfold wordsT
    cases e : isNum j with
    | true => rw [if_pos rfl, if_pos rfl, h e]
    | false => rfl
theorem bools_dp {K : PySem.W.Frag} {H : Hp} : ∀ bs : List Bool, DpAll K H (bs.map V.bl) (bs.map PyData.bool)
  | [] => .nil
  | a :: r => .cons (.bl a) (bools_dp r)
def kindsB (k : Kd) : List Bool := [kEq k .bk, kEq k .ah, kEq k .so, kEq k .wh, kEq k .la, kEq k .sm, isNum k, true]
theorem kinds_shaped (k : Kd) : SeqAt.shaped (.list ((kindsB k).map PyData.bool)) = true := by cases k <;> decide +kernel
theorem kinds_cut (k : Kd) : cutV (kindsV k) (some 6) none = [V.bl (isNum k), V.bl true] := by cases k <;> rfl
theorem two_shaped (b : Bool) : SeqAt.shaped (.list [.bool b, .bool true]) = true := by cases b <;> decide +kernel
theorem show_all : (List.range 61).all (fun (i : Nat) => PyData.showable (.list [.int (i : Int), .int (i : Int)]) && (decide (PyData.depth (.list [.int (i : Int), .int (i : Int)]) ≤ 64) && decide ((PyData.shown (.list [.int (i : Int), .int (i : Int)])).length ≤ 1000))) = true := by decide +kernel
theorem ints_show {n : Int} (h : 0 ≤ n ∧ n ≤ 60) : PyData.showable (.list [.int n, .int n]) = true ∧ PyData.depth (.list [.int n, .int n]) ≤ 64 ∧ (PyData.shown (.list [.int n, .int n])).length ≤ sizeLine := by
  have := List.all_eq_true.mp show_all n.toNat (List.mem_range.mpr (by omega))
  rw [show ((n.toNat : Nat) : Int) = n by omega, Bool.and_eq_true, Bool.and_eq_true, decide_eq_true_eq, decide_eq_true_eq] at this
  exact ⟨this.1, this.2.1, Nat.le_trans this.2.2 (by decide)⟩
theorem bool_show (b : Bool) : PyData.showable (.bool b) = true ∧ PyData.depth (.bool b) ≤ 64 ∧ (PyData.shown (.bool b)).length ≤ sizeLine := by cases b <;> exact ⟨by decide +kernel, by decide +kernel, Nat.le_trans (by decide +kernel : _ ≤ 100) (by decide)⟩
end My
namespace My
open PySem PySem.Spec PyProof.Rows L2
theorem lens_400 : ∀ {us : List Str}, (∀ u ∈ us, u.length ≤ 400) → (us.map (·.length)).sum ≤ 400 * us.length
  | [], _ => by simp
  | a :: r, h => by
    have h1 := h a (by simp)
    have h2 := lens_400 (us := r) fun w hw => h w (by simp [hw])
    simp only [List.map_cons, List.sum_cons, List.length_cons]
    omega
theorem any_line {j : Nat} {us : List Str} (h : ∀ u ∈ us, PartOk j u) : ∃ ws : List Str, Txt.join " " us = Txt.join " " ws ∧ ws ≠ [] ∧ (∀ w ∈ ws, WLv j w) ∧ ws.length ≤ us.length * (1 + j) + 1 := by
  cases us with
  | nil => exact ⟨[""], by decide +kernel, by simp, fun w hw => by rw [List.mem_singleton.mp hw]; exact empty_wlv _, by simp⟩
  | cons a r =>
    obtain ⟨ws, e, n, m, l⟩ := parts_line (us := a :: r) (by simp) h
    exact ⟨ws, e, n, m, by omega⟩
def spLawT (K : PySem.W.Frag) (Pt : Addr) : Sp := fun vs H Q _ => ∃ (a : Addr) (ns : List Int), vs = [.ref a] ∧ H Pt = some (.tbl #[]) ∧ SqL K H a (ns.map V.int) ∧ ns.length ≤ 63 ∧ ∀ H', Q (.bl true) H'
section
variable {P : Program} {w : World} {K : PySem.W.Frag} {mg : Str → Option Value} {base : Heap} {C Cw fWhole fBetw fDay fChk fName fDraw fPick fPen fWo fLt fMd fKi fBe fDu fHe fRd pRd c Pt cBT fBT cT cN fTI fNI cBN cBU : Addr} {G : Kd → Addr} {dDraw dPick dPen dWo dLt dMd dKi dBe dDu dHe dRd : FuncData} {fI fT fE : Kd → Addr} {dI dT dE : Kd → FuncData}
theorem scLaw : FnScope ["_law_script", "_law_pen_here", "_law_turn", "_law_told", "_law_other", "_law_tie_here", "_law_line", "_law_back", "_law_words", "_law_lap", "_law_due_here", "_law_heard_here", "_law_odd"] ["_law_script"] (defScope sLaw) := ⟨rfl, rfl, rfl, by decide +kernel, rfl, by decide +kernel, by decide +kernel⟩
set_option maxHeartbeats 16000000 in
theorem ok_law {f : Addr} {fd : FuncData} (F : Fun K "law" "law" sLaw f fd) (hc : fd.code = .ref c) (T : Txt K mg C fWhole fBetw fDay fChk) (Y : Ty K mg G cT cN fTI fNI fName) (X' : Mx K G cT cN) (M : MkT P w K mg base G cBN cBU fI dI) (kCS : PySem.W.kitOne K (.ref (G .la)) (.type "str") = some false) (EQ : EqT P w K mg base G fE dE) (ST : StrT P w K mg base G fT dT) (TB : LamX.TabB base mg c Pt)
    (DP : Df P w K mg base "_law_pen" 1 fPen dPen ["_law_script"] (spPen K)) (DI : Df P w K mg base "_law_pick" 2 fPick dPick ["_law_pen_here", "_law_some"] (spPick K)) (DWo : Df P w K mg base "_law_word" 3 fWo dWo ["_law_pen_here"] spWord) (DL : Df P w K mg base "_law_tie" 3 fLt dLt ["_law_pen_here", "_law_names_here"] spLTie) (DM : Df P w K mg base "_law_made_tie" 6 fMd dMd ["_law_told"] (spMade G))
    (DK8 : Df P w K mg base "_law_kinds" 1 fKi dKi ["_law_tie_here"] (spKinds G)) (DB : Df P w K mg base "_law_bent" 4 fBe dBe ["_law_pen_here", "_law_words"] spBent) (DU : Df P w K mg base "_law_due" 2 fDu dDu ["_law_line"] spDue)
    (RT : FnOk P w K mg base (L2.CX P w) 7 fRd dRd ["cls", "text"] (spRT K G cT cBT)) (bRT : Binds K dRd ["cls", "text"] []) (kRT : KBinds K dRd ["cls", "text"] ["text"] gD gD) (cm : ClX.CMet K cT (.type "type") "read" pRd fRd)
    (FH : Fun K "_law_heard" "_law_heard" sHeard fHe dHe) (bH : Binds K dHe ["_law_ask"] []) (gH : mg "_law_heard" = some (.ref fHe)) (HT : HeardT K mg cBT fBT) : FnG P w K mg base CX0 10 f fd ["_law_script"] (spLawT K Pt) := by
  refine okGc F hc scLaw (fun vs H Q E h => ?_) (fun A outer s H vs Q E gd hr h => ?_)
  · obtain ⟨a, ns, rfl, _⟩ := h
    rfl
  · obtain ⟨a, ns, rfl, hT, hS, hlen, kk⟩ := h
    have hr1 : Room 1 _ := hr.mono (by decide)
    have hr2 : Room 2 _ := hr.mono (by decide)
    have hr3 : Room 3 _ := hr.mono (by decide)
    have hr4 : Room 4 _ := hr.mono (by decide)
    have hr5 : Room 5 _ := hr.mono (by decide)
    have hr6 : Room 6 _ := hr.mono (by decide)
    have hr7 : Room 7 _ := hr.mono (by decide)
    have hu70 : (A.deeper (envOfC "law" (defScope sLaw) s.heap.objs.size f (.ref c))).units + 70 < cLine := by have := hr.un; omega
    refine ⟨_, pss_cons (ps_set (i := 1) scLaw.nd rfl (Or.inl rfl) (pe_call DP.F hr1 rfl DP.g DP.kp DP.b .nil pass0 (pa_cons (pv 0) pa_nil))) (pss_cons (ps_for PassesOwn.never rfl (pi_range1 rfl T.zRange (pa_cons pe_int pa_nil)) (pg_name (i := 2) scLaw.nd rfl (Or.inl rfl)) (pss_cons (ps_par (i := 3) (j := 4) (by rfl) scLaw.nd rfl rfl (by decide) rfl rfl (pa_cons (pe_call DL.F hr3 rfl DL.g DL.kp DL.b .nil pass0 (pa_cons (pv 1) (pa_cons (pe_lst (pa_cons (pe_call DWo.F hr3 rfl DWo.g DWo.kp DWo.b .nil pass0 (pa_cons (pv 1) pa_nil)) pa_nil)) pa_nil))) (pa_cons (pe_call DL.F hr3 rfl DL.g DL.kp DL.b .nil pass0 (pa_cons (pv 1) (pa_cons (pe_lst (pa_cons (pe_call DWo.F hr3 rfl DWo.g DWo.kp DWo.b .nil pass0 (pa_cons (pv 1) pa_nil)) pa_nil)) pa_nil))) pa_nil)) (by rfl)) (pss_cons (ps_asg (pe_tup (pa_cons (pe_call DM.F hr6 rfl DM.g DM.kp DM.b .nil pass0 (pa_cons (pv 3) pa_nil)) (pa_cons (pe_join pe_str (pv 3)) pa_nil))) (pg_tup rfl (pgs_cons (pg_name (i := 5) scLaw.nd rfl (Or.inl rfl)) (pgs_cons (pg_name (i := 6) scLaw.nd rfl (Or.inr rfl)) pgs_nil)))) (pss_cons (ps_set (i := 7) scLaw.nd rfl (Or.inl rfl) (ClX.pe_cmeth (pe_glob (v := .ref cT) rfl Y.gT rfl) Y.rT cm (RT.raw bRT .nil) hr7 passL (pa_cons (pv 6) pa_nil))) (pss_cons (ps_if (PW.pt (pw_or (pt_cmpR op_ne (pe_exK fun k => pe_callTy (call_strO (ST.at_ k) (ST.fn k) ((ST.F k).raw (ST.b k) .nil) hr3 pass0) (by rfl) T.zStr (by decide +kernel) (pa_cons (pv 5) pa_nil)) (pv 6) (nomark _)) (pw_or (pt_cmpR (opr_ex fun k => op_neO (EQ.no k) ((EQ.F k).raw (EQ.b k) .nil) hr2 pass0) (pv 7) (pv 5) (nomark _)) (pw_or (pt_cmpR op_ne (pe_fld (pe_cmethK (pe_glob (v := .ref cT) rfl Y.gT rfl) Y.rT cm RT hr7 kRT passL (pk_cons (pv 6) pk_nil)) rfl) (pe_ix ix_list (pv 3) (pe_un un_neg pe_int) (fun _ _ => rfl)) (nomark _)) (pw_or1 (pt_cmpR (opr_ex fun k => op_eqO (EQ.eo k) ((EQ.F k).raw (EQ.b k) .nil) hr2 pass0) (pv 5) (pv 6) (nomark _))))))) pss_never pss_nil) (pss_cons (ps_if (PW.pt (pw_or (pt_cmpR (op_neD hr.units) (pe_call DK8.F hr1 rfl DK8.g DK8.kp DK8.b .nil pass0 (pa_cons (pv 7) pa_nil)) (pe_call DK8.F hr1 rfl DK8.g DK8.kp DK8.b .nil pass0 (pa_cons (pv 5) pa_nil)) (nomark _)) (pw_or1 (pt_cmpR (op_neD hr.units) (pe_slice sl_list (pe_call DK8.F hr1 rfl DK8.g DK8.kp DK8.b .nil pass0 (pa_cons (pv 5) pa_nil)) (po_some pe_int) po_none) (pe_lst (pa_cons (pe_cmpR op_in_seq (pe_ix ix_list (pv 3) pe_int (fun _ _ => rfl)) (pe_tup (pa_cons pe_str (pa_cons pe_str pa_nil))) (by rfl)) (pa_cons pe_bl pa_nil))) (nomark _))))) pss_never pss_nil) (pss_cons (ps_if (PW.pt (pw_and (pt_cmpR op_eq (pe_callB call_len_seq (by rfl) T.zLen PySem.boot_len (pa_cons (pv 3) pa_nil)) pe_int (nomark _)) (pw_and1 (pt_cmpR op_ne (pe_callB (cr_reprO gd hu70) (by rfl) T.zRepr (by decide +kernel) (pa_cons (pe_lst (pa_cons (pe_fld (pv 5) rfl) (pa_cons (pe_fld (pv 7) rfl) pa_nil))) pa_nil)) (pe_callB (cr_reprO gd hu70) (by rfl) T.zRepr (by decide +kernel) (pa_cons (pe_op op_rep (pe_lst (pa_cons (pe_callTy call_int_str (by rfl) T.zInt (by decide +kernel) (pa_cons (pe_ix ix_list (pv 3) pe_int (fun _ _ => rfl)) pa_nil)) pa_nil)) pe_int) pa_nil)) (nomark _))))) pss_never pss_nil) (pss_cons (ps_if (pt_cmpR op_ne (pe_callB (cr_reprO gd hu70) (by rfl) T.zRepr (by decide +kernel) (pa_cons (pe_cmpR (opr_ex fun k => op_eqO (EQ.eo k) ((EQ.F k).raw (EQ.b k) .nil) hr2 pass0) (pv 5) (pe_call DM.F hr6 rfl DM.g DM.kp DM.b .nil pass0 (pa_cons (pv 4) pa_nil)) (nomark _)) pa_nil)) (pe_callB (cr_reprO gd hu70) (by rfl) T.zRepr (by decide +kernel) (pa_cons (pe_cmpR (op_eqD hr.units) (pv 3) (pv 4) (nomark _)) pa_nil)) (nomark _)) pss_never pss_nil) (pss_cons (ps_set (i := 8) scLaw.nd rfl (Or.inl rfl) (pv 3)) (pss_one (ps_for PassesOwn.never rfl (pi_range1 rfl T.zRange (pa_cons pe_int pa_nil)) (pg_name (i := 9) scLaw.nd rfl (Or.inl rfl)) (pss_cons (ps_set (i := 8) scLaw.nd rfl (Or.inl rfl) (pe_ifExp (pt_cmpR (op_neD hr.units) (pv 8) (pe_lst pa_nil) (nomark _)) (pe_call DB.F hr4 rfl DB.g DB.kp DB.b .nil pass0 (pa_cons (pv 1) (pa_cons (pv 8) pa_nil))) (pe_lst (pa_cons pe_str pa_nil)))) (pss_cons (ps_set (i := 6) scLaw.nd rfl (Or.inr rfl) (pe_join pe_str (pv 8))) (pss_cons (ps_par (i := 10) (j := 11) (by rfl) scLaw.nd rfl rfl (by decide) rfl rfl (pa_cons (pe_call DU.F hr2 rfl DU.g DU.kp DU.b .nil pass0 (pa_cons (pv 6) pa_nil)) (pa_cons (pe_heard (Str.ofString "law" ++ Str.ofString ".<locals>.") (by rfl) FH bH gH HT gd TB rfl hr rfl (defScope sLaw) rfl (by decide +kernel) rfl (fun _ _ _ _ _ => rfl) (fun A outer s H E f c' hr => ClX.pe_cmeth (E := E) (pe_glob (v := .ref cT) rfl Y.gT rfl) Y.rT cm (RT.raw bRT .nil) (hr.mono (by decide)) (passes_call (takes_of rfl rfl rfl rfl) fun _ _ _ _ h => h) (pa_cons (pv 6) pa_nil))) pa_nil)) (by rfl)) (pss_one (ps_if (PW.pt (pw_or (PW.pt (pw_and (pt_cmp (pc_notN (pv 10))) (pw_and1 (pt_cmpR (op_neD hr.units) (pv 11) (pe_tup (pa_cons pe_str (pa_cons pe_int (pa_cons (pv 10) pa_nil)))) (nomark _))))) (pw_or1 (PW.pt (pw_and (pt_cmp (pc_isN (pv 10))) (pw_and1 (pt_cmpR op_ne (pe_exK fun k => pe_callTy (call_strO (ST.at_ k) (ST.fn k) ((ST.F k).raw (ST.b k) .nil) hr3 pass0) (by rfl) T.zStr (by decide +kernel) (pa_cons (pe_ix ix_list (pv 11) pe_int (fun _ _ => rfl)) pa_nil)) (pv 6) (nomark _)))))))) pss_never pss_nil)))))))))))))))) (pss_cons (ps_set (i := 12) scLaw.nd rfl (Or.inr rfl) (pe_call DI.F hr2 rfl DI.g DI.kp DI.b .nil pass0 (pa_cons (pv 1) (pa_cons (pe_lst (pa_cons pe_non (pa_cons pe_int (pa_cons pe_bl (pa_cons (pe_tup (pa_cons pe_str (pa_cons pe_str pa_nil))) (pa_cons (pe_lst (pa_cons pe_str pa_nil)) (pa_cons pe_dnewK (pa_cons (pe_make (M.m .la) (M.fp .la rfl) hr5 rfl Y.gLa (M.bp .la rfl) .nil passL (pa_cons pe_str pa_nil)) pa_nil)))))))) pa_nil)))) (pss_one (ps_ret (pe_cmpR (op_eqD hr.units) (pe_heard (Str.ofString "law" ++ Str.ofString ".<locals>.") (by rfl) FH bH gH HT gd TB rfl hr rfl (defScope sLaw) rfl (by decide +kernel) rfl (fun _ _ _ _ _ => rfl) (fun A outer s H E f c' hr => ClX.pe_cmeth (E := E) (pe_glob (v := .ref cT) rfl Y.gT rfl) Y.rT cm (RT.raw bRT .nil) (hr.mono (by decide)) (passes_call (takes_of rfl rfl rfl rfl) fun _ _ _ _ h => h) (pa_cons (pv 12) pa_nil))) (pe_tup (pa_cons pe_str (pa_cons pe_int (pa_cons pe_int pa_nil)))) (nomark _)))))), ?_⟩
    refine ⟨_, rfl, a, ns, rfl, hS, hlen, fun p l H1 s1 pen0 => ?_⟩
    have tb0 : LamX.Tabs [(Pt, ((Str.ofString "law" ++ Str.ofString ".<locals>.") ++ Str.ofString "<lambda>"))] H1 := fun q hq => by
      rw [List.mem_singleton.mp hq]
      exact .nil (s1 _ _ hT)
    generalize hQ : ((Str.ofString "law" ++ Str.ofString ".<locals>.") ++ Str.ofString "<lambda>") = qq at tb0 ⊢
    refine ⟨8, rfl, by decide, by decide, for_range (lo := 0) (n := 8) (fun i σ H' => ∃ v2 v3 v4 v5 v6 v7 v8 v9 v10 v11 : Option V, σ = [some (.ref a), some (.ref p), v2, v3, v4, v5, v6, v7, v8, v9, v10, v11, none] ∧ PenAt H' p l (200 * i) ∧ LamX.Tabs [(Pt, qq)] H') ⟨none, none, none, none, none, none, none, none, none, none, rfl, pen0.le (by omega), tb0⟩ ?_ ?_⟩
    · rintro i σ H2 hi ⟨v2, v3, v4, v5, v6, v7, v8, v9, v10, v11, rfl, pen2, tb2⟩
      clear tb0 pen0
      have lay : ∀ {H' : Hp} {t : Addr} {M : Int}, PenAt H' p l M → H' t = none → t ≠ p := fun {H' t M} pn nt => let ⟨_, e⟩ := pn.lst; Ne.symm (ne_of_none e nt)
      obtain ⟨px, hpx⟩ := pen2.lst
      -- two drawn ties
      refine ⟨_, rfl, _, rfl, p, l, 200 * i, rfl, pen2, by omega, fun x1 H3 nx1 sb3 pen3 => ⟨(by show 1 ≤ sizeLine; decide), fun W1 nW1 => ?_⟩⟩
      have sW1 := same_new (o := .lst [V.str x1]) nW1
      refine ⟨p, l, W1, 200 * i + 11, [x1], rfl, pen3.same sW1, by omega, upd_same, lay pen3 nW1, (by show 0 < 1; decide), (by show 1 ≤ 100; decide), (fun z hz => by rw [List.mem_singleton.mp hz]; exact nx1), fun t k n x H4 sb4 pen4 ht ntp nx ok => ?_⟩
      refine ⟨_, rfl, _, rfl, p, l, 200 * i + 15, rfl, pen4.le (by omega), by omega, fun x2 H5 nx2 sb5 pen5 => ⟨(by show 1 ≤ sizeLine; decide), fun W2 nW2 => ?_⟩⟩
      have sW2 := same_new (o := .lst [V.str x2]) nW2
      refine ⟨p, l, W2, 200 * i + 26, [x2], rfl, (pen5.same sW2).le (by omega), by omega, upd_same, lay pen5 nW2, (by show 0 < 1; decide), (by show 1 ≤ 100; decide), (fun z hz => by rw [List.mem_singleton.mp hz]; exact nx2), fun t2 k2 n2 y2 H6 sb6 pen6 ht2 ntp2 ny2 ok2 => ?_⟩
      have sb36 := ((sb3.trans (Same.but sW1)).trans sb4).trans ((sb5.trans (Same.but sW2)).trans sb6)
      have ht6 := ((sb5.trans (Same.but sW2)).trans sb6) _ _ ntp ht
      have tb6 : LamX.Tabs [(Pt, qq)] H6 := tabs_but tb2 sb36 hpx
      clear sb36 sb6 sW2 nW2 sb5 pen5 sb4 sW1 nW1 sb3 pen3 pen4 pen2 tb2 hpx ht
      have nm := nx.name
      have nm2 := ny2.name
      refine ⟨_, _, rfl, ?_⟩
      refine ⟨_, rfl, t, k, n, x, rfl, ht6, nm, ok, fun m H7 s7 c7 => ?_⟩
      refine ⟨⟨_, rfl⟩, _, rfl, " ", t, wordsT k n x, rfl, rfl, .inl (SqL.of (s7 _ _ ht6)), ?_, ?_⟩
      · have hs := lens_W (ws := wordsT k n x) (words_ok nx ok).mem
        have hl := words_len k n x
        have l1 : (Str.ofString " ").length = 1 := rfl
        rw [l1]
        omega
      refine ⟨(by show 2 ≤ sizeLine; decide), fun t0 nt0 => ⟨t0, _, rfl, SqT.of upd_same, rfl, _, _, rfl, _, _, rfl, rfl, ?_⟩⟩
      have s8 := same_new (o := .tup [.ref m, .str (Txt.join " " (wordsT k n x))]) nt0
      have s78 := s7.trans s8
      have c8 := c7.same s8
      have ht8 := s78 _ _ ht6
      have ht28 := s78 _ _ ht2
      have pen8 := (pen6.same s7).same s8
      have tb8 := tabs_same (tabs_same tb6 s7) s8
      generalize upd H7 t0 (.tup [.ref m, .str (Txt.join " " (wordsT k n x))]) = H8 at c8 ht8 ht28 pen8 tb8 ⊢
      clear s78 s8 s7 c7 nt0 ht6 ht2 pen6 tb6
      obtain ⟨aw, hw⟩ := words_out nm ok
      -- read back
      refine ⟨rfl, _, rfl, _, rfl, .inl ⟨wordsT k n x, rfl, words_ok nx ok, (by rw [hw]; trivial), fun k' n' x' a' e nm' ok' mq H9 s9 t9 => ?_⟩⟩
      rw [hw] at e
      cases e
      have c9 := c8.same s9
      obtain ⟨dx, h1⟩ := c9.ob
      obtain ⟨dq, g1⟩ := t9.ob
      have ht9 := s9 _ _ ht8
      have ht29 := s9 _ _ ht28
      have pen9 := pen8.same s9
      have tb9 := tabs_same tb8 s9
      clear s9 c8 ht8 ht28 pen8 tb8
      refine ⟨k, _, rfl, m, dx, _, rfl, h1, m, n, x, rfl, c9, nm, ok, _, rfl, _, rfl, rfl, _, rfl, ?_⟩
      rw [decide_eq_true (congrArg V.str (words_text k n x))]
      refine iteF ⟨_, rfl, _, rfl, k, mq, m, dq, dx, _, _, rfl, rfl, g1, h1, mq, .ref m, n, x, rfl, t9, .inl ⟨m, k, n, x, rfl, c9, fun _ _ _ => ⟨true, rfl, _, rfl, iteF ?_⟩, fun z => absurd ⟨rfl, rfl, fun _ => rfl⟩ z⟩⟩
      refine ⟨rfl, _, rfl, _, rfl, .inl ⟨wordsT k n x, rfl, words_ok nx ok, (by rw [hw]; trivial), fun k' n' x' a' e nm' ok' m3 HA sA tA => ?_⟩⟩
      rw [hw] at e
      cases e
      obtain ⟨d3, g3⟩ := tA.ob
      have hneg : atI ((wordsT k n x).map V.str) (-1) = some (.str x) := by
        unfold wordsT
        cases isNum k <;> rfl
      have c10 := c9.same sA
      have t10 := t9.same sA
      have h10 := sA _ _ h1
      have g10 := sA _ _ g1
      have ht10 := sA _ _ ht9
      have ht210 := sA _ _ ht29
      have pen10 := pen9.same sA
      have tb10 := tabs_same tb9 sA
      refine ⟨m3, G k, d3, _, _, rfl, g3, Y.cl k, Y.nS k, tflV_src _ _ _, _, rfl, 1, rfl, t, _, _, _, rfl, rfl, SqL.of ht10, hneg, rfl, _, rfl, ?_⟩
      rw [decide_eq_true rfl]
      clear sA tA g3 c9 t9 h1 g1 ht9 ht29 pen9 tb9
      refine iteF ⟨_, rfl, _, rfl, k, m, dx, _, .type "str", rfl, h10, .base (.str _), .inr (X'.sB k).2.1, m, .str _, n, x, rfl, c10, .inr ⟨"str", .base (.str _), (X'.kB k).2.1, false, rfl, _, rfl, iteF ?_⟩⟩
      -- kinds
      refine ⟨_, rfl, mq, k, n, x, rfl, t10, fun u1 HB sB hu1 => ⟨_, rfl, m, k, n, x, rfl, c10.same sB, fun u2 HC sC hu2 => ?_⟩⟩
      have kE : PyData.eqv (.list ((kindsB k).map PyData.bool)) (.list ((kindsB k).map PyData.bool)) = true := SeqAt.eqv_refl _ (SeqAt.canLay_of_shaped (kinds_shaped k))
      refine ⟨.list ((kindsB k).map PyData.bool), .list ((kindsB k).map PyData.bool), .lst (SqL.of (sC _ _ hu1)) (bools_dp (kindsB k)), .lst (SqL.of hu2) (bools_dp (kindsB k)), kinds_shaped k, kinds_shaped k, _, rfl, ?_⟩
      rw [kE]
      have sBC := sB.trans sC
      refine iteF ⟨_, rfl, m, k, n, x, rfl, c10.same sBC, fun u3 HD sD hu3 => ⟨_, rfl, u3, _, rfl, SqL.of hu3, fun A1 nA1 => ?_⟩⟩
      rw [kinds_cut]
      have sE := (sBC.trans sD).trans (same_new (o := .lst [V.bl (isNum k), V.bl true]) nA1)
      have hA1 := upd_same (H := HD) (a := A1) (o := .lst [V.bl (isNum k), V.bl true])
      generalize upd HD A1 (.lst [V.bl (isNum k), V.bl true]) = HE at sE hA1 ⊢
      have w0 : ((wordsT k n x).map V.str)[0]? = some (.str (wordOf k)) := by unfold wordsT; cases isNum k <;> rfl
      refine ⟨_, rfl, t, _, _, _, rfl, rfl, SqL.of (sE _ _ ht10), atI_nat (j := 0) w0, (by show 2 ≤ sizeLine; decide), fun T2 nT2 => ?_⟩
      have sT := same_new (o := .tup [.str "back", .str "ahead"]) nT2
      refine ⟨T2, _, rfl, .inr (SqT.of upd_same), rfl, by rfl, ?_⟩
      rw [in_two k]
      refine ⟨(by show 2 ≤ sizeLine; decide), fun B1 nB1 => ?_⟩
      have sU := sT.trans (same_new (o := .lst [V.bl (if false = true then !isNum k else isNum k), V.bl true]) nB1)
      refine ⟨.list [.bool (isNum k), .bool true], .list [.bool (isNum k), .bool true], .lst (SqL.of (sU _ _ hA1)) (.cons (.bl _) (.cons (.bl _) .nil)), .lst (SqL.of upd_same) (.cons (.bl _) (.cons (.bl _) .nil)), two_shaped _, two_shaped _, _, rfl, ?_⟩
      rw [SeqAt.eqv_refl _ (SeqAt.canLay_of_shaped (two_shaped (isNum k)))]
      have sF := sE.trans sU
      have c11 := c10.same sF
      have t11 := t10.same sF
      have h11 := sF _ _ h10
      have g11 := sF _ _ g10
      have ht11 := sF _ _ ht10
      have ht211 := sF _ _ ht210
      have pen11 := pen10.same sF
      have tb11 := tabs_same tb10 sF
      refine iteF ?_
      generalize (upd (upd HE T2 (.tup [.str "back", .str "ahead"])) B1 (.lst [V.bl (if false = true then !isNum k else isNum k), V.bl true])) = HF at c11 t11 h11 g11 ht11 ht211 pen11 tb11 ⊢
      clear sF sU nB1 sT nT2 sE hA1 nA1 sD hu3 sBC hu2 sC hu1 sB c10 t10 h10 g10 ht10 ht210 pen10 tb10
      -- the numbers
      have num : ∀ (R : Prop), R → (isNum k = true → R) → R := fun _ r _ => r
      refine ⟨_, rfl, t, _, rfl, .inl (SqL.of ht11), rfl, _, rfl, ?_⟩
      cases en : isNum k with
      | true =>
        have w3 : (wordsT k n x).length = 3 := by unfold wordsT; rw [if_pos en]; rfl
        have w1 : ((wordsT k n x).map V.str)[1]? = some (.str (toString n : String)) := by unfold wordsT; rw [if_pos en]; rfl
        have hv : numV k n = .int n := by unfold numV; rw [if_pos en]
        rw [List.length_map, w3, decide_eq_true (show V.int ((3 : Nat) : Int) = V.int 3 from rfl)]
        obtain ⟨q1, q2, q3⟩ := ints_show ⟨ok.lo, ok.hi⟩
        have l3 : ((toString n : String) : Str).length ≤ 640 := Nat.le_trans (num_len ok.lo ok.hi) (by decide)
        refine iteT ⟨_, rfl, m, G k, dx, _, .int n, rfl, h11, Y.cl k, Y.nN k, (by rw [tflV_num en, hv]), _, rfl, mq, G k, dq, _, .int n, rfl, g11, Y.cl k, Y.nN k, (by rw [tflV_num en, hv]), (by show 2 ≤ sizeLine; decide), fun R1 nR1 => ?_⟩
        have sR1 := same_new (o := .lst [V.int n, V.int n]) nR1
        refine ⟨.ref R1, .list [.int n, .int n], rfl, .inl ⟨.lst (SqL.of upd_same) (.cons (.int n) (.cons (.int n) .nil)), rfl⟩, q1, q2, q3, ?_⟩
        refine ⟨_, rfl, t, _, _, _, rfl, rfl, SqL.of (sR1 _ _ ht11), atI_nat (j := 1) w1, _, n, rfl, num_int ⟨ok.lo, ok.hi⟩, l3, (by show 1 ≤ sizeLine; decide), fun R2 nR2 => ?_⟩
        have sR2 := sR1.trans (same_new (o := .lst [V.int n]) nR2)
        refine ⟨R2, 2, _, rfl, rfl, upd_same, by decide, by decide, (by show 1 * 2 ≤ sizeLine; decide), fun R3 nR3 => ?_⟩
        have sR3 := sR2.trans (same_new (o := .lst (List.replicate ((2 : Int).toNat) [V.int n]).flatten) nR3)
        refine ⟨.ref R3, .list [.int n, .int n], rfl, .inl ⟨.lst (SqL.of upd_same) (.cons (.int n) (.cons (.int n) .nil)), rfl⟩, q1, q2, q3, rfl, _, rfl, ?_⟩
        rw [decide_eq_true rfl]
        refine iteF ?_
        replace c11 := c11.same sR3
        replace h11 := sR3 _ _ h11
        replace ht11 := sR3 _ _ ht11
        replace ht211 := sR3 _ _ ht211
        replace pen11 := pen11.same sR3
        replace tb11 := tabs_same tb11 sR3
        generalize upd (upd (upd HF R1 (.lst [V.int n, V.int n])) R2 (.lst [V.int n])) R3 (.lst (List.replicate ((2 : Int).toNat) [V.int n]).flatten) = HF2 at c11 h11 ht11 ht211 pen11 tb11 ⊢
        have shp : SeqAt.shaped (.list ((wordsT k n x).map PyData.str)) = true := parts_shaped (j := 0) (by decide) (words_parts nx ok)
        have shp2 : SeqAt.shaped (.list ((wordsT k2 n2 y2).map PyData.str)) = true := parts_shaped (j := 0) (by decide) (words_parts ny2 ok2)
        have su : (Value.ref (G k2)) = .ref (G k) ∨ PySem.W.subIn K (.ref (G k2)) (.ref (G k)) = some false := by
          cases e : kEq k2 k with
          | true => exact .inl (by rw [(kEq_iff _ _).mp e])
          | false => exact .inr (X'.su _ _ e)
        refine ⟨_, rfl, _, rfl, t2, k2, n2, y2, rfl, ht211, nm2, ok2, fun m2 HG sG c2 => ?_⟩
        have h12 := sG _ _ h11
        have c12 := c11.same sG
        have ht12 := sG _ _ ht11
        have ht212 := sG _ _ ht211
        have pen12 := pen11.same sG
        have tb12 := tabs_same tb11 sG
        refine ⟨k, m, dx, _, .ref (G k2), rfl, h12, X'.ty c2, su, m, .ref m2, n, x, rfl, c12, .inl ⟨m2, k2, n2, y2, rfl, c2, fun e1 e2 e3 => ⟨true, rfl, ?_⟩, fun ne => ⟨false, rfl, ?_⟩⟩⟩
        · obtain ⟨b1, b2, b3⟩ := bool_show true
          refine ⟨.bl true, .bool true, rfl, .inl ⟨.bl _, rfl⟩, b1, b2, b3, _, rfl, _, rfl, _, _, .lst (SqL.of ht12) (dp_strs _), .lst (SqL.of ht212) (dp_strs _), shp, shp2, ?_⟩
          rw [eqv_strs, decide_eq_true ((words_eq ok ok2).mpr ⟨e1, e2, e3⟩)]
          refine ⟨.bl true, .bool true, rfl, .inl ⟨.bl _, rfl⟩, b1, b2, b3, rfl, _, rfl, ?_⟩
          rw [decide_eq_true rfl]
          refine iteF ?_
          refine ⟨_, rfl, ?_⟩
          refine ⟨3, rfl, by decide, by decide, for_range (lo := 0) (n := 3) (fun j σ H' => ∃ (v6 : Str) (v9 v10 v11 : Option V) (ul : Addr) (us : List Str), σ = [some (.ref a), some (.ref p), some (.int (0 + i)), some (.ref t), some (.ref t2), some (.ref m), some (.str v6), some (.ref mq), some (.ref ul), v9, v10, v11, none] ∧ H' ul = some (.lst (us.map V.str)) ∧ ul ≠ p ∧ (∀ u ∈ us, PartOk j u) ∧ us.length ≤ 3 + j ∧
            PenAt H' p l (200 * i + 30 + 20 * j) ∧ LamX.Tabs [(Pt, qq)] H') ⟨_, v9, v10, v11, t, wordsT k n x, rfl, ht12, ntp, words_parts nx ok, words_len k n x, pen12.le (by omega), tb12⟩ ?_ ?_⟩
          · rintro j σ HH hj ⟨v6, v9, v10, v11, ul, us, rfl, hul, nul, mem, few, penH, tbH⟩
            refine ⟨_, rfl, Nat.zero_le _, fun u nu => ?_⟩
            have su0 := same_new (o := .lst []) nu
            refine ⟨.list (us.map PyData.str), .list [], .lst (SqL.of (su0 _ _ hul)) (dp_strs us), .lst (SqL.of upd_same) .nil, parts_shaped (by omega) mem, PySem.W.shaped_ints [], _, rfl, ?_⟩
            rw [eqv_nil]
            have penI := penH.same su0
            have tbI := tabs_same tbH su0
            have hulI := su0 _ _ hul
            generalize upd HH u (.lst []) = HI at penI tbI hulI ⊢
            cases eu : us.isEmpty with
            | false =>
              obtain ⟨py, hpy⟩ := penI.lst
              refine iteT ⟨_, rfl, _, rfl, p, l, ul, 200 * i + 30 + 20 * j, us, j, rfl, penI, by omega, hulI, nul, mem, hj, by omega, fun us' t' HJ sbJ pen' ht' nt' mem' len' => ?_⟩
              have tb' : LamX.Tabs [(Pt, qq)] HJ := tabs_but tbI sbJ hpy
              refine ⟨⟨_, rfl⟩, _, rfl, " ", t', us', rfl, rfl, .inl (SqL.of ht'), ?_, ?_⟩
              · have := lens_400 (us := us') fun u hu => part_len (by omega) (mem' u hu)
                have l1 : (Str.ofString " ").length = 1 := rfl
                rw [l1]
                omega
              obtain ⟨ws, e, wne, wmem, wl⟩ := any_line mem'
              rw [e]
              have wl2 : ws.length ≤ 200 := by
                have h1 : us'.length ≤ 6 := by omega
                have h2 : 1 + (j + 1) ≤ 4 := by omega
                have := Nat.mul_le_mul h1 h2
                omega
              have lo : LineOk ws := ⟨wne, fun w hw => wlv_check (by omega) (wmem w hw), wl2⟩
              refine ⟨_, rfl, ws, rfl, lo, fun HB sB => ?_⟩
              refine ⟨tabs_same tb' sB, fun Ha ea ta Hb Q1 sb hQ => ?_⟩
              refine ⟨rfl, _, rfl, _, rfl, .inl ⟨ws, rfl, lo, heard_read hQ fun u HC sC nC dC => ?_⟩⟩
              have penC := ((pen_ext (pen'.same sB) ea).same sb).same sC
              have tbC := tabs_same (tabs_same ta sb) sC
              have htC := sC _ _ (sb _ _ (ea _ _ (sB _ _ ht') fun _ z => by cases z))
              clear hQ sb ta ea sB tb' pen' nC sC ht'
              refine ⟨_, _, rfl, ?_⟩
              cases ho : outT ws with
              | bad jj =>
                rw [ho] at dC
                have ht : HC u = some (.tup [.str "text", .int 0, .int (jj : Nat)]) := dC
                refine ⟨_, rfl, _, rfl, ?_⟩
                show if (!decide (V.int (jj : Nat) = V.non)) = true then _ else _
                rw [decide_eq_false (fun z => by cases z)]
                refine iteT ⟨_, rfl, _, rfl, (by show 3 ≤ sizeLine; decide), fun t2 nt2 => ?_⟩
                have s2 := same_new (o := .tup [.str "text", .int 0, .int (jj : Nat)]) nt2
                refine ⟨badD jj, badD jj, bad_dp (s2 _ _ ht), bad_dp upd_same, bad_shaped jj, bad_shaped jj, _, rfl, ?_⟩
                rw [bad_eqv]
                refine iteF ⟨_, rfl, _, rfl, ?_⟩
                show if decide (V.int (jj : Nat) = V.non) = true then _ else _
                rw [decide_eq_false (fun z => by cases z)]
                exact iteF ⟨_, _, _, _, t', us', rfl, s2 _ _ htC, nt', mem', by omega, (penC.same s2).le (by omega), tabs_same tbC s2⟩
              | tie kd n' x' a' =>
                rw [ho] at dC
                obtain ⟨mm, ht, tm, nm', ok'⟩ := dC
                obtain ⟨dm, g1⟩ := tm.ob
                have lq : ([V.ref mm] : List V)[0]? = some (.ref mm) := rfl
                refine ⟨_, rfl, _, rfl, ?_⟩
                show if (!decide (V.non = V.non)) = true then _ else _
                rw [decide_eq_true rfl]
                refine iteF ⟨_, rfl, _, rfl, ?_⟩
                show if decide (V.non = V.non) = true then _ else _
                rw [decide_eq_true rfl]
                refine iteT ⟨kd, _, rfl, u, _, _, _, rfl, rfl, SqL.of ht, atI_nat (j := 0) lq, mm, dm, _, rfl, g1, mm, n', x', rfl, tm, nm', ok', _, rfl, _, rfl, rfl, _, rfl, ?_⟩
                rw [decide_eq_true (congrArg V.str (out_line (fun w hw => wlv_up (wmem w hw) (by omega)) ho).symm)]
                exact iteF ⟨_, _, _, _, t', us', rfl, htC, nt', mem', by omega, penC.le (by omega), tbC⟩
            | true =>
              refine iteF ⟨(by show 1 ≤ sizeLine; decide), fun t' nt0 => ?_⟩
              have nt' := lay penI nt0
              have sJ := same_new (o := .lst [.str ""]) nt0
              have pen' := (penI.same sJ).le (M := 200 * i + 30 + 20 * j + 20) (by omega)
              have tb' := tabs_same tbI sJ
              obtain ⟨us', eus⟩ : ∃ us' : List Str, us' = [("" : Str)] := ⟨_, rfl⟩
              have ht' : (upd HI t' (.lst [.str ""])) t' = some (.lst (us'.map V.str)) := by rw [eus]; exact upd_same
              have mem' : ∀ u ∈ us', PartOk (j + 1) u := fun u hu => by rw [eus] at hu; rw [List.mem_singleton.mp hu]; exact part_one (empty_wlv _)
              have len' : us'.length ≤ us.length + 1 := by rw [eus]; show 1 ≤ _; omega
              generalize upd HI t' (.lst [.str ""]) = HJ at pen' tb' ht' ⊢
              refine ⟨⟨_, rfl⟩, _, rfl, " ", t', us', rfl, rfl, .inl (SqL.of ht'), ?_, ?_⟩
              · have := lens_400 (us := us') fun u hu => part_len (by omega) (mem' u hu)
                have l1 : (Str.ofString " ").length = 1 := rfl
                rw [l1]
                omega
              obtain ⟨ws, e, wne, wmem, wl⟩ := any_line mem'
              rw [e]
              have wl2 : ws.length ≤ 200 := by
                have h1 : us'.length ≤ 6 := by omega
                have h2 : 1 + (j + 1) ≤ 4 := by omega
                have := Nat.mul_le_mul h1 h2
                omega
              have lo : LineOk ws := ⟨wne, fun w hw => wlv_check (by omega) (wmem w hw), wl2⟩
              refine ⟨_, rfl, ws, rfl, lo, fun HB sB => ?_⟩
              refine ⟨tabs_same tb' sB, fun Ha ea ta Hb Q1 sb hQ => ?_⟩
              refine ⟨rfl, _, rfl, _, rfl, .inl ⟨ws, rfl, lo, heard_read hQ fun u HC sC nC dC => ?_⟩⟩
              have penC := ((pen_ext (pen'.same sB) ea).same sb).same sC
              have tbC := tabs_same (tabs_same ta sb) sC
              have htC := sC _ _ (sb _ _ (ea _ _ (sB _ _ ht') fun _ z => by cases z))
              clear hQ sb ta ea sB tb' pen' nC sC ht'
              refine ⟨_, _, rfl, ?_⟩
              cases ho : outT ws with
              | bad jj =>
                rw [ho] at dC
                have ht : HC u = some (.tup [.str "text", .int 0, .int (jj : Nat)]) := dC
                refine ⟨_, rfl, _, rfl, ?_⟩
                show if (!decide (V.int (jj : Nat) = V.non)) = true then _ else _
                rw [decide_eq_false (fun z => by cases z)]
                refine iteT ⟨_, rfl, _, rfl, (by show 3 ≤ sizeLine; decide), fun t2 nt2 => ?_⟩
                have s2 := same_new (o := .tup [.str "text", .int 0, .int (jj : Nat)]) nt2
                refine ⟨badD jj, badD jj, bad_dp (s2 _ _ ht), bad_dp upd_same, bad_shaped jj, bad_shaped jj, _, rfl, ?_⟩
                rw [bad_eqv]
                refine iteF ⟨_, rfl, _, rfl, ?_⟩
                show if decide (V.int (jj : Nat) = V.non) = true then _ else _
                rw [decide_eq_false (fun z => by cases z)]
                exact iteF ⟨_, _, _, _, t', us', rfl, s2 _ _ htC, nt', mem', by omega, (penC.same s2).le (by omega), tabs_same tbC s2⟩
              | tie kd n' x' a' =>
                rw [ho] at dC
                obtain ⟨mm, ht, tm, nm', ok'⟩ := dC
                obtain ⟨dm, g1⟩ := tm.ob
                have lq : ([V.ref mm] : List V)[0]? = some (.ref mm) := rfl
                refine ⟨_, rfl, _, rfl, ?_⟩
                show if (!decide (V.non = V.non)) = true then _ else _
                rw [decide_eq_true rfl]
                refine iteF ⟨_, rfl, _, rfl, ?_⟩
                show if decide (V.non = V.non) = true then _ else _
                rw [decide_eq_true rfl]
                refine iteT ⟨kd, _, rfl, u, _, _, _, rfl, rfl, SqL.of ht, atI_nat (j := 0) lq, mm, dm, _, rfl, g1, mm, n', x', rfl, tm, nm', ok', _, rfl, _, rfl, rfl, _, rfl, ?_⟩
                rw [decide_eq_true (congrArg V.str (out_line (fun w hw => wlv_up (wmem w hw) (by omega)) ho).symm)]
                exact iteF ⟨_, _, _, _, t', us', rfl, htC, nt', mem', by omega, penC.le (by omega), tbC⟩
          · rintro σ HH ⟨v6, v9, v10, v11, ul, us, rfl, hul, nul, mem, few, penH, tbH⟩
            exact ⟨_, _, _, _, _, _, _, _, _, _, rfl, penH.le (by omega), tbH⟩
        · obtain ⟨b1, b2, b3⟩ := bool_show false
          refine ⟨.bl false, .bool false, rfl, .inl ⟨.bl _, rfl⟩, b1, b2, b3, _, rfl, _, rfl, _, _, .lst (SqL.of ht12) (dp_strs _), .lst (SqL.of ht212) (dp_strs _), shp, shp2, ?_⟩
          rw [eqv_strs, decide_eq_false (fun z => ne ((words_eq ok ok2).mp z))]
          refine ⟨.bl false, .bool false, rfl, .inl ⟨.bl _, rfl⟩, b1, b2, b3, rfl, _, rfl, ?_⟩
          rw [decide_eq_true rfl]
          refine iteF ?_
          refine ⟨_, rfl, ?_⟩
          refine ⟨3, rfl, by decide, by decide, for_range (lo := 0) (n := 3) (fun j σ H' => ∃ (v6 : Str) (v9 v10 v11 : Option V) (ul : Addr) (us : List Str), σ = [some (.ref a), some (.ref p), some (.int (0 + i)), some (.ref t), some (.ref t2), some (.ref m), some (.str v6), some (.ref mq), some (.ref ul), v9, v10, v11, none] ∧ H' ul = some (.lst (us.map V.str)) ∧ ul ≠ p ∧ (∀ u ∈ us, PartOk j u) ∧ us.length ≤ 3 + j ∧
            PenAt H' p l (200 * i + 30 + 20 * j) ∧ LamX.Tabs [(Pt, qq)] H') ⟨_, v9, v10, v11, t, wordsT k n x, rfl, ht12, ntp, words_parts nx ok, words_len k n x, pen12.le (by omega), tb12⟩ ?_ ?_⟩
          · rintro j σ HH hj ⟨v6, v9, v10, v11, ul, us, rfl, hul, nul, mem, few, penH, tbH⟩
            refine ⟨_, rfl, Nat.zero_le _, fun u nu => ?_⟩
            have su0 := same_new (o := .lst []) nu
            refine ⟨.list (us.map PyData.str), .list [], .lst (SqL.of (su0 _ _ hul)) (dp_strs us), .lst (SqL.of upd_same) .nil, parts_shaped (by omega) mem, PySem.W.shaped_ints [], _, rfl, ?_⟩
            rw [eqv_nil]
            have penI := penH.same su0
            have tbI := tabs_same tbH su0
            have hulI := su0 _ _ hul
            generalize upd HH u (.lst []) = HI at penI tbI hulI ⊢
            cases eu : us.isEmpty with
            | false =>
              obtain ⟨py, hpy⟩ := penI.lst
              refine iteT ⟨_, rfl, _, rfl, p, l, ul, 200 * i + 30 + 20 * j, us, j, rfl, penI, by omega, hulI, nul, mem, hj, by omega, fun us' t' HJ sbJ pen' ht' nt' mem' len' => ?_⟩
              have tb' : LamX.Tabs [(Pt, qq)] HJ := tabs_but tbI sbJ hpy
              refine ⟨⟨_, rfl⟩, _, rfl, " ", t', us', rfl, rfl, .inl (SqL.of ht'), ?_, ?_⟩
              · have := lens_400 (us := us') fun u hu => part_len (by omega) (mem' u hu)
                have l1 : (Str.ofString " ").length = 1 := rfl
                rw [l1]
                omega
              obtain ⟨ws, e, wne, wmem, wl⟩ := any_line mem'
              rw [e]
              have wl2 : ws.length ≤ 200 := by
                have h1 : us'.length ≤ 6 := by omega
                have h2 : 1 + (j + 1) ≤ 4 := by omega
                have := Nat.mul_le_mul h1 h2
                omega
              have lo : LineOk ws := ⟨wne, fun w hw => wlv_check (by omega) (wmem w hw), wl2⟩
              refine ⟨_, rfl, ws, rfl, lo, fun HB sB => ?_⟩
              refine ⟨tabs_same tb' sB, fun Ha ea ta Hb Q1 sb hQ => ?_⟩
              refine ⟨rfl, _, rfl, _, rfl, .inl ⟨ws, rfl, lo, heard_read hQ fun u HC sC nC dC => ?_⟩⟩
              have penC := ((pen_ext (pen'.same sB) ea).same sb).same sC
              have tbC := tabs_same (tabs_same ta sb) sC
              have htC := sC _ _ (sb _ _ (ea _ _ (sB _ _ ht') fun _ z => by cases z))
              clear hQ sb ta ea sB tb' pen' nC sC ht'
              refine ⟨_, _, rfl, ?_⟩
              cases ho : outT ws with
              | bad jj =>
                rw [ho] at dC
                have ht : HC u = some (.tup [.str "text", .int 0, .int (jj : Nat)]) := dC
                refine ⟨_, rfl, _, rfl, ?_⟩
                show if (!decide (V.int (jj : Nat) = V.non)) = true then _ else _
                rw [decide_eq_false (fun z => by cases z)]
                refine iteT ⟨_, rfl, _, rfl, (by show 3 ≤ sizeLine; decide), fun t2 nt2 => ?_⟩
                have s2 := same_new (o := .tup [.str "text", .int 0, .int (jj : Nat)]) nt2
                refine ⟨badD jj, badD jj, bad_dp (s2 _ _ ht), bad_dp upd_same, bad_shaped jj, bad_shaped jj, _, rfl, ?_⟩
                rw [bad_eqv]
                refine iteF ⟨_, rfl, _, rfl, ?_⟩
                show if decide (V.int (jj : Nat) = V.non) = true then _ else _
                rw [decide_eq_false (fun z => by cases z)]
                exact iteF ⟨_, _, _, _, t', us', rfl, s2 _ _ htC, nt', mem', by omega, (penC.same s2).le (by omega), tabs_same tbC s2⟩
              | tie kd n' x' a' =>
                rw [ho] at dC
                obtain ⟨mm, ht, tm, nm', ok'⟩ := dC
                obtain ⟨dm, g1⟩ := tm.ob
                have lq : ([V.ref mm] : List V)[0]? = some (.ref mm) := rfl
                refine ⟨_, rfl, _, rfl, ?_⟩
                show if (!decide (V.non = V.non)) = true then _ else _
                rw [decide_eq_true rfl]
                refine iteF ⟨_, rfl, _, rfl, ?_⟩
                show if decide (V.non = V.non) = true then _ else _
                rw [decide_eq_true rfl]
                refine iteT ⟨kd, _, rfl, u, _, _, _, rfl, rfl, SqL.of ht, atI_nat (j := 0) lq, mm, dm, _, rfl, g1, mm, n', x', rfl, tm, nm', ok', _, rfl, _, rfl, rfl, _, rfl, ?_⟩
                rw [decide_eq_true (congrArg V.str (out_line (fun w hw => wlv_up (wmem w hw) (by omega)) ho).symm)]
                exact iteF ⟨_, _, _, _, t', us', rfl, htC, nt', mem', by omega, penC.le (by omega), tbC⟩
            | true =>
              refine iteF ⟨(by show 1 ≤ sizeLine; decide), fun t' nt0 => ?_⟩
              have nt' := lay penI nt0
              have sJ := same_new (o := .lst [.str ""]) nt0
              have pen' := (penI.same sJ).le (M := 200 * i + 30 + 20 * j + 20) (by omega)
              have tb' := tabs_same tbI sJ
              obtain ⟨us', eus⟩ : ∃ us' : List Str, us' = [("" : Str)] := ⟨_, rfl⟩
              have ht' : (upd HI t' (.lst [.str ""])) t' = some (.lst (us'.map V.str)) := by rw [eus]; exact upd_same
              have mem' : ∀ u ∈ us', PartOk (j + 1) u := fun u hu => by rw [eus] at hu; rw [List.mem_singleton.mp hu]; exact part_one (empty_wlv _)
              have len' : us'.length ≤ us.length + 1 := by rw [eus]; show 1 ≤ _; omega
              generalize upd HI t' (.lst [.str ""]) = HJ at pen' tb' ht' ⊢
              refine ⟨⟨_, rfl⟩, _, rfl, " ", t', us', rfl, rfl, .inl (SqL.of ht'), ?_, ?_⟩
              · have := lens_400 (us := us') fun u hu => part_len (by omega) (mem' u hu)
                have l1 : (Str.ofString " ").length = 1 := rfl
                rw [l1]
                omega
              obtain ⟨ws, e, wne, wmem, wl⟩ := any_line mem'
              rw [e]
              have wl2 : ws.length ≤ 200 := by
                have h1 : us'.length ≤ 6 := by omega
                have h2 : 1 + (j + 1) ≤ 4 := by omega
                have := Nat.mul_le_mul h1 h2
                omega
              have lo : LineOk ws := ⟨wne, fun w hw => wlv_check (by omega) (wmem w hw), wl2⟩
              refine ⟨_, rfl, ws, rfl, lo, fun HB sB => ?_⟩
              refine ⟨tabs_same tb' sB, fun Ha ea ta Hb Q1 sb hQ => ?_⟩
              refine ⟨rfl, _, rfl, _, rfl, .inl ⟨ws, rfl, lo, heard_read hQ fun u HC sC nC dC => ?_⟩⟩
              have penC := ((pen_ext (pen'.same sB) ea).same sb).same sC
              have tbC := tabs_same (tabs_same ta sb) sC
              have htC := sC _ _ (sb _ _ (ea _ _ (sB _ _ ht') fun _ z => by cases z))
              clear hQ sb ta ea sB tb' pen' nC sC ht'
              refine ⟨_, _, rfl, ?_⟩
              cases ho : outT ws with
              | bad jj =>
                rw [ho] at dC
                have ht : HC u = some (.tup [.str "text", .int 0, .int (jj : Nat)]) := dC
                refine ⟨_, rfl, _, rfl, ?_⟩
                show if (!decide (V.int (jj : Nat) = V.non)) = true then _ else _
                rw [decide_eq_false (fun z => by cases z)]
                refine iteT ⟨_, rfl, _, rfl, (by show 3 ≤ sizeLine; decide), fun t2 nt2 => ?_⟩
                have s2 := same_new (o := .tup [.str "text", .int 0, .int (jj : Nat)]) nt2
                refine ⟨badD jj, badD jj, bad_dp (s2 _ _ ht), bad_dp upd_same, bad_shaped jj, bad_shaped jj, _, rfl, ?_⟩
                rw [bad_eqv]
                refine iteF ⟨_, rfl, _, rfl, ?_⟩
                show if decide (V.int (jj : Nat) = V.non) = true then _ else _
                rw [decide_eq_false (fun z => by cases z)]
                exact iteF ⟨_, _, _, _, t', us', rfl, s2 _ _ htC, nt', mem', by omega, (penC.same s2).le (by omega), tabs_same tbC s2⟩
              | tie kd n' x' a' =>
                rw [ho] at dC
                obtain ⟨mm, ht, tm, nm', ok'⟩ := dC
                obtain ⟨dm, g1⟩ := tm.ob
                have lq : ([V.ref mm] : List V)[0]? = some (.ref mm) := rfl
                refine ⟨_, rfl, _, rfl, ?_⟩
                show if (!decide (V.non = V.non)) = true then _ else _
                rw [decide_eq_true rfl]
                refine iteF ⟨_, rfl, _, rfl, ?_⟩
                show if decide (V.non = V.non) = true then _ else _
                rw [decide_eq_true rfl]
                refine iteT ⟨kd, _, rfl, u, _, _, _, rfl, rfl, SqL.of ht, atI_nat (j := 0) lq, mm, dm, _, rfl, g1, mm, n', x', rfl, tm, nm', ok', _, rfl, _, rfl, rfl, _, rfl, ?_⟩
                rw [decide_eq_true (congrArg V.str (out_line (fun w hw => wlv_up (wmem w hw) (by omega)) ho).symm)]
                exact iteF ⟨_, _, _, _, t', us', rfl, htC, nt', mem', by omega, penC.le (by omega), tbC⟩
          · rintro σ HH ⟨v6, v9, v10, v11, ul, us, rfl, hul, nul, mem, few, penH, tbH⟩
            exact ⟨_, _, _, _, _, _, _, _, _, _, rfl, penH.le (by omega), tbH⟩
      | false =>
        have w3 : (wordsT k n x).length = 2 := by unfold wordsT; rw [if_neg (by rw [en]; decide)]; rfl
        rw [List.length_map, w3, decide_eq_false (fun z => by have := V.int.inj z; omega)]
        refine iteF ?_
        have shp : SeqAt.shaped (.list ((wordsT k n x).map PyData.str)) = true := parts_shaped (j := 0) (by decide) (words_parts nx ok)
        have shp2 : SeqAt.shaped (.list ((wordsT k2 n2 y2).map PyData.str)) = true := parts_shaped (j := 0) (by decide) (words_parts ny2 ok2)
        have su : (Value.ref (G k2)) = .ref (G k) ∨ PySem.W.subIn K (.ref (G k2)) (.ref (G k)) = some false := by
          cases e : kEq k2 k with
          | true => exact .inl (by rw [(kEq_iff _ _).mp e])
          | false => exact .inr (X'.su _ _ e)
        refine ⟨_, rfl, _, rfl, t2, k2, n2, y2, rfl, ht211, nm2, ok2, fun m2 HG sG c2 => ?_⟩
        have h12 := sG _ _ h11
        have c12 := c11.same sG
        have ht12 := sG _ _ ht11
        have ht212 := sG _ _ ht211
        have pen12 := pen11.same sG
        have tb12 := tabs_same tb11 sG
        refine ⟨k, m, dx, _, .ref (G k2), rfl, h12, X'.ty c2, su, m, .ref m2, n, x, rfl, c12, .inl ⟨m2, k2, n2, y2, rfl, c2, fun e1 e2 e3 => ⟨true, rfl, ?_⟩, fun ne => ⟨false, rfl, ?_⟩⟩⟩
        · obtain ⟨b1, b2, b3⟩ := bool_show true
          refine ⟨.bl true, .bool true, rfl, .inl ⟨.bl _, rfl⟩, b1, b2, b3, _, rfl, _, rfl, _, _, .lst (SqL.of ht12) (dp_strs _), .lst (SqL.of ht212) (dp_strs _), shp, shp2, ?_⟩
          rw [eqv_strs, decide_eq_true ((words_eq ok ok2).mpr ⟨e1, e2, e3⟩)]
          refine ⟨.bl true, .bool true, rfl, .inl ⟨.bl _, rfl⟩, b1, b2, b3, rfl, _, rfl, ?_⟩
          rw [decide_eq_true rfl]
          refine iteF ?_
          refine ⟨_, rfl, ?_⟩
          refine ⟨3, rfl, by decide, by decide, for_range (lo := 0) (n := 3) (fun j σ H' => ∃ (v6 : Str) (v9 v10 v11 : Option V) (ul : Addr) (us : List Str), σ = [some (.ref a), some (.ref p), some (.int (0 + i)), some (.ref t), some (.ref t2), some (.ref m), some (.str v6), some (.ref mq), some (.ref ul), v9, v10, v11, none] ∧ H' ul = some (.lst (us.map V.str)) ∧ ul ≠ p ∧ (∀ u ∈ us, PartOk j u) ∧ us.length ≤ 3 + j ∧
            PenAt H' p l (200 * i + 30 + 20 * j) ∧ LamX.Tabs [(Pt, qq)] H') ⟨_, v9, v10, v11, t, wordsT k n x, rfl, ht12, ntp, words_parts nx ok, words_len k n x, pen12.le (by omega), tb12⟩ ?_ ?_⟩
          · rintro j σ HH hj ⟨v6, v9, v10, v11, ul, us, rfl, hul, nul, mem, few, penH, tbH⟩
            refine ⟨_, rfl, Nat.zero_le _, fun u nu => ?_⟩
            have su0 := same_new (o := .lst []) nu
            refine ⟨.list (us.map PyData.str), .list [], .lst (SqL.of (su0 _ _ hul)) (dp_strs us), .lst (SqL.of upd_same) .nil, parts_shaped (by omega) mem, PySem.W.shaped_ints [], _, rfl, ?_⟩
            rw [eqv_nil]
            have penI := penH.same su0
            have tbI := tabs_same tbH su0
            have hulI := su0 _ _ hul
            generalize upd HH u (.lst []) = HI at penI tbI hulI ⊢
            cases eu : us.isEmpty with
            | false =>
              obtain ⟨py, hpy⟩ := penI.lst
              refine iteT ⟨_, rfl, _, rfl, p, l, ul, 200 * i + 30 + 20 * j, us, j, rfl, penI, by omega, hulI, nul, mem, hj, by omega, fun us' t' HJ sbJ pen' ht' nt' mem' len' => ?_⟩
              have tb' : LamX.Tabs [(Pt, qq)] HJ := tabs_but tbI sbJ hpy
              refine ⟨⟨_, rfl⟩, _, rfl, " ", t', us', rfl, rfl, .inl (SqL.of ht'), ?_, ?_⟩
              · have := lens_400 (us := us') fun u hu => part_len (by omega) (mem' u hu)
                have l1 : (Str.ofString " ").length = 1 := rfl
                rw [l1]
                omega
              obtain ⟨ws, e, wne, wmem, wl⟩ := any_line mem'
              rw [e]
              have wl2 : ws.length ≤ 200 := by
                have h1 : us'.length ≤ 6 := by omega
                have h2 : 1 + (j + 1) ≤ 4 := by omega
                have := Nat.mul_le_mul h1 h2
                omega
              have lo : LineOk ws := ⟨wne, fun w hw => wlv_check (by omega) (wmem w hw), wl2⟩
              refine ⟨_, rfl, ws, rfl, lo, fun HB sB => ?_⟩
              refine ⟨tabs_same tb' sB, fun Ha ea ta Hb Q1 sb hQ => ?_⟩
              refine ⟨rfl, _, rfl, _, rfl, .inl ⟨ws, rfl, lo, heard_read hQ fun u HC sC nC dC => ?_⟩⟩
              have penC := ((pen_ext (pen'.same sB) ea).same sb).same sC
              have tbC := tabs_same (tabs_same ta sb) sC
              have htC := sC _ _ (sb _ _ (ea _ _ (sB _ _ ht') fun _ z => by cases z))
              clear hQ sb ta ea sB tb' pen' nC sC ht'
              refine ⟨_, _, rfl, ?_⟩
              cases ho : outT ws with
              | bad jj =>
                rw [ho] at dC
                have ht : HC u = some (.tup [.str "text", .int 0, .int (jj : Nat)]) := dC
                refine ⟨_, rfl, _, rfl, ?_⟩
                show if (!decide (V.int (jj : Nat) = V.non)) = true then _ else _
                rw [decide_eq_false (fun z => by cases z)]
                refine iteT ⟨_, rfl, _, rfl, (by show 3 ≤ sizeLine; decide), fun t2 nt2 => ?_⟩
                have s2 := same_new (o := .tup [.str "text", .int 0, .int (jj : Nat)]) nt2
                refine ⟨badD jj, badD jj, bad_dp (s2 _ _ ht), bad_dp upd_same, bad_shaped jj, bad_shaped jj, _, rfl, ?_⟩
                rw [bad_eqv]
                refine iteF ⟨_, rfl, _, rfl, ?_⟩
                show if decide (V.int (jj : Nat) = V.non) = true then _ else _
                rw [decide_eq_false (fun z => by cases z)]
                exact iteF ⟨_, _, _, _, t', us', rfl, s2 _ _ htC, nt', mem', by omega, (penC.same s2).le (by omega), tabs_same tbC s2⟩
              | tie kd n' x' a' =>
                rw [ho] at dC
                obtain ⟨mm, ht, tm, nm', ok'⟩ := dC
                obtain ⟨dm, g1⟩ := tm.ob
                have lq : ([V.ref mm] : List V)[0]? = some (.ref mm) := rfl
                refine ⟨_, rfl, _, rfl, ?_⟩
                show if (!decide (V.non = V.non)) = true then _ else _
                rw [decide_eq_true rfl]
                refine iteF ⟨_, rfl, _, rfl, ?_⟩
                show if decide (V.non = V.non) = true then _ else _
                rw [decide_eq_true rfl]
                refine iteT ⟨kd, _, rfl, u, _, _, _, rfl, rfl, SqL.of ht, atI_nat (j := 0) lq, mm, dm, _, rfl, g1, mm, n', x', rfl, tm, nm', ok', _, rfl, _, rfl, rfl, _, rfl, ?_⟩
                rw [decide_eq_true (congrArg V.str (out_line (fun w hw => wlv_up (wmem w hw) (by omega)) ho).symm)]
                exact iteF ⟨_, _, _, _, t', us', rfl, htC, nt', mem', by omega, penC.le (by omega), tbC⟩
            | true =>
              refine iteF ⟨(by show 1 ≤ sizeLine; decide), fun t' nt0 => ?_⟩
              have nt' := lay penI nt0
              have sJ := same_new (o := .lst [.str ""]) nt0
              have pen' := (penI.same sJ).le (M := 200 * i + 30 + 20 * j + 20) (by omega)
              have tb' := tabs_same tbI sJ
              obtain ⟨us', eus⟩ : ∃ us' : List Str, us' = [("" : Str)] := ⟨_, rfl⟩
              have ht' : (upd HI t' (.lst [.str ""])) t' = some (.lst (us'.map V.str)) := by rw [eus]; exact upd_same
              have mem' : ∀ u ∈ us', PartOk (j + 1) u := fun u hu => by rw [eus] at hu; rw [List.mem_singleton.mp hu]; exact part_one (empty_wlv _)
              have len' : us'.length ≤ us.length + 1 := by rw [eus]; show 1 ≤ _; omega
              generalize upd HI t' (.lst [.str ""]) = HJ at pen' tb' ht' ⊢
              refine ⟨⟨_, rfl⟩, _, rfl, " ", t', us', rfl, rfl, .inl (SqL.of ht'), ?_, ?_⟩
              · have := lens_400 (us := us') fun u hu => part_len (by omega) (mem' u hu)
                have l1 : (Str.ofString " ").length = 1 := rfl
                rw [l1]
                omega
              obtain ⟨ws, e, wne, wmem, wl⟩ := any_line mem'
              rw [e]
              have wl2 : ws.length ≤ 200 := by
                have h1 : us'.length ≤ 6 := by omega
                have h2 : 1 + (j + 1) ≤ 4 := by omega
                have := Nat.mul_le_mul h1 h2
                omega
              have lo : LineOk ws := ⟨wne, fun w hw => wlv_check (by omega) (wmem w hw), wl2⟩
              refine ⟨_, rfl, ws, rfl, lo, fun HB sB => ?_⟩
              refine ⟨tabs_same tb' sB, fun Ha ea ta Hb Q1 sb hQ => ?_⟩
              refine ⟨rfl, _, rfl, _, rfl, .inl ⟨ws, rfl, lo, heard_read hQ fun u HC sC nC dC => ?_⟩⟩
              have penC := ((pen_ext (pen'.same sB) ea).same sb).same sC
              have tbC := tabs_same (tabs_same ta sb) sC
              have htC := sC _ _ (sb _ _ (ea _ _ (sB _ _ ht') fun _ z => by cases z))
              clear hQ sb ta ea sB tb' pen' nC sC ht'
              refine ⟨_, _, rfl, ?_⟩
              cases ho : outT ws with
              | bad jj =>
                rw [ho] at dC
                have ht : HC u = some (.tup [.str "text", .int 0, .int (jj : Nat)]) := dC
                refine ⟨_, rfl, _, rfl, ?_⟩
                show if (!decide (V.int (jj : Nat) = V.non)) = true then _ else _
                rw [decide_eq_false (fun z => by cases z)]
                refine iteT ⟨_, rfl, _, rfl, (by show 3 ≤ sizeLine; decide), fun t2 nt2 => ?_⟩
                have s2 := same_new (o := .tup [.str "text", .int 0, .int (jj : Nat)]) nt2
                refine ⟨badD jj, badD jj, bad_dp (s2 _ _ ht), bad_dp upd_same, bad_shaped jj, bad_shaped jj, _, rfl, ?_⟩
                rw [bad_eqv]
                refine iteF ⟨_, rfl, _, rfl, ?_⟩
                show if decide (V.int (jj : Nat) = V.non) = true then _ else _
                rw [decide_eq_false (fun z => by cases z)]
                exact iteF ⟨_, _, _, _, t', us', rfl, s2 _ _ htC, nt', mem', by omega, (penC.same s2).le (by omega), tabs_same tbC s2⟩
              | tie kd n' x' a' =>
                rw [ho] at dC
                obtain ⟨mm, ht, tm, nm', ok'⟩ := dC
                obtain ⟨dm, g1⟩ := tm.ob
                have lq : ([V.ref mm] : List V)[0]? = some (.ref mm) := rfl
                refine ⟨_, rfl, _, rfl, ?_⟩
                show if (!decide (V.non = V.non)) = true then _ else _
                rw [decide_eq_true rfl]
                refine iteF ⟨_, rfl, _, rfl, ?_⟩
                show if decide (V.non = V.non) = true then _ else _
                rw [decide_eq_true rfl]
                refine iteT ⟨kd, _, rfl, u, _, _, _, rfl, rfl, SqL.of ht, atI_nat (j := 0) lq, mm, dm, _, rfl, g1, mm, n', x', rfl, tm, nm', ok', _, rfl, _, rfl, rfl, _, rfl, ?_⟩
                rw [decide_eq_true (congrArg V.str (out_line (fun w hw => wlv_up (wmem w hw) (by omega)) ho).symm)]
                exact iteF ⟨_, _, _, _, t', us', rfl, htC, nt', mem', by omega, penC.le (by omega), tbC⟩
          · rintro σ HH ⟨v6, v9, v10, v11, ul, us, rfl, hul, nul, mem, few, penH, tbH⟩
            exact ⟨_, _, _, _, _, _, _, _, _, _, rfl, penH.le (by omega), tbH⟩
        · obtain ⟨b1, b2, b3⟩ := bool_show false
          refine ⟨.bl false, .bool false, rfl, .inl ⟨.bl _, rfl⟩, b1, b2, b3, _, rfl, _, rfl, _, _, .lst (SqL.of ht12) (dp_strs _), .lst (SqL.of ht212) (dp_strs _), shp, shp2, ?_⟩
          rw [eqv_strs, decide_eq_false (fun z => ne ((words_eq ok ok2).mp z))]
          refine ⟨.bl false, .bool false, rfl, .inl ⟨.bl _, rfl⟩, b1, b2, b3, rfl, _, rfl, ?_⟩
          rw [decide_eq_true rfl]
          refine iteF ?_
          refine ⟨_, rfl, ?_⟩
          refine ⟨3, rfl, by decide, by decide, for_range (lo := 0) (n := 3) (fun j σ H' => ∃ (v6 : Str) (v9 v10 v11 : Option V) (ul : Addr) (us : List Str), σ = [some (.ref a), some (.ref p), some (.int (0 + i)), some (.ref t), some (.ref t2), some (.ref m), some (.str v6), some (.ref mq), some (.ref ul), v9, v10, v11, none] ∧ H' ul = some (.lst (us.map V.str)) ∧ ul ≠ p ∧ (∀ u ∈ us, PartOk j u) ∧ us.length ≤ 3 + j ∧
            PenAt H' p l (200 * i + 30 + 20 * j) ∧ LamX.Tabs [(Pt, qq)] H') ⟨_, v9, v10, v11, t, wordsT k n x, rfl, ht12, ntp, words_parts nx ok, words_len k n x, pen12.le (by omega), tb12⟩ ?_ ?_⟩
          · rintro j σ HH hj ⟨v6, v9, v10, v11, ul, us, rfl, hul, nul, mem, few, penH, tbH⟩
            refine ⟨_, rfl, Nat.zero_le _, fun u nu => ?_⟩
            have su0 := same_new (o := .lst []) nu
            refine ⟨.list (us.map PyData.str), .list [], .lst (SqL.of (su0 _ _ hul)) (dp_strs us), .lst (SqL.of upd_same) .nil, parts_shaped (by omega) mem, PySem.W.shaped_ints [], _, rfl, ?_⟩
            rw [eqv_nil]
            have penI := penH.same su0
            have tbI := tabs_same tbH su0
            have hulI := su0 _ _ hul
            generalize upd HH u (.lst []) = HI at penI tbI hulI ⊢
            cases eu : us.isEmpty with
            | false =>
              obtain ⟨py, hpy⟩ := penI.lst
              refine iteT ⟨_, rfl, _, rfl, p, l, ul, 200 * i + 30 + 20 * j, us, j, rfl, penI, by omega, hulI, nul, mem, hj, by omega, fun us' t' HJ sbJ pen' ht' nt' mem' len' => ?_⟩
              have tb' : LamX.Tabs [(Pt, qq)] HJ := tabs_but tbI sbJ hpy
              refine ⟨⟨_, rfl⟩, _, rfl, " ", t', us', rfl, rfl, .inl (SqL.of ht'), ?_, ?_⟩
              · have := lens_400 (us := us') fun u hu => part_len (by omega) (mem' u hu)
                have l1 : (Str.ofString " ").length = 1 := rfl
                rw [l1]
                omega
              obtain ⟨ws, e, wne, wmem, wl⟩ := any_line mem'
              rw [e]
              have wl2 : ws.length ≤ 200 := by
                have h1 : us'.length ≤ 6 := by omega
                have h2 : 1 + (j + 1) ≤ 4 := by omega
                have := Nat.mul_le_mul h1 h2
                omega
              have lo : LineOk ws := ⟨wne, fun w hw => wlv_check (by omega) (wmem w hw), wl2⟩
              refine ⟨_, rfl, ws, rfl, lo, fun HB sB => ?_⟩
              refine ⟨tabs_same tb' sB, fun Ha ea ta Hb Q1 sb hQ => ?_⟩
              refine ⟨rfl, _, rfl, _, rfl, .inl ⟨ws, rfl, lo, heard_read hQ fun u HC sC nC dC => ?_⟩⟩
              have penC := ((pen_ext (pen'.same sB) ea).same sb).same sC
              have tbC := tabs_same (tabs_same ta sb) sC
              have htC := sC _ _ (sb _ _ (ea _ _ (sB _ _ ht') fun _ z => by cases z))
              clear hQ sb ta ea sB tb' pen' nC sC ht'
              refine ⟨_, _, rfl, ?_⟩
              cases ho : outT ws with
              | bad jj =>
                rw [ho] at dC
                have ht : HC u = some (.tup [.str "text", .int 0, .int (jj : Nat)]) := dC
                refine ⟨_, rfl, _, rfl, ?_⟩
                show if (!decide (V.int (jj : Nat) = V.non)) = true then _ else _
                rw [decide_eq_false (fun z => by cases z)]
                refine iteT ⟨_, rfl, _, rfl, (by show 3 ≤ sizeLine; decide), fun t2 nt2 => ?_⟩
                have s2 := same_new (o := .tup [.str "text", .int 0, .int (jj : Nat)]) nt2
                refine ⟨badD jj, badD jj, bad_dp (s2 _ _ ht), bad_dp upd_same, bad_shaped jj, bad_shaped jj, _, rfl, ?_⟩
                rw [bad_eqv]
                refine iteF ⟨_, rfl, _, rfl, ?_⟩
                show if decide (V.int (jj : Nat) = V.non) = true then _ else _
                rw [decide_eq_false (fun z => by cases z)]
                exact iteF ⟨_, _, _, _, t', us', rfl, s2 _ _ htC, nt', mem', by omega, (penC.same s2).le (by omega), tabs_same tbC s2⟩
              | tie kd n' x' a' =>
                rw [ho] at dC
                obtain ⟨mm, ht, tm, nm', ok'⟩ := dC
                obtain ⟨dm, g1⟩ := tm.ob
                have lq : ([V.ref mm] : List V)[0]? = some (.ref mm) := rfl
                refine ⟨_, rfl, _, rfl, ?_⟩
                show if (!decide (V.non = V.non)) = true then _ else _
                rw [decide_eq_true rfl]
                refine iteF ⟨_, rfl, _, rfl, ?_⟩
                show if decide (V.non = V.non) = true then _ else _
                rw [decide_eq_true rfl]
                refine iteT ⟨kd, _, rfl, u, _, _, _, rfl, rfl, SqL.of ht, atI_nat (j := 0) lq, mm, dm, _, rfl, g1, mm, n', x', rfl, tm, nm', ok', _, rfl, _, rfl, rfl, _, rfl, ?_⟩
                rw [decide_eq_true (congrArg V.str (out_line (fun w hw => wlv_up (wmem w hw) (by omega)) ho).symm)]
                exact iteF ⟨_, _, _, _, t', us', rfl, htC, nt', mem', by omega, penC.le (by omega), tbC⟩
            | true =>
              refine iteF ⟨(by show 1 ≤ sizeLine; decide), fun t' nt0 => ?_⟩
              have nt' := lay penI nt0
              have sJ := same_new (o := .lst [.str ""]) nt0
              have pen' := (penI.same sJ).le (M := 200 * i + 30 + 20 * j + 20) (by omega)
              have tb' := tabs_same tbI sJ
              obtain ⟨us', eus⟩ : ∃ us' : List Str, us' = [("" : Str)] := ⟨_, rfl⟩
              have ht' : (upd HI t' (.lst [.str ""])) t' = some (.lst (us'.map V.str)) := by rw [eus]; exact upd_same
              have mem' : ∀ u ∈ us', PartOk (j + 1) u := fun u hu => by rw [eus] at hu; rw [List.mem_singleton.mp hu]; exact part_one (empty_wlv _)
              have len' : us'.length ≤ us.length + 1 := by rw [eus]; show 1 ≤ _; omega
              generalize upd HI t' (.lst [.str ""]) = HJ at pen' tb' ht' ⊢
              refine ⟨⟨_, rfl⟩, _, rfl, " ", t', us', rfl, rfl, .inl (SqL.of ht'), ?_, ?_⟩
              · have := lens_400 (us := us') fun u hu => part_len (by omega) (mem' u hu)
                have l1 : (Str.ofString " ").length = 1 := rfl
                rw [l1]
                omega
              obtain ⟨ws, e, wne, wmem, wl⟩ := any_line mem'
              rw [e]
              have wl2 : ws.length ≤ 200 := by
                have h1 : us'.length ≤ 6 := by omega
                have h2 : 1 + (j + 1) ≤ 4 := by omega
                have := Nat.mul_le_mul h1 h2
                omega
              have lo : LineOk ws := ⟨wne, fun w hw => wlv_check (by omega) (wmem w hw), wl2⟩
              refine ⟨_, rfl, ws, rfl, lo, fun HB sB => ?_⟩
              refine ⟨tabs_same tb' sB, fun Ha ea ta Hb Q1 sb hQ => ?_⟩
              refine ⟨rfl, _, rfl, _, rfl, .inl ⟨ws, rfl, lo, heard_read hQ fun u HC sC nC dC => ?_⟩⟩
              have penC := ((pen_ext (pen'.same sB) ea).same sb).same sC
              have tbC := tabs_same (tabs_same ta sb) sC
              have htC := sC _ _ (sb _ _ (ea _ _ (sB _ _ ht') fun _ z => by cases z))
              clear hQ sb ta ea sB tb' pen' nC sC ht'
              refine ⟨_, _, rfl, ?_⟩
              cases ho : outT ws with
              | bad jj =>
                rw [ho] at dC
                have ht : HC u = some (.tup [.str "text", .int 0, .int (jj : Nat)]) := dC
                refine ⟨_, rfl, _, rfl, ?_⟩
                show if (!decide (V.int (jj : Nat) = V.non)) = true then _ else _
                rw [decide_eq_false (fun z => by cases z)]
                refine iteT ⟨_, rfl, _, rfl, (by show 3 ≤ sizeLine; decide), fun t2 nt2 => ?_⟩
                have s2 := same_new (o := .tup [.str "text", .int 0, .int (jj : Nat)]) nt2
                refine ⟨badD jj, badD jj, bad_dp (s2 _ _ ht), bad_dp upd_same, bad_shaped jj, bad_shaped jj, _, rfl, ?_⟩
                rw [bad_eqv]
                refine iteF ⟨_, rfl, _, rfl, ?_⟩
                show if decide (V.int (jj : Nat) = V.non) = true then _ else _
                rw [decide_eq_false (fun z => by cases z)]
                exact iteF ⟨_, _, _, _, t', us', rfl, s2 _ _ htC, nt', mem', by omega, (penC.same s2).le (by omega), tabs_same tbC s2⟩
              | tie kd n' x' a' =>
                rw [ho] at dC
                obtain ⟨mm, ht, tm, nm', ok'⟩ := dC
                obtain ⟨dm, g1⟩ := tm.ob
                have lq : ([V.ref mm] : List V)[0]? = some (.ref mm) := rfl
                refine ⟨_, rfl, _, rfl, ?_⟩
                show if (!decide (V.non = V.non)) = true then _ else _
                rw [decide_eq_true rfl]
                refine iteF ⟨_, rfl, _, rfl, ?_⟩
                show if decide (V.non = V.non) = true then _ else _
                rw [decide_eq_true rfl]
                refine iteT ⟨kd, _, rfl, u, _, _, _, rfl, rfl, SqL.of ht, atI_nat (j := 0) lq, mm, dm, _, rfl, g1, mm, n', x', rfl, tm, nm', ok', _, rfl, _, rfl, rfl, _, rfl, ?_⟩
                rw [decide_eq_true (congrArg V.str (out_line (fun w hw => wlv_up (wmem w hw) (by omega)) ho).symm)]
                exact iteF ⟨_, _, _, _, t', us', rfl, htC, nt', mem', by omega, penC.le (by omega), tbC⟩
          · rintro σ HH ⟨v6, v9, v10, v11, ul, us, rfl, hul, nul, mem, few, penH, tbH⟩
            exact ⟨_, _, _, _, _, _, _, _, _, _, rfl, penH.le (by omega), tbH⟩
    · rintro σ H2 ⟨v2, v3, v4, v5, v6, v7, v8, v9, v10, v11, rfl, pen2, tb2⟩
      have nmA : NameOk "a" := (names_ok (w := "a") (by simp [namesL])).name
      have okA : NumOk .la 0 := ⟨by decide, (fun q => nomatch q), by decide, fun _ => rfl⟩
      refine ⟨_, rfl, (by show 2 ≤ sizeLine; decide), fun a1 n1 => ⟨(by show 1 ≤ sizeLine; decide), fun a2 n2 => fun a3 n3 => ?_⟩⟩
      refine made_goal (cBU := cBU) (k := .la) (n := 0) rfl nmA okA fun m H3 s3 c3 => ?_
      obtain ⟨py, hpy⟩ := pen2.lst
      have na2 : a2 ≠ p := Ne.symm (ne_of_none (same_new n1 _ _ hpy) n2)
      have h1' : H3 a1 = some (.tup [.str "last", .str "a"]) := s3 _ _ (same_new n3 _ _ (same_new n2 _ _ upd_same))
      have h2' : H3 a2 = some (.lst [.str "last a"]) := s3 _ _ (same_new n3 _ _ upd_same)
      have h3' : H3 a3 = some (.dK []) := s3 _ _ upd_same
      have sA : Same H2 H3 := (same_new n1).trans ((same_new n2).trans ((same_new n3).trans s3))
      have pen3 := pen2.same sA
      have tb3 := tabs_same tb2 sA
      clear s3 n3 n2 n1 pen2 tb2 sA
      refine ⟨(by show 7 ≤ sizeLine; decide), fun L nL => ?_⟩
      obtain ⟨px, hpx⟩ := pen3.lst
      have nLp : L ≠ p := Ne.symm (ne_of_none hpx nL)
      have sL := same_new (o := .lst [.non, .int 3, .bl true, .ref a1, .ref a2, .ref a3, .ref m]) nL
      refine ⟨p, l, _, pen3.same sL, by omega, .inl ⟨L, _, rfl, upd_same, nLp, (by show 0 < 7; decide), (by show 7 ≤ 1000; decide), fun j v H5 hj sb5 pen5 => ?_⟩⟩
      have tb5 := tabs_but (tabs_same tb3 sL) sb5 (sL _ _ hpx)
      have q1 := sb5 _ _ (ne_of (sL _ _ h1') (sL _ _ hpx) (by intro z; cases z)) (sL _ _ h1')
      have q2 := sb5 _ _ na2 (sL _ _ h2')
      have q3 := sb5 _ _ (ne_of (sL _ _ h3') (sL _ _ hpx) (by intro z; cases z)) (sL _ _ h3')
      have c5 := (c3.same sL).but sb5 (sL _ _ hpx)
      refine ⟨tb5, fun Ha ea ta Hb Q1 sb hQ => ?_⟩
      refine ⟨rfl, _, rfl, v, rfl, read_odd ?_ fun t HC sC nC ht => ?_⟩
      · have hv := List.mem_of_getElem? hj
        simp only [List.mem_cons, List.not_mem_nil, or_false] at hv
        rcases hv with rfl | rfl | rfl | rfl | rfl | rfl | rfl
        · exact .of (.base .non) (by decide +kernel)
        · exact .of (.base (.int _)) (by decide +kernel)
        · exact .of (.base (.bl _)) (by decide +kernel)
        · exact .of (.base (.tup (sb _ _ (ea _ _ q1 fun _ z => by cases z)))) (by decide +kernel)
        · exact .of (.base (.lst (sb _ _ (ea _ _ q2 fun _ z => by cases z)))) (by decide +kernel)
        · exact .of (.base (.dK (sb _ _ (ea _ _ q3 fun _ z => by cases z)))) (by decide +kernel)
        · exact ⟨_, X'.ty ((c5.ext ea).same sb), kCS⟩
      · refine ⟨(by show 3 ≤ sizeLine; decide), fun t2 nt2 => ?_⟩
        have s2 := same_new (o := .tup [.str "text", .int 0, .int 0]) nt2
        refine ⟨badD 0, badD 0, bad_dp (s2 _ _ ht), bad_dp upd_same, bad_shaped 0, bad_shaped 0, ?_⟩
        rw [bad_eqv]
        exact kk _
end
end My
namespace My
open PySem PySem.Spec PyProof.Rows L2
theorem kit_self {K : PySem.W.Frag} {t : Value} : PySem.W.kitOne K t t = some true := by
  unfold PySem.W.kitOne
  rw [if_pos (beq_iff_eq.mpr rfl)]
theorem kit_tyR {K : PySem.W.Frag} {t : String} {D : Addr} {b : Bool} (hd : PySem.W.hasDictIn K D = true) (ty : PySem.W.typeIn K (.ref D) = some (.type "type")) (sub : PySem.W.subIn K (.type t) (.ref D) = some b) : PySem.W.kitOne K (.type t) (.ref D) = some b := by
  unfold PySem.W.kitOne
  rw [if_neg (fun q => by cases beq_iff_eq.mp q)]
  obtain ⟨cd, hc, _⟩ := PySem.W.any_some hd
  unfold PySem.W.kitCls
  have z : ((PySem.W.clsIn K D).isSome && PySem.W.typeIn K (.ref D) == some (.type "type")) = true := by rw [hc, ty]; rfl
  simp only [z, if_true]
  exact sub
set_option maxHeartbeats 16000000 in
theorem all_mk {l : PySem.W.OpenLaw} {w : World} {K : PySem.W.Frag} {h : Heap} {mg : Str → Option Value} {fa : Addr} (X : K.In h) (G : h.Ns mainGlobals mg) (hfa : mg "law" = some (.ref fa)) (OT : OwnT K mg h "law")
    {odF0 anF0 : Option Addr} {slF0 : Array (Option Value)} {ocF0 kVF0 dcF0 pmF0 cdF0 ctF0 : Value} {fF0 : Addr}
    {odF1 anF1 : Option Addr} {slF1 : Array (Option Value)} {ocF1 kVF1 dcF1 pmF1 cdF1 ctF1 : Value} {fF1 : Addr}
    {odF2 anF2 : Option Addr} {slF2 : Array (Option Value)} {ocF2 kVF2 dcF2 pmF2 cdF2 ctF2 : Value} {fF2 : Addr}
    {odF3 anF3 : Option Addr} {slF3 : Array (Option Value)} {ocF3 kVF3 dcF3 pmF3 cdF3 ctF3 : Value} {fF3 : Addr}
    {odF4 anF4 : Option Addr} {slF4 : Array (Option Value)} {ocF4 kVF4 dcF4 pmF4 cdF4 ctF4 : Value} {fF4 : Addr}
    {odF5 anF5 : Option Addr} {slF5 : Array (Option Value)} {ocF5 kVF5 dcF5 pmF5 cdF5 ctF5 : Value} {fF5 : Addr}
    {odF6 anF6 : Option Addr} {slF6 : Array (Option Value)} {ocF6 kVF6 dcF6 pmF6 cdF6 ctF6 : Value} {fF6 : Addr}
    {odF7 anF7 : Option Addr} {slF7 : Array (Option Value)} {ocF7 kVF7 dcF7 pmF7 cdF7 ctF7 : Value} {fF7 : Addr}
    {odF8 anF8 : Option Addr} {slF8 : Array (Option Value)} {ocF8 kVF8 dcF8 pmF8 cdF8 ctF8 : Value} {fF8 : Addr}
    {odF9 anF9 : Option Addr} {slF9 : Array (Option Value)} {ocF9 kVF9 dcF9 pmF9 cdF9 ctF9 : Value} {fF9 : Addr}
    {odF10 anF10 : Option Addr} {slF10 : Array (Option Value)} {ocF10 kVF10 dcF10 pmF10 cdF10 ctF10 : Value} {fF10 : Addr}
    {odF11 anF11 : Option Addr} {slF11 : Array (Option Value)} {ocF11 kVF11 dcF11 pmF11 cdF11 ctF11 : Value} {fF11 : Addr}
    {odF12 anF12 : Option Addr} {slF12 : Array (Option Value)} {ocF12 kVF12 dcF12 pmF12 cdF12 ctF12 : Value} {fF12 : Addr}
    {odF13 anF13 : Option Addr} {slF13 : Array (Option Value)} {ocF13 kVF13 dcF13 pmF13 cdF13 ctF13 : Value} {fF13 : Addr}
    {odF14 anF14 : Option Addr} {slF14 : Array (Option Value)} {ocF14 kVF14 dcF14 pmF14 cdF14 ctF14 : Value} {fF14 : Addr}
    {odF15 anF15 : Option Addr} {slF15 : Array (Option Value)} {ocF15 kVF15 dcF15 pmF15 cdF15 ctF15 : Value} {fF15 : Addr}
    {odF16 anF16 : Option Addr} {slF16 : Array (Option Value)} {ocF16 kVF16 dcF16 pmF16 cdF16 ctF16 : Value} {fF16 : Addr}
    {odF17 anF17 : Option Addr} {slF17 : Array (Option Value)} {ocF17 kVF17 dcF17 pmF17 cdF17 ctF17 : Value} {fF17 : Addr}
    {odF18 anF18 : Option Addr} {slF18 : Array (Option Value)} {ocF18 kVF18 dcF18 pmF18 cdF18 ctF18 : Value} {fF18 : Addr}
    {tkMN : Tok}
    {cDE : Addr}
    {odJBN anJBN : Option Addr} {slJBN : Array (Option Value)} {ocJBN kVJBN dcJBN pmJBN cdJBN ctJBN : Value} {fJBN : Addr}
    {cBN : Addr} {nmBN qBN : Str} {NBN : Addr} {bsBN : List Value} {snBN : List Str} {subBN : List Value} {abBN : Bool} {colBN : Option Bool} {ddBN : Option Addr} {m0BN m1BN m2BN m3BN m5BN : Option Value}
    {odJBU anJBU : Option Addr} {slJBU : Array (Option Value)} {ocJBU kVJBU dcJBU pmJBU cdJBU ctJBU : Value} {fJBU : Addr}
    {cBU : Addr} {nmBU qBU : Str} {NBU : Addr} {bsBU : List Value} {snBU : List Str} {subBU : List Value} {abBU : Bool} {colBU : Option Bool} {ddBU : Option Addr} {m0BU m1BU m2BU m3BU m5BU : Option Value}
    {odJBT anJBT : Option Addr} {slJBT : Array (Option Value)} {ocJBT kVJBT dcJBT pmJBT cdJBT ctJBT : Value} {fJBT : Addr}
    {cBT : Addr} {nmBT qBT : Str} {NBT : Addr} {bsBT : List Value} {snBT : List Str} {subBT : List Value} {abBT : Bool} {colBT : Option Bool} {ddBT : Option Addr} {m0BT m1BT m2BT m3BT m5BT : Option Value}
    {cT cN : Addr}
    {odTI anTI : Option Addr} {slTI : Array (Option Value)} {ocTI kVTI dcTI pmTI cdTI ctTI : Value} {fTI : Addr}
    {odNI anNI : Option Addr} {slNI : Array (Option Value)} {ocNI kVNI dcNI pmNI cdNI ctNI : Value} {fNI : Addr}
    {odRD anRD : Option Addr} {slRD : Array (Option Value)} {ocRD kVRD dcRD pmRD cdRD ctRD : Value} {fRD : Addr}
    {qRD : Addr} {rsRD : List Value}
    {kA : Addr} {odKA : Option Addr} {nKA : Nat} {slKA : Array (Option Value)} {tk0 tk1 tk2 tk3 tk4 tk5 : Tok}
    {Cw : Addr}
    {odW0 anW0 : Option Addr} {slW0 : Array (Option Value)} {ocW0 kVW0 dcW0 pmW0 cdW0 ctW0 : Value} {fW0 : Addr}
    {odW1 anW1 : Option Addr} {slW1 : Array (Option Value)} {ocW1 kVW1 dcW1 pmW1 cdW1 ctW1 : Value} {fW1 : Addr}
    {odW2 anW2 : Option Addr} {slW2 : Array (Option Value)} {ocW2 kVW2 dcW2 pmW2 cdW2 ctW2 : Value} {fW2 : Addr}
    {odW3 anW3 : Option Addr} {slW3 : Array (Option Value)} {ocW3 kVW3 dcW3 pmW3 cdW3 ctW3 : Value} {fW3 : Addr}
    {odW4 anW4 : Option Addr} {slW4 : Array (Option Value)} {ocW4 kVW4 dcW4 pmW4 cdW4 ctW4 : Value} {fW4 : Addr}
    {odW5 anW5 : Option Addr} {slW5 : Array (Option Value)} {ocW5 kVW5 dcW5 pmW5 cdW5 ctW5 : Value} {fW5 : Addr}
    {odW6 anW6 : Option Addr} {slW6 : Array (Option Value)} {ocW6 kVW6 dcW6 pmW6 cdW6 ctW6 : Value} {fW6 : Addr}
    {gBk gAh gSo gWh gLa gSm : Addr}
    {odBkI anBkI : Option Addr} {slBkI : Array (Option Value)} {ocBkI kVBkI dcBkI pmBkI cdBkI ctBkI : Value} {fBkI : Addr}
    {odBkE anBkE : Option Addr} {slBkE : Array (Option Value)} {ocBkE kVBkE dcBkE pmBkE cdBkE ctBkE : Value} {fBkE : Addr}
    {odBkT anBkT : Option Addr} {slBkT : Array (Option Value)} {ocBkT kVBkT dcBkT pmBkT cdBkT ctBkT : Value} {fBkT : Addr}
    {odAhI anAhI : Option Addr} {slAhI : Array (Option Value)} {ocAhI kVAhI dcAhI pmAhI cdAhI ctAhI : Value} {fAhI : Addr}
    {odAhE anAhE : Option Addr} {slAhE : Array (Option Value)} {ocAhE kVAhE dcAhE pmAhE cdAhE ctAhE : Value} {fAhE : Addr}
    {odAhT anAhT : Option Addr} {slAhT : Array (Option Value)} {ocAhT kVAhT dcAhT pmAhT cdAhT ctAhT : Value} {fAhT : Addr}
    {odSoI anSoI : Option Addr} {slSoI : Array (Option Value)} {ocSoI kVSoI dcSoI pmSoI cdSoI ctSoI : Value} {fSoI : Addr}
    {odSoE anSoE : Option Addr} {slSoE : Array (Option Value)} {ocSoE kVSoE dcSoE pmSoE cdSoE ctSoE : Value} {fSoE : Addr}
    {odSoT anSoT : Option Addr} {slSoT : Array (Option Value)} {ocSoT kVSoT dcSoT pmSoT cdSoT ctSoT : Value} {fSoT : Addr}
    {odWhI anWhI : Option Addr} {slWhI : Array (Option Value)} {ocWhI kVWhI dcWhI pmWhI cdWhI ctWhI : Value} {fWhI : Addr}
    {odWhE anWhE : Option Addr} {slWhE : Array (Option Value)} {ocWhE kVWhE dcWhE pmWhE cdWhE ctWhE : Value} {fWhE : Addr}
    {odWhT anWhT : Option Addr} {slWhT : Array (Option Value)} {ocWhT kVWhT dcWhT pmWhT cdWhT ctWhT : Value} {fWhT : Addr}
    {odLaI anLaI : Option Addr} {slLaI : Array (Option Value)} {ocLaI kVLaI dcLaI pmLaI cdLaI ctLaI : Value} {fLaI : Addr}
    {odLaE anLaE : Option Addr} {slLaE : Array (Option Value)} {ocLaE kVLaE dcLaE pmLaE cdLaE ctLaE : Value} {fLaE : Addr}
    {odLaT anLaT : Option Addr} {slLaT : Array (Option Value)} {ocLaT kVLaT dcLaT pmLaT cdLaT ctLaT : Value} {fLaT : Addr}
    {odSmI anSmI : Option Addr} {slSmI : Array (Option Value)} {ocSmI kVSmI dcSmI pmSmI cdSmI ctSmI : Value} {fSmI : Addr}
    {odSmE anSmE : Option Addr} {slSmE : Array (Option Value)} {ocSmE kVSmE dcSmE pmSmE cdSmE ctSmE : Value} {fSmE : Addr}
    {odSmT anSmT : Option Addr} {slSmT : Array (Option Value)} {ocSmT kVSmT dcSmT pmSmT cdSmT ctSmT : Value} {fSmT : Addr}
    {cR Pt : Addr} {eR : Value} {dR : Option Addr} {vR : Array Value} {sR : Array (Option Value)}
    (aF0 : PySem.W.nsIn K mainGlobals "is_whole" = some (some (.ref fF0)))
    (lF0 : K.lookup fF0 = some ⟨ocF0, odF0, .func (PySem.W.fnOf "is_whole" "is_whole" (defArgs sWhole) (defBody sWhole) (defScope sWhole) .none kVF0 dcF0 pmF0 anF0 cdF0 ctF0), slF0⟩)
    (cF0 : PySem.W.codeIn K cdF0 "is_whole" = true)
    (kF0 : PySem.W.keepIn K (.ref fF0) = true)
    (aF1 : PySem.W.nsIn K mainGlobals "is_between" = some (some (.ref fF1)))
    (lF1 : K.lookup fF1 = some ⟨ocF1, odF1, .func (PySem.W.fnOf "is_between" "is_between" (defArgs sBetw) (defBody sBetw) (defScope sBetw) .none kVF1 dcF1 pmF1 anF1 cdF1 ctF1), slF1⟩)
    (cF1 : PySem.W.codeIn K cdF1 "is_between" = true)
    (kF1 : PySem.W.keepIn K (.ref fF1) = true)
    (aF2 : PySem.W.nsIn K mainGlobals "is_name" = some (some (.ref fF2)))
    (lF2 : K.lookup fF2 = some ⟨ocF2, odF2, .func (PySem.W.fnOf "is_name" "is_name" (defArgs sName) (defBody sName) (defScope sName) .none kVF2 dcF2 pmF2 anF2 cdF2 ctF2), slF2⟩)
    (cF2 : PySem.W.codeIn K cdF2 "is_name" = true)
    (kF2 : PySem.W.keepIn K (.ref fF2) = true)
    (aF3 : PySem.W.nsIn K mainGlobals "_law_pen" = some (some (.ref fF3)))
    (lF3 : K.lookup fF3 = some ⟨ocF3, odF3, .func (PySem.W.fnOf "_law_pen" "_law_pen" (defArgs sPen) (defBody sPen) (defScope sPen) .none kVF3 dcF3 pmF3 anF3 cdF3 ctF3), slF3⟩)
    (cF3 : PySem.W.codeIn K cdF3 "_law_pen" = true)
    (kF3 : PySem.W.keepIn K (.ref fF3) = true)
    (aF4 : PySem.W.nsIn K mainGlobals "_law_draw" = some (some (.ref fF4)))
    (lF4 : K.lookup fF4 = some ⟨ocF4, odF4, .func (PySem.W.fnOf "_law_draw" "_law_draw" (defArgs sDraw) (defBody sDraw) (defScope sDraw) .none kVF4 dcF4 pmF4 anF4 cdF4 ctF4), slF4⟩)
    (cF4 : PySem.W.codeIn K cdF4 "_law_draw" = true)
    (kF4 : PySem.W.keepIn K (.ref fF4) = true)
    (aF5 : PySem.W.nsIn K mainGlobals "_law_pick" = some (some (.ref fF5)))
    (lF5 : K.lookup fF5 = some ⟨ocF5, odF5, .func (PySem.W.fnOf "_law_pick" "_law_pick" (defArgs sPick) (defBody sPick) (defScope sPick) .none kVF5 dcF5 pmF5 anF5 cdF5 ctF5), slF5⟩)
    (cF5 : PySem.W.codeIn K cdF5 "_law_pick" = true)
    (kF5 : PySem.W.keepIn K (.ref fF5) = true)
    (aF6 : PySem.W.nsIn K mainGlobals "_law_word" = some (some (.ref fF6)))
    (lF6 : K.lookup fF6 = some ⟨ocF6, odF6, .func (PySem.W.fnOf "_law_word" "_law_word" (defArgs sWord) (defBody sWord) (defScope sWord) .none kVF6 dcF6 pmF6 anF6 cdF6 ctF6), slF6⟩)
    (cF6 : PySem.W.codeIn K cdF6 "_law_word" = true)
    (kF6 : PySem.W.keepIn K (.ref fF6) = true)
    (aF7 : PySem.W.nsIn K mainGlobals "_law_tie" = some (some (.ref fF7)))
    (lF7 : K.lookup fF7 = some ⟨ocF7, odF7, .func (PySem.W.fnOf "_law_tie" "_law_tie" (defArgs sLTie) (defBody sLTie) (defScope sLTie) .none kVF7 dcF7 pmF7 anF7 cdF7 ctF7), slF7⟩)
    (cF7 : PySem.W.codeIn K cdF7 "_law_tie" = true)
    (kF7 : PySem.W.keepIn K (.ref fF7) = true)
    (aF8 : PySem.W.nsIn K mainGlobals "_law_made_tie" = some (some (.ref fF8)))
    (lF8 : K.lookup fF8 = some ⟨ocF8, odF8, .func (PySem.W.fnOf "_law_made_tie" "_law_made_tie" (defArgs sMade) (defBody sMade) (defScope sMade) .none kVF8 dcF8 pmF8 anF8 cdF8 ctF8), slF8⟩)
    (cF8 : PySem.W.codeIn K cdF8 "_law_made_tie" = true)
    (kF8 : PySem.W.keepIn K (.ref fF8) = true)
    (aF9 : PySem.W.nsIn K mainGlobals "_law_kinds" = some (some (.ref fF9)))
    (lF9 : K.lookup fF9 = some ⟨ocF9, odF9, .func (PySem.W.fnOf "_law_kinds" "_law_kinds" (defArgs sKinds) (defBody sKinds) (defScope sKinds) .none kVF9 dcF9 pmF9 anF9 cdF9 ctF9), slF9⟩)
    (cF9 : PySem.W.codeIn K cdF9 "_law_kinds" = true)
    (kF9 : PySem.W.keepIn K (.ref fF9) = true)
    (aF10 : PySem.W.nsIn K mainGlobals "_law_heard" = some (some (.ref fF10)))
    (lF10 : K.lookup fF10 = some ⟨ocF10, odF10, .func (PySem.W.fnOf "_law_heard" "_law_heard" (defArgs sHeard) (defBody sHeard) (defScope sHeard) .none kVF10 dcF10 pmF10 anF10 cdF10 ctF10), slF10⟩)
    (cF10 : PySem.W.codeIn K cdF10 "_law_heard" = true)
    (kF10 : PySem.W.keepIn K (.ref fF10) = true)
    (aF11 : PySem.W.nsIn K mainGlobals "_law_is_name" = some (some (.ref fF11)))
    (lF11 : K.lookup fF11 = some ⟨ocF11, odF11, .func (PySem.W.fnOf "_law_is_name" "_law_is_name" (defArgs sIsName) (defBody sIsName) (defScope sIsName) .none kVF11 dcF11 pmF11 anF11 cdF11 ctF11), slF11⟩)
    (cF11 : PySem.W.codeIn K cdF11 "_law_is_name" = true)
    (kF11 : PySem.W.keepIn K (.ref fF11) = true)
    (aF12 : PySem.W.nsIn K mainGlobals "_law_is_number" = some (some (.ref fF12)))
    (lF12 : K.lookup fF12 = some ⟨ocF12, odF12, .func (PySem.W.fnOf "_law_is_number" "_law_is_number" (defArgs sIsNum) (defBody sIsNum) (defScope sIsNum) .none kVF12 dcF12 pmF12 anF12 cdF12 ctF12), slF12⟩)
    (cF12 : PySem.W.codeIn K cdF12 "_law_is_number" = true)
    (kF12 : PySem.W.keepIn K (.ref fF12) = true)
    (aF13 : PySem.W.nsIn K mainGlobals "_law_due" = some (some (.ref fF13)))
    (lF13 : K.lookup fF13 = some ⟨ocF13, odF13, .func (PySem.W.fnOf "_law_due" "_law_due" (defArgs sDue) (defBody sDue) (defScope sDue) .none kVF13 dcF13 pmF13 anF13 cdF13 ctF13), slF13⟩)
    (cF13 : PySem.W.codeIn K cdF13 "_law_due" = true)
    (kF13 : PySem.W.keepIn K (.ref fF13) = true)
    (aF14 : PySem.W.nsIn K mainGlobals "_law_bent" = some (some (.ref fF14)))
    (lF14 : K.lookup fF14 = some ⟨ocF14, odF14, .func (PySem.W.fnOf "_law_bent" "_law_bent" (defArgs sBent) (defBody sBent) (defScope sBent) .none kVF14 dcF14 pmF14 anF14 cdF14 ctF14), slF14⟩)
    (cF14 : PySem.W.codeIn K cdF14 "_law_bent" = true)
    (kF14 : PySem.W.keepIn K (.ref fF14) = true)
    (aF15 : PySem.W.nsIn K mainGlobals "take_tie" = some (some (.ref fF15)))
    (lF15 : K.lookup fF15 = some ⟨ocF15, odF15, .func (PySem.W.fnOf "take_tie" "take_tie" (defArgs sTakeT) (defBody sTakeT) (defScope sTakeT) .none kVF15 dcF15 pmF15 anF15 cdF15 ctF15), slF15⟩)
    (cF15 : PySem.W.codeIn K cdF15 "take_tie" = true)
    (kF15 : PySem.W.keepIn K (.ref fF15) = true)
    (aF16 : PySem.W.nsIn K mainGlobals "words_of" = some (some (.ref fF16)))
    (lF16 : K.lookup fF16 = some ⟨ocF16, odF16, .func (PySem.W.fnOf "words_of" "words_of" (defArgs sWdsOf) (defBody sWdsOf) (defScope sWdsOf) .none kVF16 dcF16 pmF16 anF16 cdF16 ctF16), slF16⟩)
    (cF16 : PySem.W.codeIn K cdF16 "words_of" = true)
    (kF16 : PySem.W.keepIn K (.ref fF16) = true)
    (aF17 : PySem.W.nsIn K mainGlobals "written_integer" = some (some (.ref fF17)))
    (lF17 : K.lookup fF17 = some ⟨ocF17, odF17, .func (PySem.W.fnOf "written_integer" "written_integer" (defArgs sWrit) (defBody sWrit) (defScope sWrit) .none kVF17 dcF17 pmF17 anF17 cdF17 ctF17), slF17⟩)
    (cF17 : PySem.W.codeIn K cdF17 "written_integer" = true)
    (kF17 : PySem.W.keepIn K (.ref fF17) = true)
    (aF18 : PySem.W.nsIn K mainGlobals "law" = some (some (.ref fF18)))
    (lF18 : K.lookup fF18 = some ⟨ocF18, odF18, .func (PySem.W.fnOf "law" "law" (defArgs sLaw) (defBody sLaw) (defScope sLaw) .none kVF18 dcF18 pmF18 anF18 cdF18 ctF18), slF18⟩)
    (cF18 : PySem.W.codeIn K cdF18 "law" = true)
    (kF18 : PySem.W.keepIn K (.ref fF18) = true)
    (mn : PySem.W.nsIn K mainGlobals "MOST_NUMBER" = some (some (.int 60 tkMN)))
    (z_isinstance : PySem.W.nsIn K mainGlobals "isinstance" = some none)
    (z_int : PySem.W.nsIn K mainGlobals "int" = some none)
    (z_bool : PySem.W.nsIn K mainGlobals "bool" = some none)
    (z_str : PySem.W.nsIn K mainGlobals "str" = some none)
    (z_max : PySem.W.nsIn K mainGlobals "max" = some none)
    (z_repr : PySem.W.nsIn K mainGlobals "repr" = some none)
    (z_len : PySem.W.nsIn K mainGlobals "len" = some none)
    (z_list : PySem.W.nsIn K mainGlobals "list" = some none)
    (z_range : PySem.W.nsIn K mainGlobals "range" = some none)
    (z_abs : PySem.W.nsIn K mainGlobals "abs" = some none)
    (clsG : PySem.W.specialIn K (.builtin "object.__class__") "__get__" = some (some (.builtin "getset_descriptor.__get__")))
    (clsT : PySem.W.takesIn K (.builtin "object.__class__") = some true)
    (aDE : PySem.W.nsIn K mainGlobals "DayError" = some (some (.ref cDE)))
    (exDE : PySem.W.subIn K (.ref cDE) (.type "BaseException") = some true)
    (hdDE : PySem.W.hasDictIn K cDE = true)
    (tyDE : PySem.W.typeIn K (.ref cDE) = some (.type "type"))
    (nBN : PySem.W.nsIn K mainGlobals "BadName" = some (some (.ref cBN)))
    (xBN : K.lookup cBN = some (excClassObj nmBN qBN cBN NBN bsBN [.ref cDE, .type "ValueError", .type "Exception", .type "BaseException", .type "object"] true snBN subBN abBN colBN ddBN m0BN m1BN m2BN m3BN m5BN "ValueError.__new__"))
    (saBN : PySem.W.findIn K (.ref cBN) "__setattr__" = some (some (.builtin "object.__setattr__")))
    (exBN : PySem.W.subIn K (.ref cBN) (.type "BaseException") = some true)
    (tyBN : PySem.W.typeIn K (.ref cBN) = some (.type "type"))
    (kcBN : PySem.W.keepIn K (.ref cBN) = true)
    (aJBN : PySem.W.findIn K (.ref cBN) "__init__" = some (some (.ref fJBN)))
    (tiBN : PySem.W.typeIn K (.ref fJBN) = some (.type "function"))
    (lJBN : K.lookup fJBN = some ⟨ocJBN, odJBN, .func (PySem.W.fnOf "__init__" "BadName.__init__" (defArgs sBNI) (defBody sBNI) (defScope sBNI) .none kVJBN dcJBN pmJBN anJBN cdJBN ctJBN), slJBN⟩)
    (cJBN : PySem.W.codeIn K cdJBN "BadName.__init__" = true)
    (kJBN : PySem.W.keepIn K (.ref fJBN) = true)
    (no0BN : PySem.W.findIn K (.ref cBN) "value" = some none)
    (ggBN : PySem.W.findIn K (.ref cBN) "__getattribute__" = some (some (.builtin "BaseException.__getattribute__")))
    (gtBN : PySem.W.findIn K (.ref cBN) "__getattr__" = some none)
    (hdBN : PySem.W.hasDictIn K cBN = true)
    (ccBN : PySem.W.findIn K (.ref cBN) "__class__" = some (some (.builtin "object.__class__")))
    (moBN : PySem.W.mroIn K cBN (.type "object") = some true)
    (sdBN : PySem.W.subIn K (.ref cBN) (.ref cDE) = some true)
    (nBU : PySem.W.nsIn K mainGlobals "BadNumber" = some (some (.ref cBU)))
    (xBU : K.lookup cBU = some (excClassObj nmBU qBU cBU NBU bsBU [.ref cDE, .type "ValueError", .type "Exception", .type "BaseException", .type "object"] true snBU subBU abBU colBU ddBU m0BU m1BU m2BU m3BU m5BU "ValueError.__new__"))
    (saBU : PySem.W.findIn K (.ref cBU) "__setattr__" = some (some (.builtin "object.__setattr__")))
    (exBU : PySem.W.subIn K (.ref cBU) (.type "BaseException") = some true)
    (tyBU : PySem.W.typeIn K (.ref cBU) = some (.type "type"))
    (kcBU : PySem.W.keepIn K (.ref cBU) = true)
    (aJBU : PySem.W.findIn K (.ref cBU) "__init__" = some (some (.ref fJBU)))
    (tiBU : PySem.W.typeIn K (.ref fJBU) = some (.type "function"))
    (lJBU : K.lookup fJBU = some ⟨ocJBU, odJBU, .func (PySem.W.fnOf "__init__" "BadNumber.__init__" (defArgs sBUI) (defBody sBUI) (defScope sBUI) .none kVJBU dcJBU pmJBU anJBU cdJBU ctJBU), slJBU⟩)
    (cJBU : PySem.W.codeIn K cdJBU "BadNumber.__init__" = true)
    (kJBU : PySem.W.keepIn K (.ref fJBU) = true)
    (no0BU : PySem.W.findIn K (.ref cBU) "value" = some none)
    (ggBU : PySem.W.findIn K (.ref cBU) "__getattribute__" = some (some (.builtin "BaseException.__getattribute__")))
    (gtBU : PySem.W.findIn K (.ref cBU) "__getattr__" = some none)
    (hdBU : PySem.W.hasDictIn K cBU = true)
    (ccBU : PySem.W.findIn K (.ref cBU) "__class__" = some (some (.builtin "object.__class__")))
    (moBU : PySem.W.mroIn K cBU (.type "object") = some true)
    (sdBU : PySem.W.subIn K (.ref cBU) (.ref cDE) = some true)
    (nBT : PySem.W.nsIn K mainGlobals "BadText" = some (some (.ref cBT)))
    (xBT : K.lookup cBT = some (excClassObj nmBT qBT cBT NBT bsBT [.ref cDE, .type "ValueError", .type "Exception", .type "BaseException", .type "object"] true snBT subBT abBT colBT ddBT m0BT m1BT m2BT m3BT m5BT "ValueError.__new__"))
    (saBT : PySem.W.findIn K (.ref cBT) "__setattr__" = some (some (.builtin "object.__setattr__")))
    (exBT : PySem.W.subIn K (.ref cBT) (.type "BaseException") = some true)
    (tyBT : PySem.W.typeIn K (.ref cBT) = some (.type "type"))
    (kcBT : PySem.W.keepIn K (.ref cBT) = true)
    (aJBT : PySem.W.findIn K (.ref cBT) "__init__" = some (some (.ref fJBT)))
    (tiBT : PySem.W.typeIn K (.ref fJBT) = some (.type "function"))
    (lJBT : K.lookup fJBT = some ⟨ocJBT, odJBT, .func (PySem.W.fnOf "__init__" "BadText.__init__" (defArgs sBTI) (defBody sBTI) (defScope sBTI) .none kVJBT dcJBT pmJBT anJBT cdJBT ctJBT), slJBT⟩)
    (cJBT : PySem.W.codeIn K cdJBT "BadText.__init__" = true)
    (kJBT : PySem.W.keepIn K (.ref fJBT) = true)
    (no0BT : PySem.W.findIn K (.ref cBT) "line" = some none)
    (no1BT : PySem.W.findIn K (.ref cBT) "word" = some none)
    (ggBT : PySem.W.findIn K (.ref cBT) "__getattribute__" = some (some (.builtin "BaseException.__getattribute__")))
    (gtBT : PySem.W.findIn K (.ref cBT) "__getattr__" = some none)
    (hdBT : PySem.W.hasDictIn K cBT = true)
    (ccBT : PySem.W.findIn K (.ref cBT) "__class__" = some (some (.builtin "object.__class__")))
    (moBT : PySem.W.mroIn K cBT (.type "object") = some true)
    (sdBT : PySem.W.subIn K (.ref cBT) (.ref cDE) = some true)
    (acT : PySem.W.nsIn K mainGlobals "Tie" = some (some (.ref cT)))
    (rdcT : PySem.W.readsIn K cT (.type "type") = true)
    (gacT : PySem.W.specialIn K (.ref cT) "__getattribute__" = some (some (.builtin "type.__getattribute__")))
    (atcT : PySem.W.findCls K (.ref cT) (.type "type") "__init__" = some (.val (.ref fTI)))
    (hdcT : PySem.W.hasDictIn K cT = true)
    (tycT : PySem.W.typeIn K (.ref cT) = some (.type "type"))
    (lTI : K.lookup fTI = some ⟨ocTI, odTI, .func (PySem.W.fnOf "__init__" "Tie.__init__" (defArgs sTieI) (defBody sTieI) (defScope sTieI) .none kVTI dcTI pmTI anTI cdTI ctTI), slTI⟩)
    (cTI : PySem.W.codeIn K cdTI "Tie.__init__" = true)
    (kTI : PySem.W.keepIn K (.ref fTI) = true)
    (acN : PySem.W.nsIn K mainGlobals "Numbered" = some (some (.ref cN)))
    (rdcN : PySem.W.readsIn K cN (.type "type") = true)
    (gacN : PySem.W.specialIn K (.ref cN) "__getattribute__" = some (some (.builtin "type.__getattribute__")))
    (atcN : PySem.W.findCls K (.ref cN) (.type "type") "__init__" = some (.val (.ref fNI)))
    (hdcN : PySem.W.hasDictIn K cN = true)
    (tycN : PySem.W.typeIn K (.ref cN) = some (.type "type"))
    (lNI : K.lookup fNI = some ⟨ocNI, odNI, .func (PySem.W.fnOf "__init__" "Numbered.__init__" (defArgs sNumI) (defBody sNumI) (defScope sNumI) .none kVNI dcNI pmNI anNI cdNI ctNI), slNI⟩)
    (cNI : PySem.W.codeIn K cdNI "Numbered.__init__" = true)
    (kNI : PySem.W.keepIn K (.ref fNI) = true)
    (aRD : PySem.W.findCls K (.ref cT) (.type "type") "read" = some (.get (.builtin "classmethod.__get__") (.ref qRD) .none (.ref cT)))
    (rRD : PySem.W.recIn K qRD "classmethod" = some (.ref fRD :: rsRD))
    (nRD : PySem.W.fnIn K fRD = true)
    (lRD : K.lookup fRD = some ⟨ocRD, odRD, .func (PySem.W.fnOf "read" "Tie.read" (defArgs sTieR) (defBody sTieR) (defScope sTieR) .none kVRD dcRD pmRD anRD cdRD ctRD), slRD⟩)
    (cRD : PySem.W.codeIn K cdRD "Tie.read" = true)
    (kRD : PySem.W.keepIn K (.ref fRD) = true)
    (aKA : PySem.W.nsIn K mainGlobals "KINDS" = some (some (.ref kA)))
    (lKA : K.lookup kA = some ⟨.type "tuple", odKA, .seq #[.str "back" tk0, .str "ahead" tk1, .str "sofar" tk2, .str "whole" tk3, .str "last" tk4, .str "same" tk5] nKA, slKA⟩)
    (aCw : PySem.W.nsIn K mainGlobals "Words" = some (some (.ref Cw)))
    (aW0 : PySem.W.findIn K (.ref Cw) "__init__" = some (some (.ref fW0)))
    (iW0 : PySem.W.isFn K (.ref fW0) = true)
    (lW0 : K.lookup fW0 = some ⟨ocW0, odW0, .func (PySem.W.fnOf "__init__" "Words.__init__" (defArgs sWdsI) (defBody sWdsI) (defScope sWdsI) .none kVW0 dcW0 pmW0 anW0 cdW0 ctW0), slW0⟩)
    (cW0 : PySem.W.codeIn K cdW0 "Words.__init__" = true)
    (kW0 : PySem.W.keepIn K (.ref fW0) = true)
    (aW1 : PySem.W.findIn K (.ref Cw) "is_over" = some (some (.ref fW1)))
    (iW1 : PySem.W.isFn K (.ref fW1) = true)
    (lW1 : K.lookup fW1 = some ⟨ocW1, odW1, .func (PySem.W.fnOf "is_over" "Words.is_over" (defArgs sOver) (defBody sOver) (defScope sOver) .none kVW1 dcW1 pmW1 anW1 cdW1 ctW1), slW1⟩)
    (cW1 : PySem.W.codeIn K cdW1 "Words.is_over" = true)
    (kW1 : PySem.W.keepIn K (.ref fW1) = true)
    (aW2 : PySem.W.findIn K (.ref Cw) "is_ahead" = some (some (.ref fW2)))
    (iW2 : PySem.W.isFn K (.ref fW2) = true)
    (lW2 : K.lookup fW2 = some ⟨ocW2, odW2, .func (PySem.W.fnOf "is_ahead" "Words.is_ahead" (defArgs sAhd) (defBody sAhd) (defScope sAhd) .none kVW2 dcW2 pmW2 anW2 cdW2 ctW2), slW2⟩)
    (cW2 : PySem.W.codeIn K cdW2 "Words.is_ahead" = true)
    (kW2 : PySem.W.keepIn K (.ref fW2) = true)
    (aW3 : PySem.W.findIn K (.ref Cw) "take_one_of" = some (some (.ref fW3)))
    (iW3 : PySem.W.isFn K (.ref fW3) = true)
    (lW3 : K.lookup fW3 = some ⟨ocW3, odW3, .func (PySem.W.fnOf "take_one_of" "Words.take_one_of" (defArgs sOneOf) (defBody sOneOf) (defScope sOneOf) .none kVW3 dcW3 pmW3 anW3 cdW3 ctW3), slW3⟩)
    (cW3 : PySem.W.codeIn K cdW3 "Words.take_one_of" = true)
    (kW3 : PySem.W.keepIn K (.ref fW3) = true)
    (aW4 : PySem.W.findIn K (.ref Cw) "take_integer" = some (some (.ref fW4)))
    (iW4 : PySem.W.isFn K (.ref fW4) = true)
    (lW4 : K.lookup fW4 = some ⟨ocW4, odW4, .func (PySem.W.fnOf "take_integer" "Words.take_integer" (defArgs sTake) (defBody sTake) (defScope sTake) .none kVW4 dcW4 pmW4 anW4 cdW4 ctW4), slW4⟩)
    (cW4 : PySem.W.codeIn K cdW4 "Words.take_integer" = true)
    (kW4 : PySem.W.keepIn K (.ref fW4) = true)
    (aW5 : PySem.W.findIn K (.ref Cw) "take_name" = some (some (.ref fW5)))
    (iW5 : PySem.W.isFn K (.ref fW5) = true)
    (lW5 : K.lookup fW5 = some ⟨ocW5, odW5, .func (PySem.W.fnOf "take_name" "Words.take_name" (defArgs sTakeN) (defBody sTakeN) (defScope sTakeN) .none kVW5 dcW5 pmW5 anW5 cdW5 ctW5), slW5⟩)
    (cW5 : PySem.W.codeIn K cdW5 "Words.take_name" = true)
    (kW5 : PySem.W.keepIn K (.ref fW5) = true)
    (aW6 : PySem.W.findIn K (.ref Cw) "take_end" = some (some (.ref fW6)))
    (iW6 : PySem.W.isFn K (.ref fW6) = true)
    (lW6 : K.lookup fW6 = some ⟨ocW6, odW6, .func (PySem.W.fnOf "take_end" "Words.take_end" (defArgs sTakeE) (defBody sTakeE) (defScope sTakeE) .none kVW6 dcW6 pmW6 anW6 cdW6 ctW6), slW6⟩)
    (cW6 : PySem.W.codeIn K cdW6 "Words.take_end" = true)
    (kW6 : PySem.W.keepIn K (.ref fW6) = true)
    (wpg : PySem.W.plainGet K Cw Str.empty = true)
    (whd : PySem.W.hasDictIn K Cw = true)
    (wpo : PySem.W.plainOver K Cw = true)
    (wsa : PySem.W.findIn K (.ref Cw) "__setattr__" = some (some (.builtin "object.__setattr__")))
    (wmk : PySem.W.makesIn K Cw = true)
    (wkc : PySem.W.keepIn K (.ref Cw) = true)
    (nW : PySem.W.findIn K (.ref Cw) "_words" = some none)
    (nRw : PySem.W.findIn K (.ref Cw) "_row" = some none)
    (nA : PySem.W.findIn K (.ref Cw) "_at" = some none)
    (nBk : PySem.W.nsIn K mainGlobals "Back" = some (some (.ref gBk)))
    (pgBk : PySem.W.plainGet K gBk Str.empty = true)
    (hdBk : PySem.W.hasDictIn K gBk = true)
    (tyBk : PySem.W.typeIn K (.ref gBk) = some (.type "type"))
    (poBk : PySem.W.plainOver K gBk = true)
    (saBk : PySem.W.findIn K (.ref gBk) "__setattr__" = some (some (.builtin "object.__setattr__")))
    (mkBk : PySem.W.makesIn K gBk = true)
    (kcBk : PySem.W.keepIn K (.ref gBk) = true)
    (nSBk : PySem.W.findIn K (.ref gBk) "source" = some none)
    (nNBk : PySem.W.findIn K (.ref gBk) "number" = some none)
    (aBkI : PySem.W.findIn K (.ref gBk) "__init__" = some (some (.ref fBkI)))
    (iBkI : PySem.W.isFn K (.ref fBkI) = true)
    (lBkI : K.lookup fBkI = some ⟨ocBkI, odBkI, .func (PySem.W.fnOf "__init__" "Back.__init__" (defArgs sBkI) (defBody sBkI) (defScope sBkI) .none kVBkI dcBkI pmBkI anBkI cdBkI ctBkI), slBkI⟩)
    (cBkI : PySem.W.codeIn K cdBkI "Back.__init__" = true)
    (kBkI : PySem.W.keepIn K (.ref fBkI) = true)
    (aBkE : PySem.W.findIn K (.ref gBk) "__eq__" = some (some (.ref fBkE)))
    (iBkE : PySem.W.isFn K (.ref fBkE) = true)
    (lBkE : K.lookup fBkE = some ⟨ocBkE, odBkE, .func (PySem.W.fnOf "__eq__" "Back.__eq__" (defArgs sBkE) (defBody sBkE) (defScope sBkE) .none kVBkE dcBkE pmBkE anBkE cdBkE ctBkE), slBkE⟩)
    (cBkE : PySem.W.codeIn K cdBkE "Back.__eq__" = true)
    (kBkE : PySem.W.keepIn K (.ref fBkE) = true)
    (aBkT : PySem.W.findIn K (.ref gBk) "__str__" = some (some (.ref fBkT)))
    (iBkT : PySem.W.isFn K (.ref fBkT) = true)
    (lBkT : K.lookup fBkT = some ⟨ocBkT, odBkT, .func (PySem.W.fnOf "__str__" "Back.__str__" (defArgs sBkT) (defBody sBkT) (defScope sBkT) .none kVBkT dcBkT pmBkT anBkT cdBkT ctBkT), slBkT⟩)
    (cBkT : PySem.W.codeIn K cdBkT "Back.__str__" = true)
    (kBkT : PySem.W.keepIn K (.ref fBkT) = true)
    (ccBk : PySem.W.findIn K (.ref gBk) "__class__" = some (some (.builtin "object.__class__")))
    (moBk : PySem.W.mroIn K gBk (.type "object") = some true)
    (neBk : PySem.W.findIn K (.ref gBk) "__ne__" = some (some (.builtin "object.__ne__")))
    (sTBk : PySem.W.subIn K (.ref gBk) (.ref cT) = some true)
    (sNBk : PySem.W.subIn K (.ref gBk) (.ref cN) = some true)
    (sb0Bk : PySem.W.subIn K (.type "NoneType") (.ref gBk) = some false)
    (sb1Bk : PySem.W.subIn K (.type "str") (.ref gBk) = some false)
    (sb2Bk : PySem.W.subIn K (.type "tuple") (.ref gBk) = some false)
    (sb3Bk : PySem.W.subIn K (.type "int") (.ref gBk) = some false)
    (nAh : PySem.W.nsIn K mainGlobals "Ahead" = some (some (.ref gAh)))
    (pgAh : PySem.W.plainGet K gAh Str.empty = true)
    (hdAh : PySem.W.hasDictIn K gAh = true)
    (tyAh : PySem.W.typeIn K (.ref gAh) = some (.type "type"))
    (poAh : PySem.W.plainOver K gAh = true)
    (saAh : PySem.W.findIn K (.ref gAh) "__setattr__" = some (some (.builtin "object.__setattr__")))
    (mkAh : PySem.W.makesIn K gAh = true)
    (kcAh : PySem.W.keepIn K (.ref gAh) = true)
    (nSAh : PySem.W.findIn K (.ref gAh) "source" = some none)
    (nNAh : PySem.W.findIn K (.ref gAh) "number" = some none)
    (aAhI : PySem.W.findIn K (.ref gAh) "__init__" = some (some (.ref fAhI)))
    (iAhI : PySem.W.isFn K (.ref fAhI) = true)
    (lAhI : K.lookup fAhI = some ⟨ocAhI, odAhI, .func (PySem.W.fnOf "__init__" "Ahead.__init__" (defArgs sAhI) (defBody sAhI) (defScope sAhI) .none kVAhI dcAhI pmAhI anAhI cdAhI ctAhI), slAhI⟩)
    (cAhI : PySem.W.codeIn K cdAhI "Ahead.__init__" = true)
    (kAhI : PySem.W.keepIn K (.ref fAhI) = true)
    (aAhE : PySem.W.findIn K (.ref gAh) "__eq__" = some (some (.ref fAhE)))
    (iAhE : PySem.W.isFn K (.ref fAhE) = true)
    (lAhE : K.lookup fAhE = some ⟨ocAhE, odAhE, .func (PySem.W.fnOf "__eq__" "Ahead.__eq__" (defArgs sAhE) (defBody sAhE) (defScope sAhE) .none kVAhE dcAhE pmAhE anAhE cdAhE ctAhE), slAhE⟩)
    (cAhE : PySem.W.codeIn K cdAhE "Ahead.__eq__" = true)
    (kAhE : PySem.W.keepIn K (.ref fAhE) = true)
    (aAhT : PySem.W.findIn K (.ref gAh) "__str__" = some (some (.ref fAhT)))
    (iAhT : PySem.W.isFn K (.ref fAhT) = true)
    (lAhT : K.lookup fAhT = some ⟨ocAhT, odAhT, .func (PySem.W.fnOf "__str__" "Ahead.__str__" (defArgs sAhT) (defBody sAhT) (defScope sAhT) .none kVAhT dcAhT pmAhT anAhT cdAhT ctAhT), slAhT⟩)
    (cAhT : PySem.W.codeIn K cdAhT "Ahead.__str__" = true)
    (kAhT : PySem.W.keepIn K (.ref fAhT) = true)
    (ccAh : PySem.W.findIn K (.ref gAh) "__class__" = some (some (.builtin "object.__class__")))
    (moAh : PySem.W.mroIn K gAh (.type "object") = some true)
    (neAh : PySem.W.findIn K (.ref gAh) "__ne__" = some (some (.builtin "object.__ne__")))
    (sTAh : PySem.W.subIn K (.ref gAh) (.ref cT) = some true)
    (sNAh : PySem.W.subIn K (.ref gAh) (.ref cN) = some true)
    (sb0Ah : PySem.W.subIn K (.type "NoneType") (.ref gAh) = some false)
    (sb1Ah : PySem.W.subIn K (.type "str") (.ref gAh) = some false)
    (sb2Ah : PySem.W.subIn K (.type "tuple") (.ref gAh) = some false)
    (sb3Ah : PySem.W.subIn K (.type "int") (.ref gAh) = some false)
    (nSo : PySem.W.nsIn K mainGlobals "Sofar" = some (some (.ref gSo)))
    (pgSo : PySem.W.plainGet K gSo Str.empty = true)
    (hdSo : PySem.W.hasDictIn K gSo = true)
    (tySo : PySem.W.typeIn K (.ref gSo) = some (.type "type"))
    (poSo : PySem.W.plainOver K gSo = true)
    (saSo : PySem.W.findIn K (.ref gSo) "__setattr__" = some (some (.builtin "object.__setattr__")))
    (mkSo : PySem.W.makesIn K gSo = true)
    (kcSo : PySem.W.keepIn K (.ref gSo) = true)
    (nSSo : PySem.W.findIn K (.ref gSo) "source" = some none)
    (nNSo : PySem.W.findIn K (.ref gSo) "number" = some none)
    (aSoI : PySem.W.findIn K (.ref gSo) "__init__" = some (some (.ref fSoI)))
    (iSoI : PySem.W.isFn K (.ref fSoI) = true)
    (lSoI : K.lookup fSoI = some ⟨ocSoI, odSoI, .func (PySem.W.fnOf "__init__" "Sofar.__init__" (defArgs sSoI) (defBody sSoI) (defScope sSoI) .none kVSoI dcSoI pmSoI anSoI cdSoI ctSoI), slSoI⟩)
    (cSoI : PySem.W.codeIn K cdSoI "Sofar.__init__" = true)
    (kSoI : PySem.W.keepIn K (.ref fSoI) = true)
    (aSoE : PySem.W.findIn K (.ref gSo) "__eq__" = some (some (.ref fSoE)))
    (iSoE : PySem.W.isFn K (.ref fSoE) = true)
    (lSoE : K.lookup fSoE = some ⟨ocSoE, odSoE, .func (PySem.W.fnOf "__eq__" "Sofar.__eq__" (defArgs sSoE) (defBody sSoE) (defScope sSoE) .none kVSoE dcSoE pmSoE anSoE cdSoE ctSoE), slSoE⟩)
    (cSoE : PySem.W.codeIn K cdSoE "Sofar.__eq__" = true)
    (kSoE : PySem.W.keepIn K (.ref fSoE) = true)
    (aSoT : PySem.W.findIn K (.ref gSo) "__str__" = some (some (.ref fSoT)))
    (iSoT : PySem.W.isFn K (.ref fSoT) = true)
    (lSoT : K.lookup fSoT = some ⟨ocSoT, odSoT, .func (PySem.W.fnOf "__str__" "Sofar.__str__" (defArgs sSoT) (defBody sSoT) (defScope sSoT) .none kVSoT dcSoT pmSoT anSoT cdSoT ctSoT), slSoT⟩)
    (cSoT : PySem.W.codeIn K cdSoT "Sofar.__str__" = true)
    (kSoT : PySem.W.keepIn K (.ref fSoT) = true)
    (ccSo : PySem.W.findIn K (.ref gSo) "__class__" = some (some (.builtin "object.__class__")))
    (moSo : PySem.W.mroIn K gSo (.type "object") = some true)
    (neSo : PySem.W.findIn K (.ref gSo) "__ne__" = some (some (.builtin "object.__ne__")))
    (sTSo : PySem.W.subIn K (.ref gSo) (.ref cT) = some true)
    (sNSo : PySem.W.subIn K (.ref gSo) (.ref cN) = some false)
    (sb0So : PySem.W.subIn K (.type "NoneType") (.ref gSo) = some false)
    (sb1So : PySem.W.subIn K (.type "str") (.ref gSo) = some false)
    (sb2So : PySem.W.subIn K (.type "tuple") (.ref gSo) = some false)
    (sb3So : PySem.W.subIn K (.type "int") (.ref gSo) = some false)
    (nWh : PySem.W.nsIn K mainGlobals "Whole" = some (some (.ref gWh)))
    (pgWh : PySem.W.plainGet K gWh Str.empty = true)
    (hdWh : PySem.W.hasDictIn K gWh = true)
    (tyWh : PySem.W.typeIn K (.ref gWh) = some (.type "type"))
    (poWh : PySem.W.plainOver K gWh = true)
    (saWh : PySem.W.findIn K (.ref gWh) "__setattr__" = some (some (.builtin "object.__setattr__")))
    (mkWh : PySem.W.makesIn K gWh = true)
    (kcWh : PySem.W.keepIn K (.ref gWh) = true)
    (nSWh : PySem.W.findIn K (.ref gWh) "source" = some none)
    (nNWh : PySem.W.findIn K (.ref gWh) "number" = some none)
    (aWhI : PySem.W.findIn K (.ref gWh) "__init__" = some (some (.ref fWhI)))
    (iWhI : PySem.W.isFn K (.ref fWhI) = true)
    (lWhI : K.lookup fWhI = some ⟨ocWhI, odWhI, .func (PySem.W.fnOf "__init__" "Whole.__init__" (defArgs sWhI) (defBody sWhI) (defScope sWhI) .none kVWhI dcWhI pmWhI anWhI cdWhI ctWhI), slWhI⟩)
    (cWhI : PySem.W.codeIn K cdWhI "Whole.__init__" = true)
    (kWhI : PySem.W.keepIn K (.ref fWhI) = true)
    (aWhE : PySem.W.findIn K (.ref gWh) "__eq__" = some (some (.ref fWhE)))
    (iWhE : PySem.W.isFn K (.ref fWhE) = true)
    (lWhE : K.lookup fWhE = some ⟨ocWhE, odWhE, .func (PySem.W.fnOf "__eq__" "Whole.__eq__" (defArgs sWhE) (defBody sWhE) (defScope sWhE) .none kVWhE dcWhE pmWhE anWhE cdWhE ctWhE), slWhE⟩)
    (cWhE : PySem.W.codeIn K cdWhE "Whole.__eq__" = true)
    (kWhE : PySem.W.keepIn K (.ref fWhE) = true)
    (aWhT : PySem.W.findIn K (.ref gWh) "__str__" = some (some (.ref fWhT)))
    (iWhT : PySem.W.isFn K (.ref fWhT) = true)
    (lWhT : K.lookup fWhT = some ⟨ocWhT, odWhT, .func (PySem.W.fnOf "__str__" "Whole.__str__" (defArgs sWhT) (defBody sWhT) (defScope sWhT) .none kVWhT dcWhT pmWhT anWhT cdWhT ctWhT), slWhT⟩)
    (cWhT : PySem.W.codeIn K cdWhT "Whole.__str__" = true)
    (kWhT : PySem.W.keepIn K (.ref fWhT) = true)
    (ccWh : PySem.W.findIn K (.ref gWh) "__class__" = some (some (.builtin "object.__class__")))
    (moWh : PySem.W.mroIn K gWh (.type "object") = some true)
    (neWh : PySem.W.findIn K (.ref gWh) "__ne__" = some (some (.builtin "object.__ne__")))
    (sTWh : PySem.W.subIn K (.ref gWh) (.ref cT) = some true)
    (sNWh : PySem.W.subIn K (.ref gWh) (.ref cN) = some false)
    (sb0Wh : PySem.W.subIn K (.type "NoneType") (.ref gWh) = some false)
    (sb1Wh : PySem.W.subIn K (.type "str") (.ref gWh) = some false)
    (sb2Wh : PySem.W.subIn K (.type "tuple") (.ref gWh) = some false)
    (sb3Wh : PySem.W.subIn K (.type "int") (.ref gWh) = some false)
    (nLa : PySem.W.nsIn K mainGlobals "Last" = some (some (.ref gLa)))
    (pgLa : PySem.W.plainGet K gLa Str.empty = true)
    (hdLa : PySem.W.hasDictIn K gLa = true)
    (tyLa : PySem.W.typeIn K (.ref gLa) = some (.type "type"))
    (poLa : PySem.W.plainOver K gLa = true)
    (saLa : PySem.W.findIn K (.ref gLa) "__setattr__" = some (some (.builtin "object.__setattr__")))
    (mkLa : PySem.W.makesIn K gLa = true)
    (kcLa : PySem.W.keepIn K (.ref gLa) = true)
    (nSLa : PySem.W.findIn K (.ref gLa) "source" = some none)
    (nNLa : PySem.W.findIn K (.ref gLa) "number" = some none)
    (aLaI : PySem.W.findIn K (.ref gLa) "__init__" = some (some (.ref fLaI)))
    (iLaI : PySem.W.isFn K (.ref fLaI) = true)
    (lLaI : K.lookup fLaI = some ⟨ocLaI, odLaI, .func (PySem.W.fnOf "__init__" "Last.__init__" (defArgs sLaI) (defBody sLaI) (defScope sLaI) .none kVLaI dcLaI pmLaI anLaI cdLaI ctLaI), slLaI⟩)
    (cLaI : PySem.W.codeIn K cdLaI "Last.__init__" = true)
    (kLaI : PySem.W.keepIn K (.ref fLaI) = true)
    (aLaE : PySem.W.findIn K (.ref gLa) "__eq__" = some (some (.ref fLaE)))
    (iLaE : PySem.W.isFn K (.ref fLaE) = true)
    (lLaE : K.lookup fLaE = some ⟨ocLaE, odLaE, .func (PySem.W.fnOf "__eq__" "Last.__eq__" (defArgs sLaE) (defBody sLaE) (defScope sLaE) .none kVLaE dcLaE pmLaE anLaE cdLaE ctLaE), slLaE⟩)
    (cLaE : PySem.W.codeIn K cdLaE "Last.__eq__" = true)
    (kLaE : PySem.W.keepIn K (.ref fLaE) = true)
    (aLaT : PySem.W.findIn K (.ref gLa) "__str__" = some (some (.ref fLaT)))
    (iLaT : PySem.W.isFn K (.ref fLaT) = true)
    (lLaT : K.lookup fLaT = some ⟨ocLaT, odLaT, .func (PySem.W.fnOf "__str__" "Last.__str__" (defArgs sLaT) (defBody sLaT) (defScope sLaT) .none kVLaT dcLaT pmLaT anLaT cdLaT ctLaT), slLaT⟩)
    (cLaT : PySem.W.codeIn K cdLaT "Last.__str__" = true)
    (kLaT : PySem.W.keepIn K (.ref fLaT) = true)
    (ccLa : PySem.W.findIn K (.ref gLa) "__class__" = some (some (.builtin "object.__class__")))
    (moLa : PySem.W.mroIn K gLa (.type "object") = some true)
    (neLa : PySem.W.findIn K (.ref gLa) "__ne__" = some (some (.builtin "object.__ne__")))
    (sTLa : PySem.W.subIn K (.ref gLa) (.ref cT) = some true)
    (sNLa : PySem.W.subIn K (.ref gLa) (.ref cN) = some false)
    (sb0La : PySem.W.subIn K (.type "NoneType") (.ref gLa) = some false)
    (sb1La : PySem.W.subIn K (.type "str") (.ref gLa) = some false)
    (sb2La : PySem.W.subIn K (.type "tuple") (.ref gLa) = some false)
    (sb3La : PySem.W.subIn K (.type "int") (.ref gLa) = some false)
    (nSm : PySem.W.nsIn K mainGlobals "Same" = some (some (.ref gSm)))
    (pgSm : PySem.W.plainGet K gSm Str.empty = true)
    (hdSm : PySem.W.hasDictIn K gSm = true)
    (tySm : PySem.W.typeIn K (.ref gSm) = some (.type "type"))
    (poSm : PySem.W.plainOver K gSm = true)
    (saSm : PySem.W.findIn K (.ref gSm) "__setattr__" = some (some (.builtin "object.__setattr__")))
    (mkSm : PySem.W.makesIn K gSm = true)
    (kcSm : PySem.W.keepIn K (.ref gSm) = true)
    (nSSm : PySem.W.findIn K (.ref gSm) "source" = some none)
    (nNSm : PySem.W.findIn K (.ref gSm) "number" = some none)
    (aSmI : PySem.W.findIn K (.ref gSm) "__init__" = some (some (.ref fSmI)))
    (iSmI : PySem.W.isFn K (.ref fSmI) = true)
    (lSmI : K.lookup fSmI = some ⟨ocSmI, odSmI, .func (PySem.W.fnOf "__init__" "Same.__init__" (defArgs sSmI) (defBody sSmI) (defScope sSmI) .none kVSmI dcSmI pmSmI anSmI cdSmI ctSmI), slSmI⟩)
    (cSmI : PySem.W.codeIn K cdSmI "Same.__init__" = true)
    (kSmI : PySem.W.keepIn K (.ref fSmI) = true)
    (aSmE : PySem.W.findIn K (.ref gSm) "__eq__" = some (some (.ref fSmE)))
    (iSmE : PySem.W.isFn K (.ref fSmE) = true)
    (lSmE : K.lookup fSmE = some ⟨ocSmE, odSmE, .func (PySem.W.fnOf "__eq__" "Same.__eq__" (defArgs sSmE) (defBody sSmE) (defScope sSmE) .none kVSmE dcSmE pmSmE anSmE cdSmE ctSmE), slSmE⟩)
    (cSmE : PySem.W.codeIn K cdSmE "Same.__eq__" = true)
    (kSmE : PySem.W.keepIn K (.ref fSmE) = true)
    (aSmT : PySem.W.findIn K (.ref gSm) "__str__" = some (some (.ref fSmT)))
    (iSmT : PySem.W.isFn K (.ref fSmT) = true)
    (lSmT : K.lookup fSmT = some ⟨ocSmT, odSmT, .func (PySem.W.fnOf "__str__" "Same.__str__" (defArgs sSmT) (defBody sSmT) (defScope sSmT) .none kVSmT dcSmT pmSmT anSmT cdSmT ctSmT), slSmT⟩)
    (cSmT : PySem.W.codeIn K cdSmT "Same.__str__" = true)
    (kSmT : PySem.W.keepIn K (.ref fSmT) = true)
    (ccSm : PySem.W.findIn K (.ref gSm) "__class__" = some (some (.builtin "object.__class__")))
    (moSm : PySem.W.mroIn K gSm (.type "object") = some true)
    (neSm : PySem.W.findIn K (.ref gSm) "__ne__" = some (some (.builtin "object.__ne__")))
    (sTSm : PySem.W.subIn K (.ref gSm) (.ref cT) = some true)
    (sNSm : PySem.W.subIn K (.ref gSm) (.ref cN) = some false)
    (sb0Sm : PySem.W.subIn K (.type "NoneType") (.ref gSm) = some false)
    (sb1Sm : PySem.W.subIn K (.type "str") (.ref gSm) = some false)
    (sb2Sm : PySem.W.subIn K (.type "tuple") (.ref gSm) = some false)
    (sb3Sm : PySem.W.subIn K (.type "int") (.ref gSm) = some false)
    (sBkBk : PySem.W.subIn K (.ref gBk) (.ref gBk) = some true)
    (sBkAh : PySem.W.subIn K (.ref gBk) (.ref gAh) = some false)
    (sBkSo : PySem.W.subIn K (.ref gBk) (.ref gSo) = some false)
    (sBkWh : PySem.W.subIn K (.ref gBk) (.ref gWh) = some false)
    (sBkLa : PySem.W.subIn K (.ref gBk) (.ref gLa) = some false)
    (sBkSm : PySem.W.subIn K (.ref gBk) (.ref gSm) = some false)
    (sAhBk : PySem.W.subIn K (.ref gAh) (.ref gBk) = some false)
    (sAhAh : PySem.W.subIn K (.ref gAh) (.ref gAh) = some true)
    (sAhSo : PySem.W.subIn K (.ref gAh) (.ref gSo) = some false)
    (sAhWh : PySem.W.subIn K (.ref gAh) (.ref gWh) = some false)
    (sAhLa : PySem.W.subIn K (.ref gAh) (.ref gLa) = some false)
    (sAhSm : PySem.W.subIn K (.ref gAh) (.ref gSm) = some false)
    (sSoBk : PySem.W.subIn K (.ref gSo) (.ref gBk) = some false)
    (sSoAh : PySem.W.subIn K (.ref gSo) (.ref gAh) = some false)
    (sSoSo : PySem.W.subIn K (.ref gSo) (.ref gSo) = some true)
    (sSoWh : PySem.W.subIn K (.ref gSo) (.ref gWh) = some false)
    (sSoLa : PySem.W.subIn K (.ref gSo) (.ref gLa) = some false)
    (sSoSm : PySem.W.subIn K (.ref gSo) (.ref gSm) = some false)
    (sWhBk : PySem.W.subIn K (.ref gWh) (.ref gBk) = some false)
    (sWhAh : PySem.W.subIn K (.ref gWh) (.ref gAh) = some false)
    (sWhSo : PySem.W.subIn K (.ref gWh) (.ref gSo) = some false)
    (sWhWh : PySem.W.subIn K (.ref gWh) (.ref gWh) = some true)
    (sWhLa : PySem.W.subIn K (.ref gWh) (.ref gLa) = some false)
    (sWhSm : PySem.W.subIn K (.ref gWh) (.ref gSm) = some false)
    (sLaBk : PySem.W.subIn K (.ref gLa) (.ref gBk) = some false)
    (sLaAh : PySem.W.subIn K (.ref gLa) (.ref gAh) = some false)
    (sLaSo : PySem.W.subIn K (.ref gLa) (.ref gSo) = some false)
    (sLaWh : PySem.W.subIn K (.ref gLa) (.ref gWh) = some false)
    (sLaLa : PySem.W.subIn K (.ref gLa) (.ref gLa) = some true)
    (sLaSm : PySem.W.subIn K (.ref gLa) (.ref gSm) = some false)
    (sSmBk : PySem.W.subIn K (.ref gSm) (.ref gBk) = some false)
    (sSmAh : PySem.W.subIn K (.ref gSm) (.ref gAh) = some false)
    (sSmSo : PySem.W.subIn K (.ref gSm) (.ref gSo) = some false)
    (sSmWh : PySem.W.subIn K (.ref gSm) (.ref gWh) = some false)
    (sSmLa : PySem.W.subIn K (.ref gSm) (.ref gLa) = some false)
    (sSmSm : PySem.W.subIn K (.ref gSm) (.ref gSm) = some true)
    (sBB : PySem.W.subIn K (.ref cBT) (.ref cBT) = some true)
    (sCS : PySem.W.subIn K (.ref gLa) (.type "str") = some false)
    (eCR : cdF18 = .ref cR)
    (lR : K.lookup cR = some ⟨eR, dR, .fields vR, sR⟩)
    (pR : vR[11]? = some (.ref Pt))
    (nR : K.lookup Pt = none)
    : ∃ (fd : FuncData) (c Pt : Addr), (∀ (s : Shared) (v : Value), BindsTo s fd ⟨[v], []⟩ [("_law_script", v)]) ∧ Maker K h c Pt ∧ ∀ base : Heap, K.In base → base.Ns mainGlobals mg → LamX.TabB base mg c Pt → FnG l.prog w K mg base CX0 10 fa fd ["_law_script"] (spLawT K Pt) := by
  subst eCR
  have e := hfa.symm.trans (PySem.W.mg_of X G aF18)
  cases e
  have GF0 := PySem.W.mg_of X G aF0
  have HF0 := fun_mk (st := sWhole) lF0 cF0 kF0
  have GF1 := PySem.W.mg_of X G aF1
  have HF1 := fun_mk (st := sBetw) lF1 cF1 kF1
  have GF2 := PySem.W.mg_of X G aF2
  have HF2 := fun_mk (st := sName) lF2 cF2 kF2
  have GF3 := PySem.W.mg_of X G aF3
  have HF3 := fun_mk (st := sPen) lF3 cF3 kF3
  have GF4 := PySem.W.mg_of X G aF4
  have HF4 := fun_mk (st := sDraw) lF4 cF4 kF4
  have GF5 := PySem.W.mg_of X G aF5
  have HF5 := fun_mk (st := sPick) lF5 cF5 kF5
  have GF6 := PySem.W.mg_of X G aF6
  have HF6 := fun_mk (st := sWord) lF6 cF6 kF6
  have GF7 := PySem.W.mg_of X G aF7
  have HF7 := fun_mk (st := sLTie) lF7 cF7 kF7
  have GF8 := PySem.W.mg_of X G aF8
  have HF8 := fun_mk (st := sMade) lF8 cF8 kF8
  have GF9 := PySem.W.mg_of X G aF9
  have HF9 := fun_mk (st := sKinds) lF9 cF9 kF9
  have GF10 := PySem.W.mg_of X G aF10
  have HF10 := fun_mk (st := sHeard) lF10 cF10 kF10
  have GF11 := PySem.W.mg_of X G aF11
  have HF11 := fun_mk (st := sIsName) lF11 cF11 kF11
  have GF12 := PySem.W.mg_of X G aF12
  have HF12 := fun_mk (st := sIsNum) lF12 cF12 kF12
  have GF13 := PySem.W.mg_of X G aF13
  have HF13 := fun_mk (st := sDue) lF13 cF13 kF13
  have GF14 := PySem.W.mg_of X G aF14
  have HF14 := fun_mk (st := sBent) lF14 cF14 kF14
  have GF15 := PySem.W.mg_of X G aF15
  have HF15 := fun_mk (st := sTakeT) lF15 cF15 kF15
  have GF16 := PySem.W.mg_of X G aF16
  have HF16 := fun_mk (st := sWdsOf) lF16 cF16 kF16
  have GF17 := PySem.W.mg_of X G aF17
  have HF17 := fun_mk (st := sWrit) lF17 cF17 kF17
  have GF18 := PySem.W.mg_of X G aF18
  have HF18 := fun_mk (st := sLaw) lF18 cF18 kF18
  have HJBN := fun_mk (st := sBNI) lJBN cJBN kJBN
  have HJBU := fun_mk (st := sBUI) lJBU cJBU kJBU
  have HJBT := fun_mk (st := sBTI) lJBT cJBT kJBT
  have HTI := fun_mk (st := sTieI) lTI cTI kTI
  have HNI := fun_mk (st := sNumI) lNI cNI kNI
  have HRD := fun_mk (st := sTieR) lRD cRD kRD
  have HW0 := fun_mk (st := sWdsI) lW0 cW0 kW0
  have HW1 := fun_mk (st := sOver) lW1 cW1 kW1
  have HW2 := fun_mk (st := sAhd) lW2 cW2 kW2
  have HW3 := fun_mk (st := sOneOf) lW3 cW3 kW3
  have HW4 := fun_mk (st := sTake) lW4 cW4 kW4
  have HW5 := fun_mk (st := sTakeN) lW5 cW5 kW5
  have HW6 := fun_mk (st := sTakeE) lW6 cW6 kW6
  have HBkI := fun_mk (st := sBkI) lBkI cBkI kBkI
  have HBkE := fun_mk (st := sBkE) lBkE cBkE kBkE
  have HBkT := fun_mk (st := sBkT) lBkT cBkT kBkT
  have HAhI := fun_mk (st := sAhI) lAhI cAhI kAhI
  have HAhE := fun_mk (st := sAhE) lAhE cAhE kAhE
  have HAhT := fun_mk (st := sAhT) lAhT cAhT kAhT
  have HSoI := fun_mk (st := sSoI) lSoI cSoI kSoI
  have HSoE := fun_mk (st := sSoE) lSoE cSoE kSoE
  have HSoT := fun_mk (st := sSoT) lSoT cSoT kSoT
  have HWhI := fun_mk (st := sWhI) lWhI cWhI kWhI
  have HWhE := fun_mk (st := sWhE) lWhE cWhE kWhE
  have HWhT := fun_mk (st := sWhT) lWhT cWhT kWhT
  have HLaI := fun_mk (st := sLaI) lLaI cLaI kLaI
  have HLaE := fun_mk (st := sLaE) lLaE cLaE kLaE
  have HLaT := fun_mk (st := sLaT) lLaT cLaT kLaT
  have HSmI := fun_mk (st := sSmI) lSmI cSmI kSmI
  have HSmE := fun_mk (st := sSmE) lSmE cSmE kSmE
  have HSmT := fun_mk (st := sSmT) lSmT cSmT kSmT
  have bF0 := HF0.binds (ps := ["value"]) fun _ _ _ _ _ _ us hl => match us, hl with | [_], _ => rfl
  have bF1 := HF1.binds (ps := ["value", "low", "high"]) fun _ _ _ _ _ _ us hl => match us, hl with | [_, _, _], _ => rfl
  have bF2 := HF2.binds (ps := ["value"]) fun _ _ _ _ _ _ us hl => match us, hl with | [_], _ => rfl
  have bF3 := HF3.binds (ps := ["_law_script"]) fun _ _ _ _ _ _ us hl => match us, hl with | [_], _ => rfl
  have bF4 := HF4.binds (ps := ["_law_pen_here", "_law_many"]) fun _ _ _ _ _ _ us hl => match us, hl with | [_, _], _ => rfl
  have bF5 := HF5.binds (ps := ["_law_pen_here", "_law_some"]) fun _ _ _ _ _ _ us hl => match us, hl with | [_, _], _ => rfl
  have bF6 := HF6.binds (ps := ["_law_pen_here"]) fun _ _ _ _ _ _ us hl => match us, hl with | [_], _ => rfl
  have bF7 := HF7.binds (ps := ["_law_pen_here", "_law_names_here"]) fun _ _ _ _ _ _ us hl => match us, hl with | [_, _], _ => rfl
  have bF8 := HF8.binds (ps := ["_law_told"]) fun _ _ _ _ _ _ us hl => match us, hl with | [_], _ => rfl
  have bF9 := HF9.binds (ps := ["_law_tie_here"]) fun _ _ _ _ _ _ us hl => match us, hl with | [_], _ => rfl
  have bF10 := HF10.binds (ps := ["_law_ask"]) fun _ _ _ _ _ _ us hl => match us, hl with | [_], _ => rfl
  have bF11 := HF11.binds (ps := ["_law_words", "_law_at"]) fun _ _ _ _ _ _ us hl => match us, hl with | [_, _], _ => rfl
  have bF12 := HF12.binds (ps := ["_law_words", "_law_at", "_law_least", "_law_most"]) fun _ _ _ _ _ _ us hl => match us, hl with | [_, _, _, _], _ => rfl
  have bF13 := HF13.binds (ps := ["_law_line"]) fun _ _ _ _ _ _ us hl => match us, hl with | [_], _ => rfl
  have bF14 := HF14.binds (ps := ["_law_pen_here", "_law_words"]) fun _ _ _ _ _ _ us hl => match us, hl with | [_, _], _ => rfl
  have bF15 := HF15.binds (ps := ["words"]) fun _ _ _ _ _ _ us hl => match us, hl with | [_], _ => rfl
  have bF16 := HF16.binds (ps := ["text"]) fun _ _ _ _ _ _ us hl => match us, hl with | [_], _ => rfl
  have bF17 := HF17.binds (ps := ["word"]) fun _ _ _ _ _ _ us hl => match us, hl with | [_], _ => rfl
  have bJBN := HJBN.binds (ps := ["self", "value"]) fun _ _ _ _ _ _ us hl => match us, hl with | [_, _], _ => rfl
  have bJBU := HJBU.binds (ps := ["self", "value"]) fun _ _ _ _ _ _ us hl => match us, hl with | [_, _], _ => rfl
  have bJBT := HJBT.binds (ps := ["self", "line", "word"]) fun _ _ _ _ _ _ us hl => match us, hl with | [_, _, _], _ => rfl
  have bRD := HRD.binds (ps := ["cls", "text"]) fun _ _ _ _ _ _ us hl => match us, hl with | [_, _], _ => rfl
  have bW0 := HW0.binds (ps := ["self", "text", "row"]) fun _ _ _ _ _ _ us hl => match us, hl with | [_, _, _], _ => rfl
  have bW1 := HW1.binds (ps := ["self"]) fun _ _ _ _ _ _ us hl => match us, hl with | [_], _ => rfl
  have bW2 := HW2.binds (ps := ["self", "word"]) fun _ _ _ _ _ _ us hl => match us, hl with | [_, _], _ => rfl
  have bW3 := HW3.binds (ps := ["self", "choices"]) fun _ _ _ _ _ _ us hl => match us, hl with | [_, _], _ => rfl
  have bW4 := HW4.binds (ps := ["self", "low", "high"]) fun _ _ _ _ _ _ us hl => match us, hl with | [_, _, _], _ => rfl
  have bW5 := HW5.binds (ps := ["self"]) fun _ _ _ _ _ _ us hl => match us, hl with | [_], _ => rfl
  have bW6 := HW6.binds (ps := ["self"]) fun _ _ _ _ _ _ us hl => match us, hl with | [_], _ => rfl
  have bTI := HTI.binds (ps := ["self", "source"]) fun _ _ _ _ _ _ us hl => match us, hl with | [_, _], _ => rfl
  have bNI := HNI.binds (ps := ["self", "number", "least"]) fun _ _ _ _ _ _ us hl => match us, hl with | [_, _, _], _ => rfl
  have bBkI := HBkI.binds (ps := ["self", "source", "number"]) fun _ _ _ _ _ _ us hl => match us, hl with | [_, _, _], _ => rfl
  have bBkE := HBkE.binds (ps := ["self", "other"]) fun _ _ _ _ _ _ us hl => match us, hl with | [_, _], _ => rfl
  have bBkT := HBkT.binds (ps := ["self"]) fun _ _ _ _ _ _ us hl => match us, hl with | [_], _ => rfl
  have bAhI := HAhI.binds (ps := ["self", "source", "number"]) fun _ _ _ _ _ _ us hl => match us, hl with | [_, _, _], _ => rfl
  have bAhE := HAhE.binds (ps := ["self", "other"]) fun _ _ _ _ _ _ us hl => match us, hl with | [_, _], _ => rfl
  have bAhT := HAhT.binds (ps := ["self"]) fun _ _ _ _ _ _ us hl => match us, hl with | [_], _ => rfl
  have bSoI := HSoI.binds (ps := ["self", "source"]) fun _ _ _ _ _ _ us hl => match us, hl with | [_, _], _ => rfl
  have bSoE := HSoE.binds (ps := ["self", "other"]) fun _ _ _ _ _ _ us hl => match us, hl with | [_, _], _ => rfl
  have bSoT := HSoT.binds (ps := ["self"]) fun _ _ _ _ _ _ us hl => match us, hl with | [_], _ => rfl
  have bWhI := HWhI.binds (ps := ["self", "source"]) fun _ _ _ _ _ _ us hl => match us, hl with | [_, _], _ => rfl
  have bWhE := HWhE.binds (ps := ["self", "other"]) fun _ _ _ _ _ _ us hl => match us, hl with | [_, _], _ => rfl
  have bWhT := HWhT.binds (ps := ["self"]) fun _ _ _ _ _ _ us hl => match us, hl with | [_], _ => rfl
  have bLaI := HLaI.binds (ps := ["self", "source"]) fun _ _ _ _ _ _ us hl => match us, hl with | [_, _], _ => rfl
  have bLaE := HLaE.binds (ps := ["self", "other"]) fun _ _ _ _ _ _ us hl => match us, hl with | [_, _], _ => rfl
  have bLaT := HLaT.binds (ps := ["self"]) fun _ _ _ _ _ _ us hl => match us, hl with | [_], _ => rfl
  have bSmI := HSmI.binds (ps := ["self", "source"]) fun _ _ _ _ _ _ us hl => match us, hl with | [_, _], _ => rfl
  have bSmE := HSmE.binds (ps := ["self", "other"]) fun _ _ _ _ _ _ us hl => match us, hl with | [_, _], _ => rfl
  have bSmT := HSmT.binds (ps := ["self"]) fun _ _ _ _ _ _ us hl => match us, hl with | [_], _ => rfl
  have T : Txt K mg 0 fF0 fF1 0 0 := ⟨GF0, GF1, PySem.W.mg_none_of X G z_isinstance, PySem.W.mg_none_of X G z_int, PySem.W.mg_none_of X G z_bool, PySem.W.mg_none_of X G z_str, PySem.W.mg_none_of X G z_max, PySem.W.mg_none_of X G z_repr, PySem.W.mg_none_of X G z_len, PySem.W.mg_none_of X G z_list, PySem.W.mg_none_of X G z_range, PySem.W.mg_none_of X G z_abs⟩
  have Z0BN : ErC K mg "BadName" "value" cBN fJBN := ⟨⟨⟨_, _, _, _, _, _, _, _, _, _, _, _, _, _, _, xBN, rfl⟩, saBN, exBN, tyBN, kcBN⟩, aJBN, tiBN, PySem.W.mg_of X G nBN, no0BN, ⟨ggBN, gtBN, exBN, hdBN⟩, ⟨ggBN, gtBN, exBN, hdBN, ccBN, clsG, clsT, moBN⟩⟩
  have Z0BU : ErC K mg "BadNumber" "value" cBU fJBU := ⟨⟨⟨_, _, _, _, _, _, _, _, _, _, _, _, _, _, _, xBU, rfl⟩, saBU, exBU, tyBU, kcBU⟩, aJBU, tiBU, PySem.W.mg_of X G nBU, no0BU, ⟨ggBU, gtBU, exBU, hdBU⟩, ⟨ggBU, gtBU, exBU, hdBU, ccBU, clsG, clsT, moBU⟩⟩
  have Z0BT : ErC K mg "BadText" "line" cBT fJBT := ⟨⟨⟨_, _, _, _, _, _, _, _, _, _, _, _, _, _, _, xBT, rfl⟩, saBT, exBT, tyBT, kcBT⟩, aJBT, tiBT, PySem.W.mg_of X G nBT, no0BT, ⟨ggBT, gtBT, exBT, hdBT⟩, ⟨ggBT, gtBT, exBT, hdBT, ccBT, clsG, clsT, moBT⟩⟩
  have Z1BT : ErC K mg "BadText" "word" cBT fJBT := ⟨⟨⟨_, _, _, _, _, _, _, _, _, _, _, _, _, _, _, xBT, rfl⟩, saBT, exBT, tyBT, kcBT⟩, aJBT, tiBT, PySem.W.mg_of X G nBT, no1BT, ⟨ggBT, gtBT, exBT, hdBT⟩, ⟨ggBT, gtBT, exBT, hdBT, ccBT, clsG, clsT, moBT⟩⟩
  have ZBN := Z0BN
  have ZBU := Z0BU
  have HT : HeardT K mg cBT fJBT := ⟨Z0BT, Z1BT, PySem.W.exm_ref exBT hdBT tyBT sBB⟩
  obtain ⟨tabR, codR⟩ := OT fa cR Pt _ _ eR dR vR sR GF18 lF18 rfl rfl lR pR
  refine ⟨PySem.W.fnOf "law" "law" (defArgs sLaw) (defBody sLaw) (defScope sLaw) .none kVF18 dcF18 pmF18 anF18 (.ref cR) ctF18, cR, Pt, fun s v => .of_eq rfl, ⟨tabR, nR, codR⟩, fun base _ _ TB => ?_⟩
  let GG : Kd → Addr := fun k => match k with
    | .bk => gBk
    | .ah => gAh
    | .so => gSo
    | .wh => gWh
    | .la => gLa
    | .sm => gSm
  let fI : Kd → Addr := fun k => match k with
    | .bk => fBkI
    | .ah => fAhI
    | .so => fSoI
    | .wh => fWhI
    | .la => fLaI
    | .sm => fSmI
  let fE : Kd → Addr := fun k => match k with
    | .bk => fBkE
    | .ah => fAhE
    | .so => fSoE
    | .wh => fWhE
    | .la => fLaE
    | .sm => fSmE
  let fT : Kd → Addr := fun k => match k with
    | .bk => fBkT
    | .ah => fAhT
    | .so => fSoT
    | .wh => fWhT
    | .la => fLaT
    | .sm => fSmT
  let dI : Kd → FuncData := fun k => match k with
    | .bk => PySem.W.fnOf "__init__" "Back.__init__" (defArgs sBkI) (defBody sBkI) (defScope sBkI) .none kVBkI dcBkI pmBkI anBkI cdBkI ctBkI
    | .ah => PySem.W.fnOf "__init__" "Ahead.__init__" (defArgs sAhI) (defBody sAhI) (defScope sAhI) .none kVAhI dcAhI pmAhI anAhI cdAhI ctAhI
    | .so => PySem.W.fnOf "__init__" "Sofar.__init__" (defArgs sSoI) (defBody sSoI) (defScope sSoI) .none kVSoI dcSoI pmSoI anSoI cdSoI ctSoI
    | .wh => PySem.W.fnOf "__init__" "Whole.__init__" (defArgs sWhI) (defBody sWhI) (defScope sWhI) .none kVWhI dcWhI pmWhI anWhI cdWhI ctWhI
    | .la => PySem.W.fnOf "__init__" "Last.__init__" (defArgs sLaI) (defBody sLaI) (defScope sLaI) .none kVLaI dcLaI pmLaI anLaI cdLaI ctLaI
    | .sm => PySem.W.fnOf "__init__" "Same.__init__" (defArgs sSmI) (defBody sSmI) (defScope sSmI) .none kVSmI dcSmI pmSmI anSmI cdSmI ctSmI
  let dE : Kd → FuncData := fun k => match k with
    | .bk => PySem.W.fnOf "__eq__" "Back.__eq__" (defArgs sBkE) (defBody sBkE) (defScope sBkE) .none kVBkE dcBkE pmBkE anBkE cdBkE ctBkE
    | .ah => PySem.W.fnOf "__eq__" "Ahead.__eq__" (defArgs sAhE) (defBody sAhE) (defScope sAhE) .none kVAhE dcAhE pmAhE anAhE cdAhE ctAhE
    | .so => PySem.W.fnOf "__eq__" "Sofar.__eq__" (defArgs sSoE) (defBody sSoE) (defScope sSoE) .none kVSoE dcSoE pmSoE anSoE cdSoE ctSoE
    | .wh => PySem.W.fnOf "__eq__" "Whole.__eq__" (defArgs sWhE) (defBody sWhE) (defScope sWhE) .none kVWhE dcWhE pmWhE anWhE cdWhE ctWhE
    | .la => PySem.W.fnOf "__eq__" "Last.__eq__" (defArgs sLaE) (defBody sLaE) (defScope sLaE) .none kVLaE dcLaE pmLaE anLaE cdLaE ctLaE
    | .sm => PySem.W.fnOf "__eq__" "Same.__eq__" (defArgs sSmE) (defBody sSmE) (defScope sSmE) .none kVSmE dcSmE pmSmE anSmE cdSmE ctSmE
  let dT : Kd → FuncData := fun k => match k with
    | .bk => PySem.W.fnOf "__str__" "Back.__str__" (defArgs sBkT) (defBody sBkT) (defScope sBkT) .none kVBkT dcBkT pmBkT anBkT cdBkT ctBkT
    | .ah => PySem.W.fnOf "__str__" "Ahead.__str__" (defArgs sAhT) (defBody sAhT) (defScope sAhT) .none kVAhT dcAhT pmAhT anAhT cdAhT ctAhT
    | .so => PySem.W.fnOf "__str__" "Sofar.__str__" (defArgs sSoT) (defBody sSoT) (defScope sSoT) .none kVSoT dcSoT pmSoT anSoT cdSoT ctSoT
    | .wh => PySem.W.fnOf "__str__" "Whole.__str__" (defArgs sWhT) (defBody sWhT) (defScope sWhT) .none kVWhT dcWhT pmWhT anWhT cdWhT ctWhT
    | .la => PySem.W.fnOf "__str__" "Last.__str__" (defArgs sLaT) (defBody sLaT) (defScope sLaT) .none kVLaT dcLaT pmLaT anLaT cdLaT ctLaT
    | .sm => PySem.W.fnOf "__str__" "Same.__str__" (defArgs sSmT) (defBody sSmT) (defScope sSmT) .none kVSmT dcSmT pmSmT anSmT cdSmT ctSmT
  have yc : ∀ k, Cls K (GG k) := fun k => match k with
    | .bk => ⟨pgBk, hdBk, poBk, saBk⟩
    | .ah => ⟨pgAh, hdAh, poAh, saAh⟩
    | .so => ⟨pgSo, hdSo, poSo, saSo⟩
    | .wh => ⟨pgWh, hdWh, poWh, saWh⟩
    | .la => ⟨pgLa, hdLa, poLa, saLa⟩
    | .sm => ⟨pgSm, hdSm, poSm, saSm⟩
  have yS : ∀ k, NoAttr K (GG k) "source" := fun k => match k with
    | .bk => nSBk
    | .ah => nSAh
    | .so => nSSo
    | .wh => nSWh
    | .la => nSLa
    | .sm => nSSm
  have yN : ∀ k, NoAttr K (GG k) "number" := fun k => match k with
    | .bk => nNBk
    | .ah => nNAh
    | .so => nNSo
    | .wh => nNWh
    | .la => nNLa
    | .sm => nNSm
  have Y : Ty K mg GG cT cN fTI fNI fF2 := ⟨yc, yS, yN, PySem.W.mg_of X G acT, PySem.W.mg_of X G acN, PySem.W.mg_of X G nBk, PySem.W.mg_of X G nAh, PySem.W.mg_of X G nSo, PySem.W.mg_of X G nWh, PySem.W.mg_of X G nLa, PySem.W.mg_of X G nSm, GF2, ⟨_, PySem.W.mg_of X G mn⟩, ⟨rdcT, gacT⟩, ⟨rdcN, gacN⟩, ⟨atcT, kTI⟩, ⟨atcN, kNI⟩⟩
  have is : ∀ k, C8.InsC K (GG k) := fun k => match k with
    | .bk => ⟨yc .bk, ccBk, clsG, clsT, moBk, kit_self⟩
    | .ah => ⟨yc .ah, ccAh, clsG, clsT, moAh, kit_self⟩
    | .so => ⟨yc .so, ccSo, clsG, clsT, moSo, kit_self⟩
    | .wh => ⟨yc .wh, ccWh, clsG, clsT, moWh, kit_self⟩
    | .la => ⟨yc .la, ccLa, clsG, clsT, moLa, kit_self⟩
    | .sm => ⟨yc .sm, ccSm, clsG, clsT, moSm, kit_self⟩
  have kk : ∀ k j, PySem.W.kitOne K (.ref (GG k)) (.ref (GG j)) = some (kEq k j) := fun k j => match k, j with
    | .bk, .bk => kit_ref hdBk tyBk sBkBk sBkBk
    | .bk, .ah => kit_ref hdAh tyAh sBkAh sBkBk
    | .bk, .so => kit_ref hdSo tySo sBkSo sBkBk
    | .bk, .wh => kit_ref hdWh tyWh sBkWh sBkBk
    | .bk, .la => kit_ref hdLa tyLa sBkLa sBkBk
    | .bk, .sm => kit_ref hdSm tySm sBkSm sBkBk
    | .ah, .bk => kit_ref hdBk tyBk sAhBk sAhAh
    | .ah, .ah => kit_ref hdAh tyAh sAhAh sAhAh
    | .ah, .so => kit_ref hdSo tySo sAhSo sAhAh
    | .ah, .wh => kit_ref hdWh tyWh sAhWh sAhAh
    | .ah, .la => kit_ref hdLa tyLa sAhLa sAhAh
    | .ah, .sm => kit_ref hdSm tySm sAhSm sAhAh
    | .so, .bk => kit_ref hdBk tyBk sSoBk sSoSo
    | .so, .ah => kit_ref hdAh tyAh sSoAh sSoSo
    | .so, .so => kit_ref hdSo tySo sSoSo sSoSo
    | .so, .wh => kit_ref hdWh tyWh sSoWh sSoSo
    | .so, .la => kit_ref hdLa tyLa sSoLa sSoSo
    | .so, .sm => kit_ref hdSm tySm sSoSm sSoSo
    | .wh, .bk => kit_ref hdBk tyBk sWhBk sWhWh
    | .wh, .ah => kit_ref hdAh tyAh sWhAh sWhWh
    | .wh, .so => kit_ref hdSo tySo sWhSo sWhWh
    | .wh, .wh => kit_ref hdWh tyWh sWhWh sWhWh
    | .wh, .la => kit_ref hdLa tyLa sWhLa sWhWh
    | .wh, .sm => kit_ref hdSm tySm sWhSm sWhWh
    | .la, .bk => kit_ref hdBk tyBk sLaBk sLaLa
    | .la, .ah => kit_ref hdAh tyAh sLaAh sLaLa
    | .la, .so => kit_ref hdSo tySo sLaSo sLaLa
    | .la, .wh => kit_ref hdWh tyWh sLaWh sLaLa
    | .la, .la => kit_ref hdLa tyLa sLaLa sLaLa
    | .la, .sm => kit_ref hdSm tySm sLaSm sLaLa
    | .sm, .bk => kit_ref hdBk tyBk sSmBk sSmSm
    | .sm, .ah => kit_ref hdAh tyAh sSmAh sSmSm
    | .sm, .so => kit_ref hdSo tySo sSmSo sSmSm
    | .sm, .wh => kit_ref hdWh tyWh sSmWh sSmSm
    | .sm, .la => kit_ref hdLa tyLa sSmLa sSmSm
    | .sm, .sm => kit_ref hdSm tySm sSmSm sSmSm
  have su : ∀ k j, kEq k j = false → PySem.W.subIn K (.ref (GG k)) (.ref (GG j)) = some false := fun k j e => match k, j, e with
    | .bk, .bk, e => nomatch e
    | .bk, .ah, e => sBkAh
    | .bk, .so, e => sBkSo
    | .bk, .wh, e => sBkWh
    | .bk, .la, e => sBkLa
    | .bk, .sm, e => sBkSm
    | .ah, .bk, e => sAhBk
    | .ah, .ah, e => nomatch e
    | .ah, .so, e => sAhSo
    | .ah, .wh, e => sAhWh
    | .ah, .la, e => sAhLa
    | .ah, .sm, e => sAhSm
    | .so, .bk, e => sSoBk
    | .so, .ah, e => sSoAh
    | .so, .so, e => nomatch e
    | .so, .wh, e => sSoWh
    | .so, .la, e => sSoLa
    | .so, .sm, e => sSoSm
    | .wh, .bk, e => sWhBk
    | .wh, .ah, e => sWhAh
    | .wh, .so, e => sWhSo
    | .wh, .wh, e => nomatch e
    | .wh, .la, e => sWhLa
    | .wh, .sm, e => sWhSm
    | .la, .bk, e => sLaBk
    | .la, .ah, e => sLaAh
    | .la, .so, e => sLaSo
    | .la, .wh, e => sLaWh
    | .la, .la, e => nomatch e
    | .la, .sm, e => sLaSm
    | .sm, .bk, e => sSmBk
    | .sm, .ah, e => sSmAh
    | .sm, .so, e => sSmSo
    | .sm, .wh, e => sSmWh
    | .sm, .la, e => sSmLa
    | .sm, .sm, e => nomatch e
  have kT : ∀ k, PySem.W.kitOne K (.ref (GG k)) (.ref cT) = some true := fun k => match k with
    | .bk => kit_ref hdcT tycT sTBk sBkBk
    | .ah => kit_ref hdcT tycT sTAh sAhAh
    | .so => kit_ref hdcT tycT sTSo sSoSo
    | .wh => kit_ref hdcT tycT sTWh sWhWh
    | .la => kit_ref hdcT tycT sTLa sLaLa
    | .sm => kit_ref hdcT tycT sTSm sSmSm
  have kN : ∀ k, PySem.W.kitOne K (.ref (GG k)) (.ref cN) = some (isNum k) := fun k => match k with
    | .bk => kit_ref hdcN tycN sNBk sBkBk
    | .ah => kit_ref hdcN tycN sNAh sAhAh
    | .so => kit_ref hdcN tycN sNSo sSoSo
    | .wh => kit_ref hdcN tycN sNWh sWhWh
    | .la => kit_ref hdcN tycN sNLa sLaLa
    | .sm => kit_ref hdcN tycN sNSm sSmSm
  have kB : ∀ k, PySem.W.kitOne K (.type "NoneType") (.ref (GG k)) = some false ∧ PySem.W.kitOne K (.type "str") (.ref (GG k)) = some false ∧ PySem.W.kitOne K (.type "tuple") (.ref (GG k)) = some false ∧ PySem.W.kitOne K (.type "int") (.ref (GG k)) = some false := fun k => match k with
    | .bk => ⟨kit_tyR hdBk tyBk sb0Bk, kit_tyR hdBk tyBk sb1Bk, kit_tyR hdBk tyBk sb2Bk, kit_tyR hdBk tyBk sb3Bk⟩
    | .ah => ⟨kit_tyR hdAh tyAh sb0Ah, kit_tyR hdAh tyAh sb1Ah, kit_tyR hdAh tyAh sb2Ah, kit_tyR hdAh tyAh sb3Ah⟩
    | .so => ⟨kit_tyR hdSo tySo sb0So, kit_tyR hdSo tySo sb1So, kit_tyR hdSo tySo sb2So, kit_tyR hdSo tySo sb3So⟩
    | .wh => ⟨kit_tyR hdWh tyWh sb0Wh, kit_tyR hdWh tyWh sb1Wh, kit_tyR hdWh tyWh sb2Wh, kit_tyR hdWh tyWh sb3Wh⟩
    | .la => ⟨kit_tyR hdLa tyLa sb0La, kit_tyR hdLa tyLa sb1La, kit_tyR hdLa tyLa sb2La, kit_tyR hdLa tyLa sb3La⟩
    | .sm => ⟨kit_tyR hdSm tySm sb0Sm, kit_tyR hdSm tySm sb1Sm, kit_tyR hdSm tySm sb2Sm, kit_tyR hdSm tySm sb3Sm⟩
  have sB : ∀ k, PySem.W.subIn K (.type "NoneType") (.ref (GG k)) = some false ∧ PySem.W.subIn K (.type "str") (.ref (GG k)) = some false ∧ PySem.W.subIn K (.type "tuple") (.ref (GG k)) = some false ∧ PySem.W.subIn K (.type "int") (.ref (GG k)) = some false := fun k => match k with
    | .bk => ⟨sb0Bk, sb1Bk, sb2Bk, sb3Bk⟩
    | .ah => ⟨sb0Ah, sb1Ah, sb2Ah, sb3Ah⟩
    | .so => ⟨sb0So, sb1So, sb2So, sb3So⟩
    | .wh => ⟨sb0Wh, sb1Wh, sb2Wh, sb3Wh⟩
    | .la => ⟨sb0La, sb1La, sb2La, sb3La⟩
    | .sm => ⟨sb0Sm, sb1Sm, sb2Sm, sb3Sm⟩
  have M : Mx K GG cT cN := ⟨is, kk, kT, kN, kB, su, sB⟩
  have EN : ErM l.prog w K mg base "BadName" "value" cBN fJBN _ := ⟨ZBN, ok_bni HJBN ZBN, bJBN⟩
  have EU : ErM l.prog w K mg base "BadNumber" "value" cBU fJBU _ := ⟨ZBU, ok_bui HJBU ZBU, bJBU⟩
  have J : Inits l.prog w K mg base cBN cBU fTI fNI _ _ := ⟨ok_tieI HTI T Y HF2 bF2 EN, bTI, ok_numI HNI T Y HF0 bF0 HF1 bF1 EU, bNI⟩
  have iF : ∀ k, isNum k = true → FnOk l.prog w K mg base (L2.CX l.prog w) 4 (fI k) (dI k) ["self", "source", "number"] (spInitN GG cBN cBU k) := fun k => match k with
    | .bk => fun q => ok_bkI HBkI Y J
    | .ah => fun q => ok_ahI HAhI Y J
    | .so => fun q => nomatch q
    | .wh => fun q => nomatch q
    | .la => fun q => nomatch q
    | .sm => fun q => nomatch q
  have iB : ∀ k, isNum k = true → Binds K (dI k) ["self", "source", "number"] [] := fun k => match k with
    | .bk => fun q => bBkI
    | .ah => fun q => bAhI
    | .so => fun q => nomatch q
    | .wh => fun q => nomatch q
    | .la => fun q => nomatch q
    | .sm => fun q => nomatch q
  have iK : ∀ k, isNum k = true → KBn K (dI k) ["self", "source", "number"] 1 ["number", "source"] gNS gNS := fun k => match k with
    | .bk => fun q => kb_NS HBkI fun _ _ _ _ _ _ _ _ _ => rfl
    | .ah => fun q => kb_NS HAhI fun _ _ _ _ _ _ _ _ _ => rfl
    | .so => fun q => nomatch q
    | .wh => fun q => nomatch q
    | .la => fun q => nomatch q
    | .sm => fun q => nomatch q
  have pF : ∀ k, isNum k = false → FnOk l.prog w K mg base (L2.CX l.prog w) 4 (fI k) (dI k) ["self", "source"] (spInitP GG cBN k) := fun k => match k with
    | .bk => fun q => nomatch q
    | .ah => fun q => nomatch q
    | .so => fun q => ok_soI HSoI Y J
    | .wh => fun q => ok_whI HWhI Y J
    | .la => fun q => ok_laI HLaI Y J
    | .sm => fun q => ok_smI HSmI Y J
  have pB : ∀ k, isNum k = false → Binds K (dI k) ["self", "source"] [] := fun k => match k with
    | .bk => fun q => nomatch q
    | .ah => fun q => nomatch q
    | .so => fun q => bSoI
    | .wh => fun q => bWhI
    | .la => fun q => bLaI
    | .sm => fun q => bSmI
  have pK : ∀ k, isNum k = false → KBn K (dI k) ["self", "source"] 1 ["source"] My.gSo My.gSo := fun k => match k with
    | .bk => fun q => nomatch q
    | .ah => fun q => nomatch q
    | .so => fun q => kb_So HSoI fun _ _ _ _ _ _ _ _ => rfl
    | .wh => fun q => kb_So HWhI fun _ _ _ _ _ _ _ _ => rfl
    | .la => fun q => kb_So HLaI fun _ _ _ _ _ _ _ _ => rfl
    | .sm => fun q => kb_So HSmI fun _ _ _ _ _ _ _ _ => rfl
  have mM : ∀ k, Mk K (GG k) (fI k) := fun k => match k with
    | .bk => ⟨mkBk, aBkI, iBkI, kcBk⟩
    | .ah => ⟨mkAh, aAhI, iAhI, kcAh⟩
    | .so => ⟨mkSo, aSoI, iSoI, kcSo⟩
    | .wh => ⟨mkWh, aWhI, iWhI, kcWh⟩
    | .la => ⟨mkLa, aLaI, iLaI, kcLa⟩
    | .sm => ⟨mkSm, aSmI, iSmI, kcSm⟩
  have MK : MkT l.prog w K mg base GG cBN cBU fI dI := ⟨iF, iB, iK, pF, pB, pK, mM⟩
  have tF : ∀ k, FnOk l.prog w K mg base CX0 1 (fT k) (dT k) ["self"] (spStr GG k) := fun k => match k with
    | .bk => ok_BkT HBkT Y
    | .ah => ok_AhT HAhT Y
    | .so => ok_SoT HSoT Y
    | .wh => ok_WhT HWhT Y
    | .la => ok_LaT HLaT Y
    | .sm => ok_SmT HSmT Y
  have tB : ∀ k, Binds K (dT k) ["self"] [] := fun k => match k with
    | .bk => bBkT
    | .ah => bAhT
    | .so => bSoT
    | .wh => bWhT
    | .la => bLaT
    | .sm => bSmT
  have tA : ∀ k, PySem.W.findIn K (.ref (GG k)) "__str__" = some (some (.ref (fT k))) := fun k => match k with
    | .bk => aBkT
    | .ah => aAhT
    | .so => aSoT
    | .wh => aWhT
    | .la => aLaT
    | .sm => aSmT
  have tI : ∀ k, PySem.W.isFn K (.ref (fT k)) = true := fun k => match k with
    | .bk => iBkT
    | .ah => iAhT
    | .so => iSoT
    | .wh => iWhT
    | .la => iLaT
    | .sm => iSmT
  have ST : StrT l.prog w K mg base GG fT dT := ⟨tF, tB, tA, tI⟩
  have eF : ∀ k, FnOk l.prog w K mg base CX0 1 (fE k) (dE k) ["self", "other"] (spEq K GG k) := fun k => match k with
    | .bk => ok_BkE HBkE T Y M
    | .ah => ok_AhE HAhE T Y M
    | .so => ok_SoE HSoE T Y M
    | .wh => ok_WhE HWhE T Y M
    | .la => ok_LaE HLaE T Y M
    | .sm => ok_SmE HSmE T Y M
  have eB : ∀ k, Binds K (dE k) ["self", "other"] [] := fun k => match k with
    | .bk => bBkE
    | .ah => bAhE
    | .so => bSoE
    | .wh => bWhE
    | .la => bLaE
    | .sm => bSmE
  have eO : ∀ k, EqO K (GG k) (fE k) := fun k => match k with
    | .bk => ⟨aBkE, iBkE⟩
    | .ah => ⟨aAhE, iAhE⟩
    | .so => ⟨aSoE, iSoE⟩
    | .wh => ⟨aWhE, iWhE⟩
    | .la => ⟨aLaE, iLaE⟩
    | .sm => ⟨aSmE, iSmE⟩
  have nE : ∀ k, NeO K (GG k) (fE k) := fun k => match k with
    | .bk => ⟨aBkE, iBkE, neBk, moBk⟩
    | .ah => ⟨aAhE, iAhE, neAh, moAh⟩
    | .so => ⟨aSoE, iSoE, neSo, moSo⟩
    | .wh => ⟨aWhE, iWhE, neWh, moWh⟩
    | .la => ⟨aLaE, iLaE, neLa, moLa⟩
    | .sm => ⟨aSmE, iSmE, neSm, moSm⟩
  have EQ : EqT l.prog w K mg base GG fE dE := ⟨eF, eB, eO, nE⟩
  have DP : Df l.prog w K mg base "_law_pen" 1 fF3 _ ["_law_script"] _ := ⟨ok_pen HF3 T, bF3, HF3.kp, GF3⟩
  have DW : Df l.prog w K mg base "_law_draw" 1 fF4 _ ["_law_pen_here", "_law_many"] _ := ⟨ok_draw HF4 T, bF4, HF4.kp, GF4⟩
  have DI : Df l.prog w K mg base "_law_pick" 2 fF5 _ ["_law_pen_here", "_law_some"] _ := ⟨ok_pick HF5 T DW, bF5, HF5.kp, GF5⟩
  have DWo : Df l.prog w K mg base "_law_word" 3 fF6 _ ["_law_pen_here"] _ := ⟨ok_word HF6 T DW DI, bF6, HF6.kp, GF6⟩
  have DLt : Df l.prog w K mg base "_law_tie" 3 fF7 _ ["_law_pen_here", "_law_names_here"] _ := ⟨ok_ltie HF7 T DW DI, bF7, HF7.kp, GF7⟩
  have DM : Df l.prog w K mg base "_law_made_tie" 6 fF8 _ ["_law_told"] _ := ⟨ok_made HF8 T Y MK, bF8, HF8.kp, GF8⟩
  have DK8 : Df l.prog w K mg base "_law_kinds" 1 fF9 _ ["_law_tie_here"] _ := ⟨ok_kinds HF9 T Y M, bF9, HF9.kp, GF9⟩
  have DB : Df l.prog w K mg base "_law_bent" 4 fF14 _ ["_law_pen_here", "_law_words"] _ := ⟨ok_bent HF14 T DW DI DWo, bF14, HF14.kp, GF14⟩
  have DNm : Df l.prog w K mg base "_law_is_name" 1 fF11 _ ["_law_words", "_law_at"] _ := ⟨ok_isName HF11 T, bF11, HF11.kp, GF11⟩
  have DNu : Df l.prog w K mg base "_law_is_number" 1 fF12 _ ["_law_words", "_law_at", "_law_least", "_law_most"] _ := ⟨ok_isNum HF12 T, bF12, HF12.kp, GF12⟩
  have DU : Df l.prog w K mg base "_law_due" 2 fF13 _ ["_law_line"] _ := ⟨ok_due HF13 T DNm DNu, bF13, HF13.kp, GF13⟩
  have kCS : PySem.W.kitOne K (.ref gLa) (.type "str") = some false := by
    unfold PySem.W.kitOne
    rw [if_neg (fun q => by cases beq_iff_eq.mp q)]
    unfold PySem.W.kitCls
    exact (if_pos (by decide +kernel)).trans sCS
  have TW : TxtW K mg Cw fF17 fW1 fW2 fW3 fW4 fW5 fW6 := ⟨⟨wpg, whd, wpo, wsa⟩, nW, nRw, nA, PySem.W.mg_of X G aCw, GF17, ⟨aW1, iW1, kW1⟩, ⟨aW2, iW2, kW2⟩, ⟨aW3, iW3, kW3⟩, ⟨aW4, iW4, kW4⟩, ⟨aW5, iW5, kW5⟩, ⟨aW6, iW6, kW6⟩⟩
  have ZB : ErM2 l.prog w K mg base "BadText" "line" "word" cBT fJBT _ := ⟨Z0BT, Z1BT, ok_bti HJBT Z0BT Z1BT, bJBT⟩
  have KK : KA K mg kA := ⟨PySem.W.mg_of X G aKA, fun H => .inr ⟨_, _, _, lKA, rfl, rfl, (by show 6 ≤ sizeLine; decide), .cons ⟨_, rfl⟩ (.cons ⟨_, rfl⟩ (.cons ⟨_, rfl⟩ (.cons ⟨_, rfl⟩ (.cons ⟨_, rfl⟩ (.cons ⟨_, rfl⟩ .nil)))))⟩⟩
  have MW : Mk K Cw fW0 := ⟨wmk, aW0, iW0, wkc⟩
  have WI := ok_wdsI (P := l.prog) (w := w) (base := base) HW0 TW
  have WO := ok_wdsOf HF16 T TW MW WI bW0 ZB
  have OV := ok_over (P := l.prog) (w := w) (base := base) HW1 T TW
  have WR := ok_writ (P := l.prog) (w := w) (base := base) HF17 T
  have AH := ok_ahd HW2 TW OV bW1
  have GN := ok_name (P := l.prog) (w := w) (base := base) HF2 T
  have D : WdM l.prog w K mg base Cw cBT fW3 fW4 fW5 fW6 _ _ _ _ := ⟨ok_one HW3 TW AH bW2 ZB, bW3, ok_take HW4 TW OV bW1 WR bF17 HF17.kp ZB, bW4, ok_nm HW5 TW Y OV bW1 GN bF2 HF2.kp ZB, bW5, ok_end HW6 TW OV bW1 ZB, bW6⟩
  have TT := ok_tt HF15 T TW Y MK KK D
  have RT := ok_rt (cT := cT) HRD TW WO bF16 HF16.kp GF16 TT bF15 HF15.kp GF15 D
  have kRT := kb_of HRD fun _ _ _ _ _ _ _ _ => rfl
  exact ok_law HF18 rfl T Y M MK kCS EQ ST TB DP DI DWo DLt DM DK8 DB DU RT bRD kRT ⟨aRD, ⟨_, rRD⟩, nRD⟩ HF10 bF10 GF10 HT
theorem walk {l : PySem.W.OpenLaw} {q : Program} {loose : List Str} {XP : (Str → Option Value) → Heap → Prop} {YP : World → Heap → Prop} {d : DefRec} {K : Params → PySem.W.Frag} (hn : l.most = some 63) (hdf : d.params.defaults = [])
    (hY : ∀ (w : World) (h : Heap), YP w h → (K w.params).In h) (rec : ((recsOf q).any fun e => e.name == ("law" : Str)) = true)
    (F : ∀ (w : World) (mg : Str → Option Value) (fa : Addr) (h : Heap), (K w.params).In h → h.Ns mainGlobals mg → mg d.name = some (.ref fa) → OwnT (K w.params) mg h "law" →
      ∃ (fd : FuncData) (c Pt : Addr), (∀ (s : Shared) (u : Value), BindsTo s fd ⟨[u], []⟩ [("_law_script", u)]) ∧ Maker (K w.params) h c Pt ∧ ∀ base : Heap, (K w.params).In base → base.Ns mainGlobals mg → LamX.TabB base mg c Pt → FnG l.prog w (K w.params) mg base CX0 10 fa fd ["_law_script"] (spLawT (K w.params) Pt)) :
    PySem.W.WalkO q loose XP YP l.row.toRowW d [] (fun f vs => PySem.call f vs) :=
  walkT (n := 63) (k := 10) (x := "_law_script") (y := "law") (sp := fun w Pt => spLawT (K w.params) Pt) hn (by decide) hdf ⟨rfl, by decide, by decide⟩ hY rec F fun w H a Pt ns hl _ hP hS => ⟨a, ns, rfl, hP, hS, hl, fun _ => rfl⟩
end My
open PySem PySem.W PyProof.Rows
set_option maxRecDepth 100000 in
set_option maxHeartbeats 0 in
theorem PySem.Challenge.cw_remadedays_k93_ties_read_and_written_holds : PySem.Challenge.rw_remadedays_k93_ties_read_and_written.Holds := by
  w_on; o_law; k_headL; (case hw => w_witness2)
  k_fill
  refine My.walk (l := PySem.Challenge.rw_remadedays_k93_ties_read_and_written) rfl rfl (fun w h Y => PySem.W.kIn_of Y) ?R ?F
  case R => first | decide +kernel | rfl | kernel_rfl
  case F =>
    intro w mg fa h KX G hmg OT
    refine' My.all_mk KX G hmg OT ?aF0 ?lF0 ?cF0 ?kF0 ?aF1 ?lF1 ?cF1 ?kF1 ?aF2 ?lF2 ?cF2 ?kF2 ?aF3 ?lF3 ?cF3 ?kF3 ?aF4 ?lF4 ?cF4 ?kF4 ?aF5 ?lF5 ?cF5 ?kF5 ?aF6 ?lF6 ?cF6 ?kF6 ?aF7 ?lF7 ?cF7 ?kF7 ?aF8 ?lF8 ?cF8 ?kF8 ?aF9 ?lF9 ?cF9 ?kF9 ?aF10 ?lF10 ?cF10 ?kF10 ?aF11 ?lF11 ?cF11 ?kF11 ?aF12 ?lF12 ?cF12 ?kF12 ?aF13 ?lF13 ?cF13 ?kF13 ?aF14 ?lF14 ?cF14 ?kF14 ?aF15 ?lF15 ?cF15 ?kF15 ?aF16 ?lF16 ?cF16 ?kF16 ?aF17 ?lF17 ?cF17 ?kF17 ?aF18 ?lF18 ?cF18 ?kF18 ?mn ?z_isinstance ?z_int ?z_bool ?z_str ?z_max ?z_repr ?z_len ?z_list ?z_range ?z_abs ?clsG ?clsT ?aDE ?exDE ?hdDE ?tyDE ?nBN ?xBN ?saBN ?exBN ?tyBN ?kcBN ?aJBN ?tiBN ?lJBN ?cJBN ?kJBN ?no0BN ?ggBN ?gtBN ?hdBN ?ccBN ?moBN ?sdBN ?nBU ?xBU ?saBU ?exBU ?tyBU ?kcBU ?aJBU ?tiBU ?lJBU ?cJBU ?kJBU ?no0BU ?ggBU ?gtBU ?hdBU ?ccBU ?moBU ?sdBU ?nBT ?xBT ?saBT ?exBT ?tyBT ?kcBT ?aJBT ?tiBT ?lJBT ?cJBT ?kJBT ?no0BT ?no1BT ?ggBT ?gtBT ?hdBT ?ccBT ?moBT ?sdBT ?acT ?rdcT ?gacT ?atcT ?hdcT ?tycT ?lTI ?cTI ?kTI ?acN ?rdcN ?gacN ?atcN ?hdcN ?tycN ?lNI ?cNI ?kNI ?aRD ?rRD ?nRD ?lRD ?cRD ?kRD ?aKA ?lKA ?aCw ?aW0 ?iW0 ?lW0 ?cW0 ?kW0 ?aW1 ?iW1 ?lW1 ?cW1 ?kW1 ?aW2 ?iW2 ?lW2 ?cW2 ?kW2 ?aW3 ?iW3 ?lW3 ?cW3 ?kW3 ?aW4 ?iW4 ?lW4 ?cW4 ?kW4 ?aW5 ?iW5 ?lW5 ?cW5 ?kW5 ?aW6 ?iW6 ?lW6 ?cW6 ?kW6 ?wpg ?whd ?wpo ?wsa ?wmk ?wkc ?nW ?nRw ?nA ?nBk ?pgBk ?hdBk ?tyBk ?poBk ?saBk ?mkBk ?kcBk ?nSBk ?nNBk ?aBkI ?iBkI ?lBkI ?cBkI ?kBkI ?aBkE ?iBkE ?lBkE ?cBkE ?kBkE ?aBkT ?iBkT ?lBkT ?cBkT ?kBkT ?ccBk ?moBk ?neBk ?sTBk ?sNBk ?sb0Bk ?sb1Bk ?sb2Bk ?sb3Bk ?nAh ?pgAh ?hdAh ?tyAh ?poAh ?saAh ?mkAh ?kcAh ?nSAh ?nNAh ?aAhI ?iAhI ?lAhI ?cAhI ?kAhI ?aAhE ?iAhE ?lAhE ?cAhE ?kAhE ?aAhT ?iAhT ?lAhT ?cAhT ?kAhT ?ccAh ?moAh ?neAh ?sTAh ?sNAh ?sb0Ah ?sb1Ah ?sb2Ah ?sb3Ah ?nSo ?pgSo ?hdSo ?tySo ?poSo ?saSo ?mkSo ?kcSo ?nSSo ?nNSo ?aSoI ?iSoI ?lSoI ?cSoI ?kSoI ?aSoE ?iSoE ?lSoE ?cSoE ?kSoE ?aSoT ?iSoT ?lSoT ?cSoT ?kSoT ?ccSo ?moSo ?neSo ?sTSo ?sNSo ?sb0So ?sb1So ?sb2So ?sb3So ?nWh ?pgWh ?hdWh ?tyWh ?poWh ?saWh ?mkWh ?kcWh ?nSWh ?nNWh ?aWhI ?iWhI ?lWhI ?cWhI ?kWhI ?aWhE ?iWhE ?lWhE ?cWhE ?kWhE ?aWhT ?iWhT ?lWhT ?cWhT ?kWhT ?ccWh ?moWh ?neWh ?sTWh ?sNWh ?sb0Wh ?sb1Wh ?sb2Wh ?sb3Wh ?nLa ?pgLa ?hdLa ?tyLa ?poLa ?saLa ?mkLa ?kcLa ?nSLa ?nNLa ?aLaI ?iLaI ?lLaI ?cLaI ?kLaI ?aLaE ?iLaE ?lLaE ?cLaE ?kLaE ?aLaT ?iLaT ?lLaT ?cLaT ?kLaT ?ccLa ?moLa ?neLa ?sTLa ?sNLa ?sb0La ?sb1La ?sb2La ?sb3La ?nSm ?pgSm ?hdSm ?tySm ?poSm ?saSm ?mkSm ?kcSm ?nSSm ?nNSm ?aSmI ?iSmI ?lSmI ?cSmI ?kSmI ?aSmE ?iSmE ?lSmE ?cSmE ?kSmE ?aSmT ?iSmT ?lSmT ?cSmT ?kSmT ?ccSm ?moSm ?neSm ?sTSm ?sNSm ?sb0Sm ?sb1Sm ?sb2Sm ?sb3Sm ?sBkBk ?sBkAh ?sBkSo ?sBkWh ?sBkLa ?sBkSm ?sAhBk ?sAhAh ?sAhSo ?sAhWh ?sAhLa ?sAhSm ?sSoBk ?sSoAh ?sSoSo ?sSoWh ?sSoLa ?sSoSm ?sWhBk ?sWhAh ?sWhSo ?sWhWh ?sWhLa ?sWhSm ?sLaBk ?sLaAh ?sLaSo ?sLaWh ?sLaLa ?sLaSm ?sSmBk ?sSmAh ?sSmSo ?sSmWh ?sSmLa ?sSmSm ?sBB ?sCS ?eCR ?lR ?pR ?nR
    (case aF0 => as_aux_lemma => k_is)
    (case lF0 => as_aux_lemma => k_is)
    (case cF0 => as_aux_lemma => k_is)
    (case kF0 => as_aux_lemma => k_is)
    (case aF1 => as_aux_lemma => k_is)
    (case lF1 => as_aux_lemma => k_is)
    (case cF1 => as_aux_lemma => k_is)
    (case kF1 => as_aux_lemma => k_is)
    (case aF2 => as_aux_lemma => k_is)
    (case lF2 => as_aux_lemma => k_is)
    (case cF2 => as_aux_lemma => k_is)
    (case kF2 => as_aux_lemma => k_is)
    (case aF3 => as_aux_lemma => k_is)
    (case lF3 => as_aux_lemma => k_is)
    (case cF3 => as_aux_lemma => k_is)
    (case kF3 => as_aux_lemma => k_is)
    (case aF4 => as_aux_lemma => k_is)
    (case lF4 => as_aux_lemma => k_is)
    (case cF4 => as_aux_lemma => k_is)
    (case kF4 => as_aux_lemma => k_is)
    (case aF5 => as_aux_lemma => k_is)
    (case lF5 => as_aux_lemma => k_is)
    (case cF5 => as_aux_lemma => k_is)
    (case kF5 => as_aux_lemma => k_is)
    (case aF6 => as_aux_lemma => k_is)
    (case lF6 => as_aux_lemma => k_is)
    (case cF6 => as_aux_lemma => k_is)
    (case kF6 => as_aux_lemma => k_is)
    (case aF7 => as_aux_lemma => k_is)
    (case lF7 => as_aux_lemma => k_is)
    (case cF7 => as_aux_lemma => k_is)
    (case kF7 => as_aux_lemma => k_is)
    (case aF8 => as_aux_lemma => k_is)
    (case lF8 => as_aux_lemma => k_is)
    (case cF8 => as_aux_lemma => k_is)
    (case kF8 => as_aux_lemma => k_is)
    (case aF9 => as_aux_lemma => k_is)
    (case lF9 => as_aux_lemma => k_is)
    (case cF9 => as_aux_lemma => k_is)
    (case kF9 => as_aux_lemma => k_is)
    (case aF10 => as_aux_lemma => k_is)
    (case lF10 => as_aux_lemma => k_is)
    (case cF10 => as_aux_lemma => k_is)
    (case kF10 => as_aux_lemma => k_is)
    (case aF11 => as_aux_lemma => k_is)
    (case lF11 => as_aux_lemma => k_is)
    (case cF11 => as_aux_lemma => k_is)
    (case kF11 => as_aux_lemma => k_is)
    (case aF12 => as_aux_lemma => k_is)
    (case lF12 => as_aux_lemma => k_is)
    (case cF12 => as_aux_lemma => k_is)
    (case kF12 => as_aux_lemma => k_is)
    (case aF13 => as_aux_lemma => k_is)
    (case lF13 => as_aux_lemma => k_is)
    (case cF13 => as_aux_lemma => k_is)
    (case kF13 => as_aux_lemma => k_is)
    (case aF14 => as_aux_lemma => k_is)
    (case lF14 => as_aux_lemma => k_is)
    (case cF14 => as_aux_lemma => k_is)
    (case kF14 => as_aux_lemma => k_is)
    (case aF15 => as_aux_lemma => k_is)
    (case lF15 => as_aux_lemma => k_is)
    (case cF15 => as_aux_lemma => k_is)
    (case kF15 => as_aux_lemma => k_is)
    (case aF16 => as_aux_lemma => k_is)
    (case lF16 => as_aux_lemma => k_is)
    (case cF16 => as_aux_lemma => k_is)
    (case kF16 => as_aux_lemma => k_is)
    (case aF17 => as_aux_lemma => k_is)
    (case lF17 => as_aux_lemma => k_is)
    (case cF17 => as_aux_lemma => k_is)
    (case kF17 => as_aux_lemma => k_is)
    (case aF18 => as_aux_lemma => k_is)
    (case lF18 => as_aux_lemma => k_is)
    (case cF18 => as_aux_lemma => k_is)
    (case kF18 => as_aux_lemma => k_is)
    (case mn => as_aux_lemma => k_is)
    (case z_isinstance => as_aux_lemma => k_is)
    (case z_int => as_aux_lemma => k_is)
    (case z_bool => as_aux_lemma => k_is)
    (case z_str => as_aux_lemma => k_is)
    (case z_max => as_aux_lemma => k_is)
    (case z_repr => as_aux_lemma => k_is)
    (case z_len => as_aux_lemma => k_is)
    (case z_list => as_aux_lemma => k_is)
    (case z_range => as_aux_lemma => k_is)
    (case z_abs => as_aux_lemma => k_is)
    (case clsG => as_aux_lemma => k_is)
    (case clsT => as_aux_lemma => k_is)
    (case aDE => as_aux_lemma => k_is)
    (case exDE => as_aux_lemma => k_is)
    (case hdDE => as_aux_lemma => k_is)
    (case tyDE => as_aux_lemma => k_is)
    (case nBN => as_aux_lemma => k_is)
    (case xBN => as_aux_lemma => k_is)
    (case saBN => as_aux_lemma => k_is)
    (case exBN => as_aux_lemma => k_is)
    (case tyBN => as_aux_lemma => k_is)
    (case kcBN => as_aux_lemma => k_is)
    (case aJBN => as_aux_lemma => k_is)
    (case tiBN => as_aux_lemma => k_is)
    (case lJBN => as_aux_lemma => k_is)
    (case cJBN => as_aux_lemma => k_is)
    (case kJBN => as_aux_lemma => k_is)
    (case no0BN => as_aux_lemma => k_is)
    (case ggBN => as_aux_lemma => k_is)
    (case gtBN => as_aux_lemma => k_is)
    (case hdBN => as_aux_lemma => k_is)
    (case ccBN => as_aux_lemma => k_is)
    (case moBN => as_aux_lemma => k_is)
    (case sdBN => as_aux_lemma => k_is)
    (case nBU => as_aux_lemma => k_is)
    (case xBU => as_aux_lemma => k_is)
    (case saBU => as_aux_lemma => k_is)
    (case exBU => as_aux_lemma => k_is)
    (case tyBU => as_aux_lemma => k_is)
    (case kcBU => as_aux_lemma => k_is)
    (case aJBU => as_aux_lemma => k_is)
    (case tiBU => as_aux_lemma => k_is)
    (case lJBU => as_aux_lemma => k_is)
    (case cJBU => as_aux_lemma => k_is)
    (case kJBU => as_aux_lemma => k_is)
    (case no0BU => as_aux_lemma => k_is)
    (case ggBU => as_aux_lemma => k_is)
    (case gtBU => as_aux_lemma => k_is)
    (case hdBU => as_aux_lemma => k_is)
    (case ccBU => as_aux_lemma => k_is)
    (case moBU => as_aux_lemma => k_is)
    (case sdBU => as_aux_lemma => k_is)
    (case nBT => as_aux_lemma => k_is)
    (case xBT => as_aux_lemma => k_is)
    (case saBT => as_aux_lemma => k_is)
    (case exBT => as_aux_lemma => k_is)
    (case tyBT => as_aux_lemma => k_is)
    (case kcBT => as_aux_lemma => k_is)
    (case aJBT => as_aux_lemma => k_is)
    (case tiBT => as_aux_lemma => k_is)
    (case lJBT => as_aux_lemma => k_is)
    (case cJBT => as_aux_lemma => k_is)
    (case kJBT => as_aux_lemma => k_is)
    (case no0BT => as_aux_lemma => k_is)
    (case no1BT => as_aux_lemma => k_is)
    (case ggBT => as_aux_lemma => k_is)
    (case gtBT => as_aux_lemma => k_is)
    (case hdBT => as_aux_lemma => k_is)
    (case ccBT => as_aux_lemma => k_is)
    (case moBT => as_aux_lemma => k_is)
    (case sdBT => as_aux_lemma => k_is)
    (case acT => as_aux_lemma => k_is)
    (case rdcT => as_aux_lemma => k_is)
    (case gacT => as_aux_lemma => k_is)
    (case atcT => as_aux_lemma => k_is)
    (case hdcT => as_aux_lemma => k_is)
    (case tycT => as_aux_lemma => k_is)
    (case lTI => as_aux_lemma => k_is)
    (case cTI => as_aux_lemma => k_is)
    (case kTI => as_aux_lemma => k_is)
    (case acN => as_aux_lemma => k_is)
    (case rdcN => as_aux_lemma => k_is)
    (case gacN => as_aux_lemma => k_is)
    (case atcN => as_aux_lemma => k_is)
    (case hdcN => as_aux_lemma => k_is)
    (case tycN => as_aux_lemma => k_is)
    (case lNI => as_aux_lemma => k_is)
    (case cNI => as_aux_lemma => k_is)
    (case kNI => as_aux_lemma => k_is)
    (case aRD => as_aux_lemma => k_is)
    (case rRD => as_aux_lemma => k_is)
    (case nRD => as_aux_lemma => k_is)
    (case lRD => as_aux_lemma => k_is)
    (case cRD => as_aux_lemma => k_is)
    (case kRD => as_aux_lemma => k_is)
    (case aKA => as_aux_lemma => k_is)
    (case lKA => as_aux_lemma => k_is)
    (case aCw => as_aux_lemma => k_is)
    (case aW0 => as_aux_lemma => k_is)
    (case iW0 => as_aux_lemma => k_is)
    (case lW0 => as_aux_lemma => k_is)
    (case cW0 => as_aux_lemma => k_is)
    (case kW0 => as_aux_lemma => k_is)
    (case aW1 => as_aux_lemma => k_is)
    (case iW1 => as_aux_lemma => k_is)
    (case lW1 => as_aux_lemma => k_is)
    (case cW1 => as_aux_lemma => k_is)
    (case kW1 => as_aux_lemma => k_is)
    (case aW2 => as_aux_lemma => k_is)
    (case iW2 => as_aux_lemma => k_is)
    (case lW2 => as_aux_lemma => k_is)
    (case cW2 => as_aux_lemma => k_is)
    (case kW2 => as_aux_lemma => k_is)
    (case aW3 => as_aux_lemma => k_is)
    (case iW3 => as_aux_lemma => k_is)
    (case lW3 => as_aux_lemma => k_is)
    (case cW3 => as_aux_lemma => k_is)
    (case kW3 => as_aux_lemma => k_is)
    (case aW4 => as_aux_lemma => k_is)
    (case iW4 => as_aux_lemma => k_is)
    (case lW4 => as_aux_lemma => k_is)
    (case cW4 => as_aux_lemma => k_is)
    (case kW4 => as_aux_lemma => k_is)
    (case aW5 => as_aux_lemma => k_is)
    (case iW5 => as_aux_lemma => k_is)
    (case lW5 => as_aux_lemma => k_is)
    (case cW5 => as_aux_lemma => k_is)
    (case kW5 => as_aux_lemma => k_is)
    (case aW6 => as_aux_lemma => k_is)
    (case iW6 => as_aux_lemma => k_is)
    (case lW6 => as_aux_lemma => k_is)
    (case cW6 => as_aux_lemma => k_is)
    (case kW6 => as_aux_lemma => k_is)
    (case wpg => as_aux_lemma => k_is)
    (case whd => as_aux_lemma => k_is)
    (case wpo => as_aux_lemma => k_is)
    (case wsa => as_aux_lemma => k_is)
    (case wmk => as_aux_lemma => k_is)
    (case wkc => as_aux_lemma => k_is)
    (case nW => as_aux_lemma => k_is)
    (case nRw => as_aux_lemma => k_is)
    (case nA => as_aux_lemma => k_is)
    (case nBk => as_aux_lemma => k_is)
    (case pgBk => as_aux_lemma => k_is)
    (case hdBk => as_aux_lemma => k_is)
    (case tyBk => as_aux_lemma => k_is)
    (case poBk => as_aux_lemma => k_is)
    (case saBk => as_aux_lemma => k_is)
    (case mkBk => as_aux_lemma => k_is)
    (case kcBk => as_aux_lemma => k_is)
    (case nSBk => as_aux_lemma => k_is)
    (case nNBk => as_aux_lemma => k_is)
    (case aBkI => as_aux_lemma => k_is)
    (case iBkI => as_aux_lemma => k_is)
    (case lBkI => as_aux_lemma => k_is)
    (case cBkI => as_aux_lemma => k_is)
    (case kBkI => as_aux_lemma => k_is)
    (case aBkE => as_aux_lemma => k_is)
    (case iBkE => as_aux_lemma => k_is)
    (case lBkE => as_aux_lemma => k_is)
    (case cBkE => as_aux_lemma => k_is)
    (case kBkE => as_aux_lemma => k_is)
    (case aBkT => as_aux_lemma => k_is)
    (case iBkT => as_aux_lemma => k_is)
    (case lBkT => as_aux_lemma => k_is)
    (case cBkT => as_aux_lemma => k_is)
    (case kBkT => as_aux_lemma => k_is)
    (case ccBk => as_aux_lemma => k_is)
    (case moBk => as_aux_lemma => k_is)
    (case neBk => as_aux_lemma => k_is)
    (case sTBk => as_aux_lemma => k_is)
    (case sNBk => as_aux_lemma => k_is)
    (case sb0Bk => as_aux_lemma => k_is)
    (case sb1Bk => as_aux_lemma => k_is)
    (case sb2Bk => as_aux_lemma => k_is)
    (case sb3Bk => as_aux_lemma => k_is)
    (case nAh => as_aux_lemma => k_is)
    (case pgAh => as_aux_lemma => k_is)
    (case hdAh => as_aux_lemma => k_is)
    (case tyAh => as_aux_lemma => k_is)
    (case poAh => as_aux_lemma => k_is)
    (case saAh => as_aux_lemma => k_is)
    (case mkAh => as_aux_lemma => k_is)
    (case kcAh => as_aux_lemma => k_is)
    (case nSAh => as_aux_lemma => k_is)
    (case nNAh => as_aux_lemma => k_is)
    (case aAhI => as_aux_lemma => k_is)
    (case iAhI => as_aux_lemma => k_is)
    (case lAhI => as_aux_lemma => k_is)
    (case cAhI => as_aux_lemma => k_is)
    (case kAhI => as_aux_lemma => k_is)
    (case aAhE => as_aux_lemma => k_is)
    (case iAhE => as_aux_lemma => k_is)
    (case lAhE => as_aux_lemma => k_is)
    (case cAhE => as_aux_lemma => k_is)
    (case kAhE => as_aux_lemma => k_is)
    (case aAhT => as_aux_lemma => k_is)
    (case iAhT => as_aux_lemma => k_is)
    (case lAhT => as_aux_lemma => k_is)
    (case cAhT => as_aux_lemma => k_is)
    (case kAhT => as_aux_lemma => k_is)
    (case ccAh => as_aux_lemma => k_is)
    (case moAh => as_aux_lemma => k_is)
    (case neAh => as_aux_lemma => k_is)
    (case sTAh => as_aux_lemma => k_is)
    (case sNAh => as_aux_lemma => k_is)
    (case sb0Ah => as_aux_lemma => k_is)
    (case sb1Ah => as_aux_lemma => k_is)
    (case sb2Ah => as_aux_lemma => k_is)
    (case sb3Ah => as_aux_lemma => k_is)
    (case nSo => as_aux_lemma => k_is)
    (case pgSo => as_aux_lemma => k_is)
    (case hdSo => as_aux_lemma => k_is)
    (case tySo => as_aux_lemma => k_is)
    (case poSo => as_aux_lemma => k_is)
    (case saSo => as_aux_lemma => k_is)
    (case mkSo => as_aux_lemma => k_is)
    (case kcSo => as_aux_lemma => k_is)
    (case nSSo => as_aux_lemma => k_is)
    (case nNSo => as_aux_lemma => k_is)
    (case aSoI => as_aux_lemma => k_is)
    (case iSoI => as_aux_lemma => k_is)
    (case lSoI => as_aux_lemma => k_is)
    (case cSoI => as_aux_lemma => k_is)
    (case kSoI => as_aux_lemma => k_is)
    (case aSoE => as_aux_lemma => k_is)
    (case iSoE => as_aux_lemma => k_is)
    (case lSoE => as_aux_lemma => k_is)
    (case cSoE => as_aux_lemma => k_is)
    (case kSoE => as_aux_lemma => k_is)
    (case aSoT => as_aux_lemma => k_is)
    (case iSoT => as_aux_lemma => k_is)
    (case lSoT => as_aux_lemma => k_is)
    (case cSoT => as_aux_lemma => k_is)
    (case kSoT => as_aux_lemma => k_is)
    (case ccSo => as_aux_lemma => k_is)
    (case moSo => as_aux_lemma => k_is)
    (case neSo => as_aux_lemma => k_is)
    (case sTSo => as_aux_lemma => k_is)
    (case sNSo => as_aux_lemma => k_is)
    (case sb0So => as_aux_lemma => k_is)
    (case sb1So => as_aux_lemma => k_is)
    (case sb2So => as_aux_lemma => k_is)
    (case sb3So => as_aux_lemma => k_is)
    (case nWh => as_aux_lemma => k_is)
    (case pgWh => as_aux_lemma => k_is)
    (case hdWh => as_aux_lemma => k_is)
    (case tyWh => as_aux_lemma => k_is)
    (case poWh => as_aux_lemma => k_is)
    (case saWh => as_aux_lemma => k_is)
    (case mkWh => as_aux_lemma => k_is)
    (case kcWh => as_aux_lemma => k_is)
    (case nSWh => as_aux_lemma => k_is)
    (case nNWh => as_aux_lemma => k_is)
    (case aWhI => as_aux_lemma => k_is)
    (case iWhI => as_aux_lemma => k_is)
    (case lWhI => as_aux_lemma => k_is)
    (case cWhI => as_aux_lemma => k_is)
    (case kWhI => as_aux_lemma => k_is)
    (case aWhE => as_aux_lemma => k_is)
    (case iWhE => as_aux_lemma => k_is)
    (case lWhE => as_aux_lemma => k_is)
    (case cWhE => as_aux_lemma => k_is)
    (case kWhE => as_aux_lemma => k_is)
    (case aWhT => as_aux_lemma => k_is)
    (case iWhT => as_aux_lemma => k_is)
    (case lWhT => as_aux_lemma => k_is)
    (case cWhT => as_aux_lemma => k_is)
    (case kWhT => as_aux_lemma => k_is)
    (case ccWh => as_aux_lemma => k_is)
    (case moWh => as_aux_lemma => k_is)
    (case neWh => as_aux_lemma => k_is)
    (case sTWh => as_aux_lemma => k_is)
    (case sNWh => as_aux_lemma => k_is)
    (case sb0Wh => as_aux_lemma => k_is)
    (case sb1Wh => as_aux_lemma => k_is)
    (case sb2Wh => as_aux_lemma => k_is)
    (case sb3Wh => as_aux_lemma => k_is)
    (case nLa => as_aux_lemma => k_is)
    (case pgLa => as_aux_lemma => k_is)
    (case hdLa => as_aux_lemma => k_is)
    (case tyLa => as_aux_lemma => k_is)
    (case poLa => as_aux_lemma => k_is)
    (case saLa => as_aux_lemma => k_is)
    (case mkLa => as_aux_lemma => k_is)
    (case kcLa => as_aux_lemma => k_is)
    (case nSLa => as_aux_lemma => k_is)
    (case nNLa => as_aux_lemma => k_is)
    (case aLaI => as_aux_lemma => k_is)
    (case iLaI => as_aux_lemma => k_is)
    (case lLaI => as_aux_lemma => k_is)
    (case cLaI => as_aux_lemma => k_is)
    (case kLaI => as_aux_lemma => k_is)
    (case aLaE => as_aux_lemma => k_is)
    (case iLaE => as_aux_lemma => k_is)
    (case lLaE => as_aux_lemma => k_is)
    (case cLaE => as_aux_lemma => k_is)
    (case kLaE => as_aux_lemma => k_is)
    (case aLaT => as_aux_lemma => k_is)
    (case iLaT => as_aux_lemma => k_is)
    (case lLaT => as_aux_lemma => k_is)
    (case cLaT => as_aux_lemma => k_is)
    (case kLaT => as_aux_lemma => k_is)
    (case ccLa => as_aux_lemma => k_is)
    (case moLa => as_aux_lemma => k_is)
    (case neLa => as_aux_lemma => k_is)
    (case sTLa => as_aux_lemma => k_is)
    (case sNLa => as_aux_lemma => k_is)
    (case sb0La => as_aux_lemma => k_is)
    (case sb1La => as_aux_lemma => k_is)
    (case sb2La => as_aux_lemma => k_is)
    (case sb3La => as_aux_lemma => k_is)
    (case nSm => as_aux_lemma => k_is)
    (case pgSm => as_aux_lemma => k_is)
    (case hdSm => as_aux_lemma => k_is)
    (case tySm => as_aux_lemma => k_is)
    (case poSm => as_aux_lemma => k_is)
    (case saSm => as_aux_lemma => k_is)
    (case mkSm => as_aux_lemma => k_is)
    (case kcSm => as_aux_lemma => k_is)
    (case nSSm => as_aux_lemma => k_is)
    (case nNSm => as_aux_lemma => k_is)
    (case aSmI => as_aux_lemma => k_is)
    (case iSmI => as_aux_lemma => k_is)
    (case lSmI => as_aux_lemma => k_is)
    (case cSmI => as_aux_lemma => k_is)
    (case kSmI => as_aux_lemma => k_is)
    (case aSmE => as_aux_lemma => k_is)
    (case iSmE => as_aux_lemma => k_is)
    (case lSmE => as_aux_lemma => k_is)
    (case cSmE => as_aux_lemma => k_is)
    (case kSmE => as_aux_lemma => k_is)
    (case aSmT => as_aux_lemma => k_is)
    (case iSmT => as_aux_lemma => k_is)
    (case lSmT => as_aux_lemma => k_is)
    (case cSmT => as_aux_lemma => k_is)
    (case kSmT => as_aux_lemma => k_is)
    (case ccSm => as_aux_lemma => k_is)
    (case moSm => as_aux_lemma => k_is)
    (case neSm => as_aux_lemma => k_is)
    (case sTSm => as_aux_lemma => k_is)
    (case sNSm => as_aux_lemma => k_is)
    (case sb0Sm => as_aux_lemma => k_is)
    (case sb1Sm => as_aux_lemma => k_is)
    (case sb2Sm => as_aux_lemma => k_is)
    (case sb3Sm => as_aux_lemma => k_is)
    (case sBkBk => as_aux_lemma => k_is)
    (case sBkAh => as_aux_lemma => k_is)
    (case sBkSo => as_aux_lemma => k_is)
    (case sBkWh => as_aux_lemma => k_is)
    (case sBkLa => as_aux_lemma => k_is)
    (case sBkSm => as_aux_lemma => k_is)
    (case sAhBk => as_aux_lemma => k_is)
    (case sAhAh => as_aux_lemma => k_is)
    (case sAhSo => as_aux_lemma => k_is)
    (case sAhWh => as_aux_lemma => k_is)
    (case sAhLa => as_aux_lemma => k_is)
    (case sAhSm => as_aux_lemma => k_is)
    (case sSoBk => as_aux_lemma => k_is)
    (case sSoAh => as_aux_lemma => k_is)
    (case sSoSo => as_aux_lemma => k_is)
    (case sSoWh => as_aux_lemma => k_is)
    (case sSoLa => as_aux_lemma => k_is)
    (case sSoSm => as_aux_lemma => k_is)
    (case sWhBk => as_aux_lemma => k_is)
    (case sWhAh => as_aux_lemma => k_is)
    (case sWhSo => as_aux_lemma => k_is)
    (case sWhWh => as_aux_lemma => k_is)
    (case sWhLa => as_aux_lemma => k_is)
    (case sWhSm => as_aux_lemma => k_is)
    (case sLaBk => as_aux_lemma => k_is)
    (case sLaAh => as_aux_lemma => k_is)
    (case sLaSo => as_aux_lemma => k_is)
    (case sLaWh => as_aux_lemma => k_is)
    (case sLaLa => as_aux_lemma => k_is)
    (case sLaSm => as_aux_lemma => k_is)
    (case sSmBk => as_aux_lemma => k_is)
    (case sSmAh => as_aux_lemma => k_is)
    (case sSmSo => as_aux_lemma => k_is)
    (case sSmWh => as_aux_lemma => k_is)
    (case sSmLa => as_aux_lemma => k_is)
    (case sSmSm => as_aux_lemma => k_is)
    (case sBB => as_aux_lemma => k_is)
    (case sCS => as_aux_lemma => k_is)
    (case eCR => rfl)
    (case lR => as_aux_lemma => k_is)
    (case pR => rfl)
    (case nR => first | rfl | kernel_rfl)
#print axioms PySem.Challenge.cw_remadedays_k93_ties_read_and_written_holds
