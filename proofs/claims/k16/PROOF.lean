import PyProof.Rows.All
import Wide.All
import OpenK.AllK
import Wide.FinOn
import PyProof.TwoTypes
import KE.KOpsOwn
import KE.KTupSum
import KE.KStar
import KE.GoesMore
import HandS.ForMost
import HandS.Star
import HandS.SlotsOwn
import HandS.IsInst
import HandS.ClsMeth
import HandS.Property
import HandS.EndBits
import HandS.Wide
import HandS.Exc
import PySem.Challenge.RW_remadedays_k16_whole_days_by_blocks
set_option Elab.async false
set_option linter.all false
set_option maxRecDepth 100000
set_option maxHeartbeats 4000000
namespace My
open PySem PySem.Spec PyProof.Rows L2
section
variable {prog : Program} {w : World} {A : Around} {E : Value → Shared → Prop} {s : Shared} {K : PySem.W.Frag} {x C f f0 : Addr} {ox : Obj} {od : Option Obj} {i : Int} {t : Tok}
theorem asInt_inst {M : Model} {Q : Option Int → Shared → Prop} (hx : s.heap.get? x = some ox) (hd : ox.data = .plain) (h : Q none s) : wpAny M A (asInt? (.ref x)) Q E s := by
  unfold asInt?
  refine wpAny_bind (wpAny_load hx ?_)
  rw [hd]
  exact wpAny_pure h
theorem int_mod_ref {M : Model} {Q : Fin → Shared → Prop} (hx : s.heap.get? x = some ox) (hd : ox.data = .plain) (h : Q (.done (.ret .notImplemented)) s) :
    wpAny M A (Builtin.«int.__mod__» ⟨[.int i t, .ref x], []⟩) Q E s := by
  obtain ⟨hp, gg, d, tk, os⟩ := s
  have q1 : ∀ {A' : Around} {E' : Value → Shared → Prop} {Q' : Option Int → Shared → Prop}, Q' none ⟨hp, gg, d, tk, os⟩ → wpAny M A' (asInt? (.ref x)) Q' E' ⟨hp, gg, d, tk, os⟩ := fun q => asInt_inst hx hd q
  wp_walk using q1
  rw [hd]
  wp_walk
  exact h
theorem int_fdiv_ref {M : Model} {Q : Fin → Shared → Prop} (hx : s.heap.get? x = some ox) (hd : ox.data = .plain) (h : Q (.done (.ret .notImplemented)) s) :
    wpAny M A (Builtin.«int.__floordiv__» ⟨[.int i t, .ref x], []⟩) Q E s := by
  obtain ⟨hp, gg, d, tk, os⟩ := s
  have q1 : ∀ {A' : Around} {E' : Value → Shared → Prop} {Q' : Option Int → Shared → Prop}, Q' none ⟨hp, gg, d, tk, os⟩ → wpAny M A' (asInt? (.ref x)) Q' E' ⟨hp, gg, d, tk, os⟩ := fun q => asInt_inst hx hd q
  wp_walk using q1
  rw [hd]
  wp_walk
  exact h
end
/-- x op y: x an int, y an instance of the class at C that has the operator and its reflected form as defs -/
theorem rbin_int {prog : Program} {w : World} {A : Around} {E : Value → Shared → Prop} {s : Shared} {K : PySem.W.Frag} {x C f f0 : Addr} {ox : Obj} {od : Option Obj} {i : Int} {t : Tok}
    {op : Operator} {idl : String} {B : Builtin} {Q : Value → Shared → Prop} (X : K.In s.heap) (I : PySem.W.InstAt s.heap x ox C od) (hc : PySem.W.selfFirst K C = true)
    (hs : PySem.W.findIn K (.ref C) (PySem.dunder op.info.2) = some (some (.ref f0))) (hr : PySem.W.findIn K (.ref C) (dunderR op.info.2) = some (some (.ref f))) (hf : PySem.W.isFn K (.ref f) = true)
    (hsub : PySem.W.subIn K (.ref C) (.type "int") = some false) (slot : Slot "int" (dunder op.info.2) idl) (fills : fillsNumberSlot (.type "int") op.info.2 = pure true) (entry : entryFor table idl = some B) (args : argsOk idl ⟨[.int i t, .ref x], []⟩)
    (body : ∀ {Q' : Fin → Shared → Prop} {E' : Value → Shared → Prop} {A' : Around}, Q' (.done (.ret .notImplemented)) s → wpAny (model prog w) A' (B ⟨[.int i t, .ref x], []⟩) Q' E' s)
    (h : wpAny (model prog w) A (call (.ref f) [.ref x, .int i t]) (PySem.W.CmpBack Q) E s) : wpAny (model prog w) A (binaryOp op (.int i t) (.ref x)) Q E s := by
  obtain ⟨cd, rest, hcd, hm⟩ := PySem.W.ksp_first hc
  rcases hi : op.info with ⟨sym, nm'⟩
  rw [hi] at hs hr slot fills
  dsimp only at hs hr slot fills
  have one := PySem.W.ksp_try X I hr hf h
  have two : ∀ {Q' : Option Value → Shared → Prop}, Q' none s → wpAny (model prog w) A (tryMethod (.int i t) (dunder nm') (.ref x)) Q' E s := fun q =>
    wpAny_tryMethod_declines (typeIs_int s i t) slot (wpAny_call_entry slot (typeIs_int s i t) entry (body ⟨_, rfl, rfl, q⟩) args)
  have L2 : PySem.W.Looks (model prog w) s.heap (typeOf (.ref x)) (.ref C) := I.type
  have L3 : PySem.W.Looks (model prog w) s.heap (fillsNumberSlot (.ref C) nm') true := PySem.W.fills_K X hcd hm hs
  have L5 : PySem.W.Looks (model prog w) s.heap (isSubtype (.ref C) (.type "int")) false := PySem.W.looks_subIn X hsub
  have hne : (Value.type "int" == Value.ref C) = false := Bool.eq_false_iff.mpr fun q => by cases beq_iff_eq.mp q
  simp only [binaryOp, hi]
  refine wpAny_holding (wpAny_bind ?_)
  unfold binaryOp1
  refine wpAny_bind (wpAny_typeOf (typeIs_int s i t) (wpAny_bind (L2.here (wpAny_bind (wpAny_of_eq fills ?_)))))
  simp only [hne, Bool.false_eq_true, if_false]
  refine wpAny_bind (L3.here ?_)
  simp only [Bool.and_self, if_true]
  refine wpAny_bind (L5.here ?_)
  have hpy : numberSlotInPython (.type "int") nm' = pure false := rfl
  simp only [Bool.false_eq_true, if_false, pure_bind, Bool.not_false, Bool.and_self, if_true, hpy]
  refine wpAny_bind (two ?_)
  refine wpAny_bind (wpAny_mono one (fun r s' hr' => ?_) fun _ _ e => e)
  obtain ⟨v, rfl, hq⟩ := hr'
  exact wpAny_bind (wpAny_rule (wpAny_pure (wpAny_pure hq)))
section
variable {X : Cx} {CX : CXT} {n : Nat} {C g g0 : Addr} {sp : Sp} {E : XK}
/-- what the class at C must have for int op instance -/
structure ROp (K : PySem.W.Frag) (C : Addr) (op : Operator) (g0 g : Addr) : Prop where
  sf : PySem.W.selfFirst K C = true
  own : PySem.W.findIn K (.ref C) (PySem.dunder op.info.2) = some (some (.ref g0))
  ref : PySem.W.findIn K (.ref C) (dunderR op.info.2) = some (some (.ref g))
  fn : PySem.W.isFn K (.ref g) = true
  sub : PySem.W.subIn K (.ref C) (.type "int") = some false
def rRop (C : Addr) (sp : Sp) (E : XK) : R2 := fun x y H Q => ∃ i a dx fs, x = .int i ∧ y = .ref a ∧ H a = some (.ins C dx fs) ∧ sp [y, x] H Q E
theorem op_rmod (R : ROp X.K C .Mod g0 g) (F : FnR X.prog X.w X.K X.mg X.base CX n g sp) (hr : Room n X.A) (hx : Passes CX X E) : OpR X (binaryOp .Mod) (rRop C sp E) := by
  intro pins s σ H x y v u Q I rx ry h
  obtain ⟨i, a, dx, fs, rfl, rfl, ha, q⟩ := h
  obtain ⟨t, rfl⟩ := rx
  cases (show u = Value.ref a from ry)
  obtain ⟨mA, O, _⟩ := ins_get I.hok ha
  obtain ⟨od, J, _⟩ := O.look
  refine rbin_int (op := .Mod) (i := i) (t := t) I.kIn J R.sf R.own R.ref R.fn R.sub PySem.F.slot_int_mod PySem.F.fills_int_mod PySem.F.entry_int_mod (PySem.F.args_int_mod_2 _ _) (fun q => int_mod_ref J.at_ rfl q) ?_
  refine wpAny_mono (wpAny_call (run_fnR (us := [.ref a, .int i t]) (vs := [.ref a, .int i]) F hr hx I (.cons rfl (.cons ⟨t, rfl⟩ .nil)) q)) (fun w s' z => ?_) fun _ _ x => x
  obtain ⟨z', H', I', rz, qz⟩ := z
  exact SlX.cmpback rz ⟨z', H', I', rz, qz⟩
theorem op_rfdiv (R : ROp X.K C .FloorDiv g0 g) (F : FnR X.prog X.w X.K X.mg X.base CX n g sp) (hr : Room n X.A) (hx : Passes CX X E) : OpR X (binaryOp .FloorDiv) (rRop C sp E) := by
  intro pins s σ H x y v u Q I rx ry h
  obtain ⟨i, a, dx, fs, rfl, rfl, ha, q⟩ := h
  obtain ⟨t, rfl⟩ := rx
  cases (show u = Value.ref a from ry)
  obtain ⟨mA, O, _⟩ := ins_get I.hok ha
  obtain ⟨od, J, _⟩ := O.look
  refine rbin_int (op := .FloorDiv) (i := i) (t := t) I.kIn J R.sf R.own R.ref R.fn R.sub PySem.F.slot_int_floordiv PySem.F.fills_int_floordiv PySem.F.entry_int_floordiv (PySem.F.args_int_floordiv_2 _ _) (fun q => int_fdiv_ref J.at_ rfl q) ?_
  refine wpAny_mono (wpAny_call (run_fnR (us := [.ref a, .int i t]) (vs := [.ref a, .int i]) F hr hx I (.cons rfl (.cons ⟨t, rfl⟩ .nil)) q)) (fun w s' z => ?_) fun _ _ x => x
  obtain ⟨z', H', I', rz, qz⟩ := z
  exact SlX.cmpback rz ⟨z', H', I', rz, qz⟩
def rLenO (C : Addr) (sp : Sp) (E : XK) : List V → Hp → VK → Prop := fun xs H Q => ∃ a dx fs, xs = [V.ref a] ∧ H a = some (.ins C dx fs) ∧ sp [.ref a] H (fun z H' => ∃ n : Int, z = .int n ∧ 0 ≤ n ∧ n < 2 ^ 63 ∧ Q (.int n) H') E
theorem call_lenO (hs : PySem.W.findIn X.K (.ref C) "__len__" = some (some (.ref g))) (hf : PySem.W.isFn X.K (.ref g) = true) (F : FnR X.prog X.w X.K X.mg X.base CX n g sp) (hr : Room (n + 1) X.A) (hx : Passes CX X E) : CallR X (.builtin "len") (rLenO C sp E) := by
  intro pins s σ H xs us Q I r h
  obtain ⟨a, dx, fs, rfl, ha, q⟩ := h
  obtain ⟨u, rfl, ru⟩ := r.one
  cases (show u = Value.ref a from ru)
  obtain ⟨mA, O, _⟩ := ins_get I.hok ha
  obtain ⟨od, J, _⟩ := O.look
  obtain ⟨m, hF⟩ := I.fr
  refine PySem.W.len_K hF I.ok.mod.kin J hs hf (wpAny_mono (wpAny_call (SlX.run_at (us := [.ref a]) (ws := [.ref a]) F hr.in1 I.env0.in1 hx I (.cons rfl .nil) q)) (fun w s' z => ?_) fun _ _ x => x)
  obtain ⟨z', H', I', rz, k, ek, h0, h1, qz⟩ := z
  subst ek
  obtain ⟨t, e⟩ := (show ∃ t, w = Value.int k t from rz)
  cases e
  exact ⟨⟨h0, h1⟩, .int k, H', I'.tok _, ⟨_, rfl⟩, qz⟩
end
section
variable {X : Cx}
def rSumT (K : PySem.W.Frag) : List V → Hp → VK → Prop := fun vs H Q => ∃ (a : Addr) (ns : List Int), vs = [V.ref a] ∧ SqT K H a (ns.map V.int) ∧ Q (.int ns.sum) H
theorem cr_sumT (hc : X.calm = true) : CallR X (.builtin "sum") (rSumT X.K) := by
  intro pins s σ H vs us Q I r h
  obtain ⟨a, ns, rfl, hs, q⟩ := h
  obtain ⟨its, rv, hl, _⟩ := I.tuple hs
  rw [Vals.ref1 r]
  obtain ⟨xs, e⟩ := rv.ints.allInts.items
  have hn : numsOf (intItems xs).toList = ns := by rw [← e]; exact rv.ints.numsOf
  rw [nums_intItems] at hn
  have hl' : s.heap.IsTuple a its.toArray := hl
  rw [e] at hl'
  refine PySem.W.ktm_sumG (I.ok.hd hc) hl' fun h' tk t' hk => ⟨.int _, H, I.kept hk, ⟨_, rfl⟩, ?_⟩
  rw [preSum_eq, List.take_of_length_le (by simp), hn]
  exact q
end
section
variable {X : Cx} {CX : CXT} {k i : Nat} {f C : Addr} {sp : Sp} {E : XK} {x : Str} {e : Expr} {te : TE} {p sp_ pos : Pos}
def tMakeStar (K : PySem.W.Frag) (i : Nat) (C : Addr) (sp : Sp) (E : XK) (te : TE) : TE := fun σ H Q => σ[i]? = some (some (.ref C)) ∧ te σ H fun y H1 => ∃ a xs, y = V.ref a ∧ (SqT K H1 a xs ∨ SqL K H1 a xs) ∧
  ∀ x dx, H1 x = none → H1 dx = none → dx ≠ x → sp (V.ref x :: xs) (upd (upd H1 dx (.own x)) x (.ins C dx [])) (fun v H2 => v = .non ∧ Q (.ref x) H2) E
theorem pe_makeStar (M : Mk X.K C f) (F : FnR X.prog X.w X.K X.mg X.base CX k f sp) (hr : Room (k + 1) X.A) (hN : X.N[i]? = some x) (hv : Vis X.env.scope x) (hx : Passes CX X E) (he : PE X e te)
    (hdb : (x == ("__debug__" : Str)) = false := by decide) (hcd : (x == ("__classdict__" : Str)) = false := by decide)
    (hst : starEach [.Starred e sp_] X.env = [(true, eval e X.env)] := by rfl) : PE X (.Call (.Name x p) [.Starred e sp_] [] pos) (tMakeStar X.K i C sp E te) := by
  refine ⟨fun pins s σ H Q I h => ?_⟩
  obtain ⟨hs, ht⟩ := h
  refine wpAny_Call_Name_kw (thn ((pe_var (pos := p) hN hv hdb hcd).run pins s σ H (fun v H1 => v = .ref C ∧ H1 = H) I ⟨.ref C, hs, rfl, rfl⟩) fun u s1 ⟨v, H1, I1, r1, q1⟩ => ?_)
  obtain ⟨rfl, rfl⟩ := q1
  cases r1
  refine PySem.W.callWith_S (h₀ := X.base) I.ok.mod.kin M.kp (thn (he.run pins s1 σ _ _ I1 ht) fun v s2 ⟨y, H2, I2, ry, a, xs, ey, hxs, q⟩ => ?_) hst
  subst ey
  obtain rfl : v = Value.ref a := ry
  exact StX.star_any I2 hxs fun us s3 I3 rv => ⟨I3.kIn, StX.run_makeR M F hr hx I3 rv q⟩
end
theorem meets_enumerate_newT (l : Addr) (items : Array Value) (n : Nat) (dct : Option Addr) (sl : Array (Option Value)) :
    Meets (Builtin.«enumerate.__new__» ⟨[.type "enumerate", .ref l], []⟩) (fun _ R s => s.heap.get? l = some { cls := .type "tuple", dict := dct, data := .seq items n, slots := sl } ∧
      R (.ok (.ret (.ref (s.heap.push { cls := .type "tuple_iterator", data := .fields #[.ref l, .int 0 0] }).objs.size)))
        { s with heap := (s.heap.push { cls := .type "tuple_iterator", data := .fields #[.ref l, .int 0 0] }).push { cls := .type "enumerate", data := .fields #[.none, .bool false, .ref s.heap.objs.size, rawInt 0, .none, .none] } }) :=
  .of_wp fun prog w A R s h => by
    obtain ⟨hp, g, d, tk, os⟩ := s; obtain ⟨hl, h⟩ := h
    have hsub := sub_enumerate
    have hL : Heap.IsTuple (Shared.heap ⟨hp, g, d, tk, os⟩) l items := ⟨_, hl, rfl, n, rfl⟩
    wp_walk using AutoSeq1.wpAny_loadPart' hl
    refine wpAny_stack_any fun st => wpAny_pure ?_
    split
    · rename_i c _ _ _ _ _
      cases (c == Value.type "enumerate")
      · wp_walk using AutoSeq1.wpAny_loadPart' hl, wpAny_pyIter_tuple hL
        exact ⟨_, rfl, h⟩
      · wp_walk using AutoSeq1.wpAny_loadPart' hl, wpAny_pyIter_tuple hL
        exact ⟨_, rfl, h⟩
    · wp_walk using AutoSeq1.wpAny_loadPart' hl, wpAny_pyIter_tuple hL
      exact ⟨_, rfl, h⟩
theorem call_enumerate_tuple {prog : Program} {w : World} {A : Around} {E : Value → Shared → Prop} {s : Shared} {l : Addr} {items : Array Value} {Q : Value → Shared → Prop} (hL : s.heap.IsTuple l items)
    (h : ∀ h', IsEnum h' (s.heap.objs.size + 1) s.heap.objs.size 0 .none → h'.IsTupleIter s.heap.objs.size l 0 → h'.objs.size = s.heap.objs.size + 2 →
      (∀ b o, s.heap.get? b = some o → h'.get? b = some o) → Q (.ref (s.heap.objs.size + 1)) { s with heap := h' }) :
    wpAny (model prog w) A (call (.type "enumerate") [.ref l]) Q E s := by
  obtain ⟨⟨c, dct, dt, sl⟩, hl, hc, n, hd⟩ := hL
  replace hc : c = .type "tuple" := hc
  replace hd : dt = .seq items n := hd
  subst hc hd
  refine callType_new PySem.F.called_enumerate (by decide) (PySem.F.typeCall_enumerate_1 _) (PySem.F.newCall_enumerate_1 _) (fun obj => PySem.F.args_object_init_2 obj _) PySem.F.entry_enumerate_new
    (meets_enumerate_newT l items n dct sl) ⟨hl, ?_⟩
  have hz : (s.heap.push { cls := .type "tuple_iterator", data := .fields #[.ref l, .int 0 0] }).objs.size = s.heap.objs.size + 1 := Heap.size_push ..
  show _ ∧ _
  rw [hz]
  have he : IsEnum ((s.heap.push { cls := .type "tuple_iterator", data := .fields #[.ref l, .int 0 0] }).push
      { cls := .type "enumerate", data := .fields #[.none, .bool false, .ref s.heap.objs.size, rawInt 0, .none, .none] }) (s.heap.objs.size + 1) s.heap.objs.size 0 .none := by
    have := Heap.get?_push_size (s.heap.push { cls := .type "tuple_iterator", data := .fields #[.ref l, .int 0 0] })
      (o := { cls := .type "enumerate", data := .fields #[.none, .bool false, .ref s.heap.objs.size, rawInt 0, .none, .none] }) rfl
    rw [hz] at this; exact this
  refine ⟨⟨_, he, rfl⟩, h _ he ⟨_, Heap.get?_push_of_some _ (Heap.get?_push_size _ rfl), rfl, rfl⟩ (by rw [Heap.size_push, hz]) fun b o x => Heap.get?_push_of_some _ (Heap.get?_push_of_some _ x)⟩
def IteT (K : PySem.W.Frag) (a : Addr) : It :=
  ⟨fun i H => ∃ (xs : List V) (x : V), SqT K H a xs ∧ xs[i]? = some x, fun i H v H' => ∃ T x, v = .ref T ∧ H T = none ∧ H' = upd H T (.tup [.int (i : Nat), x]) ∧ ∀ xs, SqT K H a xs → xs[i]? = some x, fun i H => ∃ xs : List V, SqT K H a xs ∧ xs.length ≤ i⟩
theorem turn_enumT {P : Program} {w : World} {K : PySem.W.Frag} {elts : List Expr} {kk : Nat} {tpos : Pos} (a e it : Addr) :
    Turn P w K (.Tuple elts kk tpos) (IteT K a) [e, it] e (fun i h => (∃ old, IsEnum h e it ((i : Nat) : Int) old) ∧ h.IsTupleIter it a i ∧ e ≠ it) where
  mem := by simp
  obj := fun i h st b hb => by
    obtain ⟨⟨old, he⟩, ⟨o, ho, hc, hd⟩, _⟩ := st
    have e' : b = e ∨ b = it := by simpa using hb
    rcases e' with z | z
    · rw [z]; exact ⟨_, he, fun v q => nomatch q⟩
    · rw [z]; exact ⟨o, ho, fun v q => by rw [hd] at q; cases q⟩
  keep := fun i h h' st k => let ⟨⟨old, he⟩, hi, hne⟩ := st; ⟨⟨old, k e (by simp) _ he⟩, hi.at fun o q => k it (by simp) o q, hne⟩
  item := by
    intro X hP hw hK hc i pins s σ H E I hf st hg
    subst hP hw hK
    obtain ⟨⟨old, he⟩, hit, hne⟩ := st
    obtain ⟨xs, x, hq, hx⟩ := hg
    obtain ⟨its, rv, p, hz⟩ := I.tuple hq
    obtain ⟨u, hu, ru⟩ := rv.get hx
    have hel : e < s.heap.objs.size := Heap.lt_size he
    have hil : it < s.heap.objs.size := by obtain ⟨_, q, _⟩ := hit; exact Heap.lt_size q
    have hT : s.heap.IsTuple a its.toArray := p
    have hai : a ≠ it := fun z => by
      obtain ⟨o1, h1, c1, _⟩ := hT
      obtain ⟨o2, h2, c2, _⟩ := hit
      rw [z, h2] at h1
      cases h1
      rw [c2] at c1
      exact absurd c1 (by decide)
    have hae : e ≠ a := fun z => by
      obtain ⟨o1, h1, c1, _⟩ := hT
      rw [← z, he] at h1
      cases h1
      exact absurd (show Value.type "enumerate" = Value.type "tuple" from c1) (by decide)
    have D := Draws.tuple (prog := X.prog) (w := X.w) (A := X.A.in1) (I.ok.hd hc) it a hai its.toArray
    have hl := rv.length
    have hlt : i < its.toArray.size := by
      have := (List.getElem?_eq_some_iff.mp hu).1
      simpa using this
    refine wpAny_pyNext_enum_itemD D he ⟨hit, hT⟩ hlt hne (by simp [hne, hae]) fun x' h' tk hP ho hit' hT' hsz hk => ?_
    obtain rfl : x' = u := by
      have z : its.toArray[i]? = some u := by simpa using hu
      exact Option.some.inj (hP.symm.trans z)
    refine ⟨_, rfl, wpAny_letOwnedTupleGo_enum (s := { s with heap := h', toks := tk + 1 }) ho fun h'' he' sb => ?_⟩
    have hT2 : h''.get? s.heap.objs.size = some { cls := .type "tuple", data := .seq #[.int i tk, x'] } := (sb.2 _ (Nat.ne_of_gt hel)).trans hT'
    have new : ObjOk X.prog X.w (upd H s.heap.objs.size (.tup [.int (i : Nat), x])) h'' s.heap.objs.size (.tup [.int (i : Nat), x]) :=
      ⟨by show 2 ≤ sizeLine; decide, [.int i tk, x'], .cons ⟨_, rfl⟩ (.cons ru .nil), ⟨_, hT2, rfl, _, rfl⟩⟩
    have I1 : Inv X pins σ (upd H s.heap.objs.size (.tup [.int (i : Nat), x])) { s with heap := h'', toks := tk + 1 } :=
      I.turnedNew (ch := [e, it]) (fun b ob hb q => (sb.2 b (fun z => hb (by simp [z]))).trans (hk b ob (fun z => hb (by simp [z])) (fun z => hb (by simp [z])) q)) hf (Nat.le_refl _) new
    refine ⟨.ref s.heap.objs.size, _, I1, rfl, ⟨_, x, rfl, I.hok.fresh (Nat.le_refl _), rfl, fun ys hy => by rw [I.tuple_inj hy hq]; exact hx⟩, ⟨⟨x', ?_⟩, hit'.1.at fun o q => (sb.2 it (Ne.symm hne)).trans q, hne⟩, fun b hb => ?_⟩
    · have e1 : ((i + 1 : Nat) : Int) = (i : Int) + 1 := by omega
      rw [e1]; exact he'
    · have hb' : b < s.heap.objs.size := by
        have e' : b = e ∨ b = it := by simpa using hb
        rcases e' with z | z
        · rw [z]; exact hel
        · rw [z]; exact hil
      rw [upd_ne (Nat.ne_of_lt hb')]
      exact (hf b hb).1
  done := by
    intro X hP hw hK hc i pins s σ H E I hf st hg
    subst hP hw hK
    obtain ⟨⟨old, he⟩, hit, hne⟩ := st
    obtain ⟨xs, hq, hx⟩ := hg
    obtain ⟨its, rv, p, hz⟩ := I.tuple hq
    have hT : s.heap.IsTuple a its.toArray := p
    obtain ⟨f0, f1, f2, f3, f4, f5⟩ := hf it (by simp)
    have hl := rv.length
    have hT2 : s.TypeIs (.ref e) "enumerate" := ⟨_, he, rfl⟩
    unfold pyNext
    refine wpAny_bind (wpAny_attempt (wpAny_callSpecial?_slot (name := Str.ofString "__next__") hT2 PySem.F.slot_enumerate_next
      (wpAny_call_entry PySem.F.slot_enumerate_next hT2 PySem.F.entry_enumerate_next ?_ (PySem.F.args_enumerate_next_1 _))))
    show wpAny _ _ (field (.ref e) 2 >>= _) _ _ _
    refine wpAny_bind (wpAny_field he rfl (x := .ref it) rfl ?_)
    refine wpAny_bind (wpAny_nextOf_tuple_end (I.ok.hd hc) hit hT (by simp; omega) fun h' x he' hx' => ?_)
    obtain ⟨o, ho, hc⟩ := hx'
    refine wpAny_bind (wpAny_isInstance (T := "StopIteration") (b := true) ⟨o, ho, hc⟩ isSubtype_stop ?_)
    exact wpAny_pure ⟨rfl, I.turned (t' := s.toks) (fun b o hb q => he' b o hb q) f0 f1 f3 f4 f5⟩
  self := fun A i s Q E st h => let ⟨⟨_, he⟩, _⟩ := st; wpAny_pyIter_enum he h
def iEnumT (K : PySem.W.Frag) (ta : TA) : TI := fun σ H R => ta σ H fun vs H1 => ∃ a xs, vs = [.ref a] ∧ SqT K H1 a xs ∧ R (IteT K a) H1
theorem pi_enumT {X : Cx} {e : Expr} {ta : TA} {p pos tpos : Pos} {elts : List Expr} {kk : Nat} (hg : Gl X "enumerate") (hm : X.mg "enumerate" = none) (ha : PA X [e] ta) (hs : starEach [e] X.env = [(false, eval e X.env)] := by rfl) :
    PI X (.Tuple elts kk tpos) (.Call (.Name "enumerate" p) [e] [] pos) (iEnumT X.K ta) := by
  refine ⟨fun pins s σ H R I h => ?_⟩
  refine Call_ (ld_blt I hg hm boot_enumerate (PyProof.Rows.callWith_type1 (thn (ha.run pos pins s σ H _ I h) fun us s1 ⟨vs, H1, I1, r1, q1⟩ => ?_) hs rfl))
  obtain ⟨a, xs, ex, hq, q⟩ := q1
  subst ex
  cases r1 with
  | cons r rr =>
    cases rr
    cases r
    obtain ⟨its, rv, p', hz⟩ := I1.tuple hq
    refine call_enumerate_tuple (show s1.heap.IsTuple a its.toArray from p') fun h' he hit hsz hk => wpAny_pyIter_enum he ?_
    have I2 : Inv X pins σ H1 { s1 with heap := h' } := I1.kept (t' := s1.toks) hk
    refine ⟨s1.heap.objs.size + 1, [s1.heap.objs.size + 1, s1.heap.objs.size], _, _, H1, rfl, I2, turn_enumT a (s1.heap.objs.size + 1) s1.heap.objs.size, ⟨⟨.none, he⟩, hit, Nat.succ_ne_self _⟩, fun b hb => ?_, q⟩
    have e' : b = s1.heap.objs.size + 1 ∨ b = s1.heap.objs.size := by simpa using hb
    have hle : s1.heap.objs.size ≤ b := by
      rcases e' with z | z
      · rw [z]; exact Nat.le_add_right _ _
      · rw [z]; exact Nat.le_refl _
    exact I1.fpOk hle (I1.hok.fresh hle)
/-- for i, x in enumerate(tuple) -/
theorem for_enumT {K : PySem.W.Frag} {a : Addr} {xs : List V} {g : TG} {tb : TS} {D : Ends} {σ : L2.St} {H : Hp} (Pv : Nat → L2.St → Hp → Prop) (h0 : Pv 0 σ H) (hl : ∀ i σ H, i ≤ xs.length → Pv i σ H → SqT K H a xs)
    (hs : ∀ i x σ H T, xs[i]? = some x → Pv i σ H → H T = none → g (.ref T) σ (upd H T (.tup [.int (i : Nat), x])) fun σ2 H2 => tb { D with nx := Pv (i + 1), ct := Pv (i + 1), bk := D.nx } σ2 H2) (hd : ∀ σ H, Pv xs.length σ H → D.nx σ H) :
    ∃ W : Nat → Nat → L2.St → Hp → Prop, (∃ m, W 0 m σ H) ∧ ∀ i m σ H, W i m σ H →
      ((IteT K a).stop i H ∧ D.nx σ H) ∨ ((IteT K a).go i H ∧ ∃ N : L2.St → Hp → Prop, (∀ σ' H', N σ' H' → ∃ m', m' < m ∧ W (i + 1) m' σ' H') ∧ ∀ x H', (IteT K a).yld i H x H' → g x σ H' fun σ2 H2 => tb { D with nx := N, ct := N, bk := D.nx } σ2 H2) := by
  refine ⟨fun i m σ H => m = xs.length - i ∧ i ≤ xs.length ∧ Pv i σ H, ⟨xs.length, by simp, Nat.zero_le _, h0⟩, ?_⟩
  rintro i m σ H ⟨rfl, hi, p⟩
  have q := hl i σ H hi p
  by_cases hlt : i < xs.length
  · refine .inr ⟨⟨xs, xs[i], q, by simp [hlt]⟩, Pv (i + 1), fun σ' H' p' => ⟨xs.length - (i + 1), by omega, rfl, hlt, p'⟩, fun x H' y => ?_⟩
    obtain ⟨T, x, rfl, hT, rfl, y⟩ := y
    exact hs i x σ H T (y xs q) p hT
  · have e : i = xs.length := by omega
    subst e
    exact .inl ⟨⟨xs, q, Nat.le_refl _⟩, hd σ H p⟩
theorem turn_long {P : Program} {w : World} {K : PySem.W.Frag} {tg : Expr} (it : Addr) (lo : Int) (n : Nat) : Turn P w K tg (Itr lo n) [it] it (fun i h => IsLongIter h it (lo + (i : Nat) * 1) ((n : Int) - (i : Nat)) 1) where
  mem := by simp
  obj := fun i h st b hb => by
    have e : b = it := by simpa using hb
    subst e
    exact ⟨_, st, fun v z => by
      have z' : Data.fields _ = Data.cell v := z
      cases z'⟩
  keep := fun i h h' st k => k it (by simp) _ st
  item := by
    intro X hP hw hK hc i pins s σ H E I hf st hg
    subst hP hw hK
    obtain ⟨f0, f1, f2, f3, f4, f5⟩ := hf it (by simp)
    have W := Walks.longrange (prog := X.prog) (w := X.w) (I.ok.hd hc) it lo 1 n
    refine W.item i s _ _ hg st fun v h' tk hv st' kk => ?_
    obtain ⟨t, rfl⟩ := hv
    have I1 : Inv X pins σ H { s with heap := h', toks := tk } := I.turned (fun b o hb e => kk b o (by simpa using hb) e) f0 f1 f3 f4 f5
    refine ⟨_, rfl, go_of (s := { s with heap := h', toks := tk }) (n := "longrange_iterator") st' rfl rfl (by decide) ⟨.int (lo + i), H, I1, ⟨t, ?_⟩, ⟨rfl, rfl⟩, st', fun b hb => (hf b hb).1⟩⟩
    rw [Int.mul_one]
  done := by
    intro X hP hw hK hc i pins s σ H E I hf st hg
    subst hP hw hK
    obtain ⟨f0, f1, f2, f3, f4, f5⟩ := hf it (by simp)
    exact wpAny_pyNext_long_end (I.ok.hd hc) st (by have : n ≤ i := hg; omega) fun h' eb => ⟨rfl, I.turned (t' := s.toks) (fun b o hb e => eb b o hb e) f0 f1 f3 f4 f5⟩
  self := fun _ _ _ _ _ st h => wpAny_pyIter_longiter st h
section
variable {X : Cx} {tg : Expr}
theorem range_itW {pins : List (Addr × Obj)} {σ : L2.St} {H : Hp} {s : Shared} {R : It → Hp → Prop} {E : Value → Shared → Prop} {lo hi : Int} {t u v : Tok} {tk : Nat} (I : Inv X pins σ H s)
    (q : R (Itr lo (hi - lo).toNat) H) : wpAny (model X.prog X.w) X.A (pyIter (.ref s.heap.objs.size)) (PIE X pins σ tg R) E { s with heap := s.heap.push { cls := .type "range", data := .fields #[.int lo t, .int hi u, .int 1 v] }, toks := tk } := by
  have I1 : Inv X pins σ H { s with heap := s.heap.push { cls := .type "range", data := .fields #[.int lo t, .int hi u, .int 1 v] }, toks := tk } := I.kept fun b o e => Heap.get?_push_of_some _ e
  have e1 : lo + ((0 : Nat) : Int) * 1 = lo := by simp
  have e2 : (((hi - lo).toNat : Nat) : Int) - ((0 : Nat) : Int) = Builtin.Range.rangeSize lo hi 1 := by rw [rangeSize_one]; split <;> omega
  have fp : ∀ b ∈ [(s.heap.push { cls := .type "range", data := .fields #[.int lo t, .int hi u, .int 1 v] }).objs.size], FpOk X pins H b := fun b hb => by
    have e : b = (s.heap.push { cls := .type "range", data := .fields #[.int lo t, .int hi u, .int 1 v] }).objs.size := by simpa using hb
    subst e
    exact I1.fpOk (Nat.le_refl _) (I1.hok.fresh (Nat.le_refl _))
  cases hs : Builtin.Range.small lo hi 1 with
  | true =>
    refine wpAny_pyIter_range (IsRange.new ..) hs ?_
    refine ⟨(s.heap.push { cls := .type "range", data := .fields #[.int lo t, .int hi u, .int 1 v] }).objs.size, [(s.heap.push { cls := .type "range", data := .fields #[.int lo t, .int hi u, .int 1 v] }).objs.size], _, _, H, rfl,
      I1.kept (t' := tk) fun b o e => Heap.get?_push_of_some _ e, turn_range _ lo (hi - lo).toNat, ?_, fp, q⟩
    show IsRangeIter _ _ (lo + ((0 : Nat) : Int) * 1) ((((hi - lo).toNat : Nat) : Int) - ((0 : Nat) : Int)) 1
    rw [e1, e2]
    exact Heap.get?_push_size _ rfl
  | false =>
    refine wpAny_pyIter_longrange (IsRange.new ..) hs ?_
    refine ⟨(s.heap.push { cls := .type "range", data := .fields #[.int lo t, .int hi u, .int 1 v] }).objs.size, [(s.heap.push { cls := .type "range", data := .fields #[.int lo t, .int hi u, .int 1 v] }).objs.size], _, _, H, rfl,
      I1.kept (t' := tk) fun b o e => Heap.get?_push_of_some _ e, turn_long _ lo (hi - lo).toNat, ?_, fp, q⟩
    show IsLongIter _ _ (lo + ((0 : Nat) : Int) * 1) ((((hi - lo).toNat : Nat) : Int) - ((0 : Nat) : Int)) 1
    rw [e1, e2]
    exact Heap.get?_push_size _ rfl
def iRng2W (ta : TA) : TI := fun σ H R => ta σ H fun vs H1 => ∃ i j : Int, vs = [.int i, .int j] ∧ R (Itr i (j - i).toNat) H1
theorem pi_range2W {a b : Expr} {ta : TA} {p pos : Pos} (hg : Gl X "range") (hm : X.mg "range" = none) (ha : PA X [a, b] ta) (hs : starEach [a, b] X.env = [(false, eval a X.env), (false, eval b X.env)] := by rfl) (hs2 : starEach [b] X.env = [(false, eval b X.env)] := by rfl) :
    PI X tg (.Call (.Name "range" p) [a, b] [] pos) (iRng2W ta) := by
  refine ⟨fun pins s σ H R I h => ?_⟩
  refine Call_ (ld_blt I hg hm boot_range (PyProof.Rows.callWith_type1 (thn (ha.run pos pins s σ H _ I h) fun us s1 ⟨vs, H1, I1, r1, q1⟩ => ?_) (by rw [hs, hs2]) (by rw [hs2]; rfl)))
  obtain ⟨i, j, e, q⟩ := q1
  subst e
  cases r1 with
  | cons r rr =>
    cases rr with
    | cons r' rr =>
      cases rr
      obtain ⟨t, rfl⟩ := r
      obtain ⟨t', rfl⟩ := r'
      exact call_range_2 (range_itW I1 q)
end
end My
set_option linter.all false
namespace My
structure OkL (ls : List Int) : Prop where
  ne : 0 < ls.length
  pos : ∀ l ∈ ls, 1 ≤ l
def spotN : List Int → Int → Nat
  | [], _ => 0
  | l :: r, p => if l ≤ p then spotN r (p - l) + 1 else 0
def ixD (ls : List Int) (d : Int) : Nat := spotN ls (d % ls.sum)
def plcD (ls : List Int) (d : Int) : Int := d % ls.sum - (ls.take (ixD ls d)).sum
def blkD (ls : List Int) (d : Int) : Int := d / ls.sum * ls.length + ixD ls d
def lenD (ls : List Int) (d : Int) : Int := ls.getD (ixD ls d) 0
def fstD (ls : List Int) (d : Int) : Int := d - plcD ls d
/-- the block with the number b, first day f, length l, has the day d -/
def At (ls : List Int) (d b f l : Int) : Prop := f ≤ d ∧ d < f + l ∧ ∃ (k : Int) (i : Nat), b = k * ls.length + i ∧ ls[i]? = some l ∧ f = k * ls.sum + (ls.take i).sum
theorem sum_pos {ls : List Int} (h : ∀ l ∈ ls, 1 ≤ l) : (ls.length : Int) ≤ ls.sum := by
  induction ls with
  | nil => simp
  | cons a r ih =>
    have h1 := h a (by simp)
    have h2 := ih fun l hl => h l (by simp [hl])
    rw [List.sum_cons, List.length_cons]
    omega
theorem OkL.sum {ls : List Int} (o : OkL ls) : 0 < ls.sum := by
  have := sum_pos o.pos
  have := o.ne
  omega
theorem spot_run {ls : List Int} (h : ∀ l ∈ ls, 1 ≤ l) : ∀ p : Int, 0 ≤ p → p < ls.sum → ∃ l, ls[spotN ls p]? = some l ∧ (ls.take (spotN ls p)).sum ≤ p ∧ p < (ls.take (spotN ls p)).sum + l := by
  induction ls with
  | nil => intro p h0 h1; simp at h1; omega
  | cons a r ih =>
    intro p h0 h1
    unfold spotN
    by_cases c : a ≤ p
    · rw [if_pos c]
      rw [List.sum_cons] at h1
      obtain ⟨l, e, q1, q2⟩ := ih (fun l hl => h l (by simp [hl])) (p - a) (by omega) (by omega)
      refine ⟨l, by simpa using e, ?_, ?_⟩
      · rw [List.take_succ_cons, List.sum_cons]; omega
      · rw [List.take_succ_cons, List.sum_cons]; omega
    · rw [if_neg c]
      have := h a (by simp)
      exact ⟨a, by simp, by simp; omega, by simp; omega⟩
theorem take_next {ls : List Int} {i : Nat} {l : Int} (e : ls[i]? = some l) : (ls.take (i + 1)).sum = (ls.take i).sum + l := by
  rw [List.take_add_one, e]
  simp
theorem take_nn {ls : List Int} (h : ∀ l ∈ ls, 1 ≤ l) (i : Nat) : 0 ≤ (ls.take i).sum := by
  have := sum_pos (ls := ls.take i) fun l hl => h l (List.mem_of_mem_take hl)
  omega
theorem take_le {ls : List Int} (h : ∀ l ∈ ls, 1 ≤ l) {i j : Nat} (hij : i ≤ j) : (ls.take i).sum ≤ (ls.take j).sum := by
  have e : ls.take j = ls.take i ++ (ls.drop i).take (j - i) := by
    rw [← List.take_add]
    congr 1
    omega
  rw [e, List.sum_append]
  have := sum_pos (ls := (ls.drop i).take (j - i)) fun l hl => h l (List.mem_of_mem_drop (List.mem_of_mem_take hl))
  omega
theorem take_all {ls : List Int} (h : ∀ l ∈ ls, 1 ≤ l) {i : Nat} {l : Int} (e : ls[i]? = some l) : (ls.take i).sum + l ≤ ls.sum := by
  rw [← take_next e]
  have h1 := take_le h (i := i + 1) (j := ls.length) (by have := (List.getElem?_eq_some_iff.mp e).1; omega)
  rwa [List.take_length] at h1
theorem lt_of_idx {ls : List Int} {i : Nat} {l : Int} (e : ls[i]? = some l) : i < ls.length := (List.getElem?_eq_some_iff.mp e).1
theorem div_of {d k T p : Int} (h : 0 < T) (e : d = k * T + p) (h0 : 0 ≤ p) (h1 : p < T) : d / T = k ∧ d % T = p := by
  subst e
  constructor
  · rw [Int.add_comm, Int.add_mul_ediv_right _ _ (by omega), Int.ediv_eq_zero_of_lt h0 h1]; omega
  · rw [Int.add_comm, Int.add_mul_emod_self_right, Int.emod_eq_of_lt h0 h1]
theorem at_day {ls : List Int} (o : OkL ls) (d : Int) : At ls d (blkD ls d) (fstD ls d) (lenD ls d) := by
  have T := o.sum
  obtain ⟨l, e, q1, q2⟩ := spot_run o.pos (d % ls.sum) (Int.emod_nonneg _ (by omega)) (Int.emod_lt_of_pos _ T)
  have hl : lenD ls d = l := by
    unfold lenD ixD
    rw [List.getD_eq_getElem?_getD, e]
    rfl
  have hd : d = d / ls.sum * ls.sum + d % ls.sum := by
    have := Int.mul_ediv_add_emod d ls.sum
    rw [Int.mul_comm] at this
    omega
  unfold At
  rw [hl]
  unfold fstD plcD ixD
  refine ⟨by omega, by omega, d / ls.sum, spotN ls (d % ls.sum), rfl, e, by omega⟩
theorem at_eq {ls : List Int} (o : OkL ls) {d b f l b' f' l' : Int} (h : At ls d b f l) (h' : At ls d b' f' l') : b = b' ∧ f = f' ∧ l = l' := by
  have T := o.sum
  obtain ⟨h1, h2, k, i, rfl, e, rfl⟩ := h
  obtain ⟨h1', h2', k', i', rfl, e', rfl⟩ := h'
  have n1 := take_nn o.pos i
  have n2 := take_nn o.pos i'
  have a1 := take_all o.pos e
  have a2 := take_all o.pos e'
  have z1 := (div_of (d := d) (k := k) (p := d - k * ls.sum) T (by omega) (by omega) (by omega)).1
  have z2 := (div_of (d := d) (k := k') (p := d - k' * ls.sum) T (by omega) (by omega) (by omega)).1
  obtain rfl : k = k' := z1.symm.trans z2
  have hi : i = i' := by
    rcases Nat.lt_trichotomy i i' with c | c | c
    · have := take_le o.pos (i := i + 1) (j := i') c
      rw [take_next e] at this
      omega
    · exact c
    · have := take_le o.pos (i := i' + 1) (j := i) c
      rw [take_next e'] at this
      omega
  subst hi
  rw [e] at e'
  cases e'
  exact ⟨rfl, rfl, rfl⟩
theorem at_is {ls : List Int} (o : OkL ls) {d b f l : Int} (h : At ls d b f l) : blkD ls d = b ∧ fstD ls d = f ∧ lenD ls d = l := at_eq o (at_day o d) h
/-- the day ahead of the first day of a block is the last one of the block with the number ahead -/
theorem at_begin {ls : List Int} (o : OkL ls) {d : Int} (h : fstD ls d = d) : blkD ls d = blkD ls (d - 1) + 1 ∧ fstD ls (d - 1) + lenD ls (d - 1) = d := by
  have T := o.sum
  have A := at_day o d
  rw [h] at A
  obtain ⟨h1, h2, k, i, eb, e, ef⟩ := A
  have key : ∃ f l, At ls (d - 1) (blkD ls d - 1) f l ∧ f + l = d := by
    cases i with
    | zero =>
      have hn := o.ne
      obtain ⟨l, el⟩ : ∃ l, ls[ls.length - 1]? = some l := ⟨_, List.getElem?_eq_getElem (by omega)⟩
      have hs : (ls.take (ls.length - 1)).sum + l = ls.sum := by
        rw [← take_next el, Nat.sub_add_cancel hn, List.take_length]
      have hl := o.pos l (List.mem_of_getElem? el)
      have hk : (k - 1) * ls.sum = k * ls.sum - ls.sum := by rw [Int.sub_mul, Int.one_mul]
      have hk2 : (k - 1) * (ls.length : Int) = k * ls.length - ls.length := by rw [Int.sub_mul, Int.one_mul]
      simp at ef
      refine ⟨(k - 1) * ls.sum + (ls.take (ls.length - 1)).sum, l, ⟨by omega, by omega, k - 1, ls.length - 1, by rw [eb, hk2]; push_cast; omega, el, rfl⟩, by omega⟩
    | succ j =>
      obtain ⟨l, el⟩ : ∃ l, ls[j]? = some l := ⟨_, List.getElem?_eq_getElem (by have := lt_of_idx e; omega)⟩
      have hl := o.pos l (List.mem_of_getElem? el)
      rw [take_next el] at ef
      refine ⟨k * ls.sum + (ls.take j).sum, l, ⟨by omega, by omega, k, j, by rw [eb]; push_cast; omega, el, rfl⟩, by omega⟩
  obtain ⟨f, l, A', e'⟩ := key
  obtain ⟨r1, r2, r3⟩ := at_is o A'
  rw [r1, r2, r3]
  exact ⟨by omega, e'⟩
/-- otherwise both are of one block -/
theorem at_within {ls : List Int} (o : OkL ls) {d : Int} (h : fstD ls d ≠ d) : blkD ls d = blkD ls (d - 1) ∧ fstD ls d = fstD ls (d - 1) := by
  have A := at_day o d
  obtain ⟨h1, h2, z⟩ := A
  obtain ⟨r1, r2, r3⟩ := at_is o (d := d - 1) (show At ls (d - 1) _ _ _ from ⟨by omega, by omega, z⟩)
  exact ⟨r1.symm, r2.symm⟩
theorem len_at {ls : List Int} (o : OkL ls) (d : Int) : 0 ≤ blkD ls d % ls.length ∧ blkD ls d % ls.length < ls.length ∧ ls[(blkD ls d % ls.length).toNat]? = some (lenD ls d) := by
  obtain ⟨h1, h2, k, i, eb, e, ef⟩ := at_day o d
  have hi := lt_of_idx e
  have z := (div_of (d := blkD ls d) (k := k) (T := ls.length) (p := i) (by omega) eb (by omega) (by omega)).2
  rw [z]
  exact ⟨by omega, by omega, by simpa using e⟩
/-- moved by whole turns -/
theorem at_moved {ls : List Int} (o : OkL ls) (d t : Int) : blkD ls (d + t * ls.sum) = blkD ls d + t * ls.length ∧ fstD ls (d + t * ls.sum) = fstD ls d + t * ls.sum ∧ lenD ls (d + t * ls.sum) = lenD ls d := by
  obtain ⟨h1, h2, k, i, eb, e, ef⟩ := at_day o d
  refine at_is o ⟨by omega, by omega, k + t, i, ?_, e, ?_⟩
  · rw [Int.add_mul]; omega
  · rw [Int.add_mul]; omega
theorem rest_moved {ls : List Int} (o : OkL ls) (d t : Int) : (d + t * ls.sum) % ls.sum = d % ls.sum ∧ (d + t * ls.sum) / ls.sum = d / ls.sum + t := by
  have T := o.sum
  exact ⟨Int.add_mul_emod_self_right .., Int.add_mul_ediv_right _ _ (by omega)⟩
theorem rest_turns (ls : List Int) (d : Int) : d / ls.sum * ls.sum + d % ls.sum = d := by
  have := Int.mul_ediv_add_emod d ls.sum
  rw [Int.mul_comm] at this
  exact this
/-- told twice in a row -/
theorem at_twice {ls : List Int} (o : OkL ls) (d : Int) : blkD (ls ++ ls) d = blkD ls d ∧ fstD (ls ++ ls) d = fstD ls d ∧ lenD (ls ++ ls) d = lenD ls d := by
  have o2 : OkL (ls ++ ls) := ⟨by have := o.ne; simp; omega, fun l hl => by
    rcases List.mem_append.mp hl with h | h
    · exact o.pos l h
    · exact o.pos l h⟩
  obtain ⟨h1, h2, k, i, eb, e, ef⟩ := at_day o d
  have hi := lt_of_idx e
  have hs : (ls ++ ls).sum = 2 * ls.sum := by rw [List.sum_append]; omega
  have hn : ((ls ++ ls).length : Int) = 2 * ls.length := by rw [List.length_append]; push_cast; omega
  have hk := Int.mul_ediv_add_emod k 2
  have m0 : k % 2 = 0 ∨ k % 2 = 1 := by omega
  have t1 : (k / 2) * (2 * ls.sum) = (2 * (k / 2)) * ls.sum := by rw [← Int.mul_assoc, Int.mul_comm (k / 2) 2]
  have t2 : (k / 2) * (2 * (ls.length : Int)) = (2 * (k / 2)) * ls.length := by rw [← Int.mul_assoc, Int.mul_comm (k / 2) 2]
  rcases m0 with m | m
  · have e2 : 2 * (k / 2) = k := by omega
    refine at_is o2 ⟨h1, h2, k / 2, i, ?_, ?_, ?_⟩
    · rw [hn, t2, e2]; exact eb
    · rw [List.getElem?_append_left hi]; exact e
    · rw [hs, t1, e2, List.take_append_of_le_length (by omega)]; exact ef
  · have e2 : 2 * (k / 2) = k - 1 := by omega
    refine at_is o2 ⟨h1, h2, k / 2, ls.length + i, ?_, ?_, ?_⟩
    · rw [hn, t2, e2, Int.sub_mul]; push_cast; omega
    · rw [List.getElem?_append_right (by omega)]; simpa using e
    · rw [hs, t1, e2, Int.sub_mul, List.take_append, List.take_of_length_le (show ls.length ≤ ls.length + i by omega), List.sum_append, Nat.add_sub_cancel_left]; omega
/-- the walk through the lengths -/
theorem spot_step {ls : List Int} (o : OkL ls) {d : Int} {i : Nat} {l : Int} (hi : i ≤ ixD ls d) (e : ls[i]? = some l) : (l ≤ d % ls.sum - (ls.take i).sum ↔ i < ixD ls d) := by
  have T := o.sum
  obtain ⟨m, em, q1, q2⟩ := spot_run o.pos (d % ls.sum) (Int.emod_nonneg _ (by omega)) (Int.emod_lt_of_pos _ T)
  constructor
  · intro h
    rcases Nat.lt_or_ge i (ixD ls d) with c | c
    · exact c
    · have z : i = ixD ls d := by omega
      rw [z] at e h
      have em' : ls[ixD ls d]? = some m := em
      rw [e] at em'
      cases em'
      have q2' : d % ls.sum < (ls.take (ixD ls d)).sum + l := q2
      omega
  · intro h
    have h1 := take_le o.pos (i := i + 1) (j := ixD ls d) h
    rw [take_next e] at h1
    have q1' : (ls.take (ixD ls d)).sum ≤ d % ls.sum := q1
    omega
theorem ix_lt {ls : List Int} (o : OkL ls) (d : Int) : ixD ls d < ls.length ∧ ls[ixD ls d]? = some (lenD ls d) := by
  have T := o.sum
  obtain ⟨m, em, q1, q2⟩ := spot_run o.pos (d % ls.sum) (Int.emod_nonneg _ (by omega)) (Int.emod_lt_of_pos _ T)
  have em' : ls[ixD ls d]? = some m := em
  have hl : lenD ls d = m := by
    unfold lenD
    rw [List.getD_eq_getElem?_getD, em']
    rfl
  exact ⟨lt_of_idx em', by rw [hl]; exact em'⟩
end My
set_option Elab.async false
set_option linter.all false
set_option maxRecDepth 100000
set_option maxHeartbeats 4000000
namespace My
open PySem PySem.Spec PyProof.Rows L2
def top (i : Nat) : Stmt := PySem.Challenge.pw_remadedays_k16_whole_days_by_blocks.main.body.getD i (.Pass ⟨0, 0, 0, 0⟩)
abbrev sWhole : Stmt := top 9
abbrev sBetw : Stmt := top 10
abbrev sDay : Stmt := top 11
abbrev sChk : Stmt := top 20
abbrev sCyc : Stmt := top 19
abbrev sInit : Stmt := inClass sCyc 0
abbrev sOf : Stmt := inClass sCyc 1
abbrev sLengths : Stmt := inClass sCyc 3
abbrev sTotal : Stmt := inClass sCyc 4
abbrev sLen : Stmt := inClass sCyc 5
abbrev sBlock : Stmt := inClass sCyc 9
abbrev sFirst : Stmt := inClass sCyc 10
abbrev sLast : Stmt := inClass sCyc 11
abbrev sPlace : Stmt := inClass sCyc 12
abbrev sLength : Stmt := inClass sCyc 13
abbrev sRmod : Stmt := inClass sCyc 14
abbrev sRfdiv : Stmt := inClass sCyc 15
abbrev sSpot : Stmt := inClass sCyc 18
abbrev sEnds : Stmt := inClass sCyc 19
theorem lt_ne : ¬ (("_lengths" : Str) = "_total") := by decide +kernel
def flds (t : Addr) (n : Int) : List (Str × V) := putF "_total" (.int n) (putF "_lengths" (.ref t) [])
theorem flds_l (t : Addr) (n : Int) : (flds t n).lookup ("_lengths" : Str) = some (.ref t) := by
  unfold flds
  rw [lookup_putF, if_neg lt_ne, lookup_putF, if_pos rfl]
theorem flds_t (t : Addr) (n : Int) : (flds t n).lookup ("_total" : Str) = some (.int n) := by
  unfold flds
  rw [lookup_putF, if_pos rfl]
theorem flds_no (t : Addr) (n : Int) {m : Str} (h1 : ¬ m = "_total") (h2 : ¬ m = "_lengths") : (flds t n).lookup m = none := by
  unfold flds
  rw [lookup_putF, if_neg h1, lookup_putF, if_neg h2]
  all_goals rfl
/-- lengths that a cycle may have -/
structure Good (ls : List Int) : Prop where
  pos : ∀ l ∈ ls, 1 ≤ l ∧ l ≤ 60
  ne : 0 < ls.length
  few : ls.length ≤ 12
  sum : ls.sum ≤ 60
theorem Good.ok {ls : List Int} (g : Good ls) : OkL ls := ⟨g.ne, fun l hl => (g.pos l hl).1⟩
/-- a Cycle of these lengths stands at p -/
structure CycAt (C : Addr) (H : Hp) (p : Addr) (ls : List Int) : Prop where
  ob : ∃ dx t, H p = some (.ins C dx (flds t ls.sum)) ∧ H t = some (.tup (ls.map V.int))
  ok : Good ls
theorem CycAt.same {C : Addr} {H H' : Hp} {p : Addr} {ls : List Int} (c : CycAt C H p ls) (s : Same H H') : CycAt C H' p ls :=
  ⟨let ⟨dx, t, h1, h2⟩ := c.ob; ⟨dx, t, s _ _ h1, s _ _ h2⟩, c.ok⟩
/-- all that was tracked but the list at p is as it was -/
def SameBut (p : Addr) (H H' : Hp) : Prop := ∀ b o, b ≠ p → H b = some o → H' b = some o
theorem Same.but {p : Addr} {H H' : Hp} (s : Same H H') : SameBut p H H' := fun b o _ e => s b o e
theorem SameBut.trans {p : Addr} {H H1 H2 : Hp} (a : SameBut p H H1) (b : SameBut p H1 H2) : SameBut p H H2 := fun c o n e => b c o n (a c o n e)
theorem SameBut.refl (p : Addr) (H : Hp) : SameBut p H H := fun _ _ _ e => e
theorem CycAt.but {C : Addr} {H H' : Hp} {p q : Addr} {ls : List Int} (c : CycAt C H p ls) (s : SameBut q H H') {xs : List V} (hq : H q = some (.lst xs)) : CycAt C H' p ls :=
  ⟨let ⟨dx, t, h1, h2⟩ := c.ob; ⟨dx, t, s _ _ (ne_of h1 hq (by intro z; cases z)) h1, s _ _ (ne_of h2 hq (by intro z; cases z)) h2⟩, c.ok⟩
theorem same_new {H : Hp} {p : Addr} {o : HO} (h : H p = none) : Same H (upd H p o) := fun b q e => by
  rw [upd_ne (ne_of_none e h)]
  exact e
structure Txt (K : PySem.W.Frag) (mg : Str → Option Value) (C fWhole fBetw fDay fChk : Addr) : Prop where
  cl : Cls K C
  nL : NoAttr K C "_lengths"
  nT : NoAttr K C "_total"
  gCyc : mg "Cycle" = some (.ref C)
  gWhole : mg "is_whole" = some (.ref fWhole)
  gBetw : mg "is_between" = some (.ref fBetw)
  gDay : mg "is_day" = some (.ref fDay)
  gChk : mg "check_lengths" = some (.ref fChk)
  gBey : ∃ t, mg "BEYOND" = some (.int (10 ^ 60) t)
  gMB : ∃ t, mg "MOST_BLOCKS" = some (.int 12 t)
  gMT : ∃ t, mg "MOST_TOTAL" = some (.int 60 t)
  zIsi : mg "isinstance" = none
  zInt : mg "int" = none
  zBool : mg "bool" = none
  zEnum : mg "enumerate" = none
  zLen : mg "len" = none
  zSum : mg "sum" = none
  zList : mg "list" = none
  zTuple : mg "tuple" = none
  zRange : mg "range" = none
  zAbs : mg "abs" = none
section
variable {P : Program} {w : World} {K : PySem.W.Frag} {mg : Str → Option Value} {base : Heap} {C fWhole fBetw fDay fChk : Addr}
def spWhole (K : PySem.W.Frag) : Sp := fun vs H Q _ => ∃ (x : V) (t : String) (b1 b2 : Bool), vs = [x] ∧ TyX K H x (.type t) ∧ kitB t "int" = some b1 ∧ kitB t "bool" = some b2 ∧ Q (.bl (b1 && !b2)) H
theorem scWhole : FnScope ["value"] ["value"] (defScope sWhole) := ⟨rfl, rfl, rfl, by decide +kernel, rfl, by decide +kernel, by decide +kernel⟩
theorem ok_whole {f : Addr} {fd : FuncData} (F : Fun K "is_whole" "is_whole" sWhole f fd) (T : Txt K mg C fWhole fBetw fDay fChk) : FnOk P w K mg base CX0 1 f fd ["value"] (spWhole K) := by
  refine F.ok scWhole (fun vs H Q E h => ?_) (fun cdv A outer s H vs Q E hr h => ?_)
  · obtain ⟨x, t, b1, b2, rfl, _⟩ := h
    rfl
  · obtain ⟨x, t, b1, b2, rfl, ty, h1, h2, k⟩ := h
    refine ⟨_, pss_one (ps_ret (pe_and (pe_callB call_isi (by rfl) T.zIsi (by decide +kernel) (pa_cons (pv 0) (pa_cons (pe_bltn (v := .ty "int") (by rfl) T.zInt (by decide +kernel) rfl) pa_nil)))
      (pe_one (pe_not (pe_callB call_isi (by rfl) T.zIsi (by decide +kernel) (pa_cons (pv 0) (pa_cons (pe_bltn (v := .ty "bool") (by rfl) T.zBool (by decide +kernel) rfl) pa_nil))))))), ?_⟩
    refine ⟨_, rfl, x, .ty "int", _, _, b1, rfl, .ty "int", ty, kit_ty h1, b1, rfl, ?_⟩
    cases b1 with
    | true => exact iteT ⟨_, rfl, x, .ty "bool", _, _, b2, rfl, .ty "bool", ty, kit_ty h2, b2, rfl, k⟩
    | false => exact iteF k
/-- value, low, high: low and high ints -/
def spBetw (K : PySem.W.Frag) : Sp := fun vs H Q _ => ∃ (x : V) (t : String) (b1 b2 : Bool) (lo hi : Int), vs = [x, .int lo, .int hi] ∧ TyX K H x (.type t) ∧ kitB t "int" = some b1 ∧ kitB t "bool" = some b2 ∧
  ((b1 && !b2) = false → Q (.bl false) H) ∧ ((b1 && !b2) = true → ∃ i, x = .int i ∧ Q (.bl (decide (lo ≤ i) && decide (i ≤ hi))) H)
theorem scBetw : FnScope ["value", "low", "high"] ["value", "low", "high"] (defScope sBetw) := ⟨rfl, rfl, rfl, by decide +kernel, rfl, by decide +kernel, by decide +kernel⟩
theorem ok_betw {f : Addr} {fd fdW : FuncData} (F : Fun K "is_between" "is_between" sBetw f fd) (T : Txt K mg C fWhole fBetw fDay fChk) (FW : Fun K "is_whole" "is_whole" sWhole fWhole fdW) (bW : Binds K fdW ["value"] []) :
    FnOk P w K mg base CX0 2 f fd ["value", "low", "high"] (spBetw K) := by
  have GW : FnOk P w K mg base CX0 1 fWhole fdW ["value"] (spWhole K) := ok_whole FW T
  refine F.ok scBetw (fun vs H Q E h => ?_) (fun cdv A outer s H vs Q E hr h => ?_)
  · obtain ⟨x, t, b1, b2, lo, hi, rfl, _⟩ := h
    rfl
  · obtain ⟨x, t, b1, b2, lo, hi, rfl, ty, h1, h2, k0, k1⟩ := h
    refine ⟨_, pss_one (ps_ret (pe_and (pe_call GW hr rfl T.gWhole FW.kp bW .nil pass0 (pa_cons (pv 0) pa_nil)) (pe_one (pe_chain op_le op_le (pv 1) (pv 0) (pv 2))))), ?_⟩
    refine ⟨_, rfl, x, t, b1, b2, rfl, ty, h1, h2, _, rfl, ?_⟩
    cases e : (b1 && !b2) with
    | false => exact iteF (k0 e)
    | true =>
      obtain ⟨i, rfl, k⟩ := k1 e
      refine iteT ⟨_, rfl, _, rfl, _, _, rfl, rfl, _, rfl, ?_⟩
      by_cases c : lo ≤ i
      · rw [decide_eq_true c] at k ⊢
        exact iteT ⟨_, rfl, _, _, rfl, rfl, k⟩
      · rw [decide_eq_false c] at k ⊢
        exact iteF k
/-- whether an int is a day -/
def dayB (i : Int) : Bool := decide (1 - 10 ^ 60 ≤ i) && decide (i ≤ 10 ^ 60 - 1)
def spDay (K : PySem.W.Frag) : Sp := fun vs H Q _ => ∃ (x : V) (t : String) (b1 b2 : Bool), vs = [x] ∧ TyX K H x (.type t) ∧ kitB t "int" = some b1 ∧ kitB t "bool" = some b2 ∧
  ((b1 && !b2) = false → Q (.bl false) H) ∧ ((b1 && !b2) = true → ∃ i, x = .int i ∧ Q (.bl (dayB i)) H)
theorem scDay : FnScope ["value"] ["value"] (defScope sDay) := ⟨rfl, rfl, rfl, by decide +kernel, rfl, by decide +kernel, by decide +kernel⟩
theorem ok_day {f : Addr} {fd fdW fdB : FuncData} (F : Fun K "is_day" "is_day" sDay f fd) (T : Txt K mg C fWhole fBetw fDay fChk) (FW : Fun K "is_whole" "is_whole" sWhole fWhole fdW) (bW : Binds K fdW ["value"] [])
    (FB : Fun K "is_between" "is_between" sBetw fBetw fdB) (bB : Binds K fdB ["value", "low", "high"] []) : FnOk P w K mg base CX0 3 f fd ["value"] (spDay K) := by
  have GB : FnOk P w K mg base CX0 2 fBetw fdB ["value", "low", "high"] (spBetw K) := ok_betw FB T FW bW
  obtain ⟨tb, gb⟩ := T.gBey
  refine F.ok scDay (fun vs H Q E h => ?_) (fun cdv A outer s H vs Q E hr h => ?_)
  · obtain ⟨x, t, b1, b2, rfl, _⟩ := h
    rfl
  · obtain ⟨x, t, b1, b2, rfl, ty, h1, h2, k0, k1⟩ := h
    refine ⟨_, pss_one (ps_ret (pe_call GB hr rfl T.gBetw FB.kp bB .nil pass0 (pa_cons (pv 0) (pa_cons (pe_op op_sub pe_int (pe_glob (v := .int (10 ^ 60)) rfl gb ⟨_, rfl⟩)) (pa_cons (pe_op op_sub (pe_glob (v := .int (10 ^ 60)) rfl gb ⟨_, rfl⟩) pe_int) pa_nil))))), ?_⟩
    exact ⟨_, rfl, _, _, rfl, rfl, _, _, rfl, rfl, x, t, b1, b2, _, _, rfl, ty, h1, h2, k0, k1⟩
theorem kii : kitB "int" "int" = some true := by decide +kernel
theorem kib : kitB "int" "bool" = some false := by decide +kernel
theorem tnf0 {A : Prop} (h : (true && !false) = false) : A := by cases h
def spChk : Sp := fun vs H Q _ => ∃ (t : Addr) (ls : List Int), vs = [.ref t] ∧ H t = some (.tup (ls.map V.int)) ∧ Good ls ∧ ∀ H', Same H H' → Q .non H'
theorem scChk : FnScope ["lengths", "at", "length"] ["lengths"] (defScope sChk) := ⟨rfl, rfl, rfl, by decide +kernel, rfl, by decide +kernel, by decide +kernel⟩
theorem ok_chk {f : Addr} {fd fdW fdB : FuncData} (F : Fun K "check_lengths" "check_lengths" sChk f fd) (T : Txt K mg C fWhole fBetw fDay fChk) (FW : Fun K "is_whole" "is_whole" sWhole fWhole fdW) (bW : Binds K fdW ["value"] [])
    (FB : Fun K "is_between" "is_between" sBetw fBetw fdB) (bB : Binds K fdB ["value", "low", "high"] []) : FnOk P w K mg base CX0 3 f fd ["lengths"] spChk := by
  have GB : FnOk P w K mg base CX0 2 fBetw fdB ["value", "low", "high"] (spBetw K) := ok_betw FB T FW bW
  obtain ⟨tb, gb⟩ := T.gMB
  obtain ⟨tt, gt⟩ := T.gMT
  refine F.ok scChk (fun vs H Q E h => ?_) (fun cdv A outer s H vs Q E hr h => ?_)
  · obtain ⟨t, ls, rfl, _⟩ := h
    rfl
  · obtain ⟨t, ls, rfl, ht, g, k⟩ := h
    refine ⟨_, pss_cons (ps_for PassesOwn.never rfl (pi_enumT (by rfl) T.zEnum (pa_cons (pv 0) pa_nil)) (pg_tup rfl (pgs_cons (pg_name (i := 1) scChk.nd rfl (.inl rfl)) (pgs_cons (pg_name (i := 2) scChk.nd rfl (.inl rfl)) pgs_nil)))
        (pss_one (ps_if (pt_not (pt_val (pe_call GB hr rfl T.gBetw FB.kp bB .nil pass0 (pa_cons (pv 2) (pa_cons pe_int (pa_cons (pe_glob (v := .int 60) rfl gt ⟨_, rfl⟩) pa_nil)))))) pss_never pss_nil)))
      (pss_cons (ps_if (pt_not (pt_truth (pv 0) (by intro _; rfl))) pss_never pss_nil)
      (pss_cons (ps_if (pt_cmpR op_gt (pe_callB call_len_seq (by rfl) T.zLen PySem.boot_len (pa_cons (pv 0) pa_nil)) (pe_glob (v := .int 12) rfl gb ⟨_, rfl⟩) (nomark _)) pss_never pss_nil)
      (pss_one (ps_if (pt_cmpR op_gt (pe_callB (cr_sumT rfl) (by rfl) T.zSum (by decide +kernel) (pa_cons (pv 0) pa_nil)) (pe_glob (v := .int 60) rfl gt ⟨_, rfl⟩) (nomark _)) pss_never pss_nil)))), ?_⟩
    refine ⟨_, rfl, t, ls.map V.int, rfl, SqT.of ht, for_enumT (K := K) (a := t) (xs := ls.map V.int) (fun i σ H' => ∃ (u v : Option V), σ = [some (.ref t), u, v] ∧ Same H H')
      ⟨none, none, rfl, Same.refl H⟩ (fun i σ H' _ ⟨_, _, _, s1⟩ => SqT.of (s1 _ _ ht)) ?_ ?_⟩
    · rintro i x σ H' Tn hi ⟨u, v, rfl, s1⟩ hT
      obtain ⟨z, hz, rfl⟩ : ∃ z, ls[i]? = some z ∧ x = V.int z := by
        rw [List.getElem?_map] at hi
        cases e : ls[i]? with
        | none => rw [e] at hi; cases hi
        | some z => rw [e] at hi; exact ⟨z, rfl, (Option.some.inj hi).symm⟩
      have hg := g.pos z (List.mem_of_getElem? hz)
      refine ⟨Tn, _, rfl, SqT.of upd_same, rfl, _, _, rfl, _, _, rfl, rfl, ?_⟩
      refine ⟨_, rfl, V.int z, "int", true, false, 1, 60, rfl, .base (.int z), kii, kib, (fun q => tnf0 q), fun _ => ⟨z, rfl, ?_⟩⟩
      refine ⟨_, rfl, ?_⟩
      rw [decide_eq_true hg.1, decide_eq_true hg.2]
      exact iteF ⟨_, _, rfl, s1.trans (same_new hT)⟩
    · rintro σ H' ⟨u, v, rfl, s1⟩
      have ht' := s1 _ _ ht
      refine ⟨_, rfl, _, .inr (.inl ⟨_, SqT.of ht', rfl⟩), ?_⟩
      have e1 : (ls.map V.int).isEmpty = false := by
        have := g.ne
        cases ls with
        | nil => simp at this
        | cons a r => rfl
      rw [e1]
      refine iteF ?_
      refine ⟨_, rfl, t, _, rfl, .inr (SqT.of ht'), _, _, rfl, rfl, _, rfl, ?_⟩
      rw [List.length_map, decide_eq_false (by have := g.few; omega)]
      refine iteF ?_
      refine ⟨_, rfl, t, ls, rfl, SqT.of ht', _, _, rfl, rfl, _, rfl, ?_⟩
      rw [decide_eq_false (by have := g.sum; omega)]
      exact iteF (k _ s1)
end
end My
namespace My
open PySem PySem.Spec PyProof.Rows L2
section
variable {P : Program} {w : World} {K : PySem.W.Frag} {mg : Str → Option Value} {base : Heap} {C fWhole fBetw fDay fChk : Addr}
def spInitB (C : Addr) : Sp := fun vs H Q _ => ∃ (p t dx : Addr) (ls : List Int), vs = [.ref p, .ref t] ∧ H p = some (.ins C dx []) ∧ H t = some (.tup (ls.map V.int)) ∧ Good ls ∧
  ∀ H', (∀ b o, H b = some o → b ≠ p → H' b = some o) → H' p = some (.ins C dx (flds t ls.sum)) → Q .non H'
theorem scInit : FnScope ["self", "lengths"] ((["self"] : List Str) ++ (["lengths"] : List Str)) (defScope sInit) := ⟨rfl, rfl, rfl, by decide +kernel, rfl, by decide +kernel, by decide +kernel⟩
theorem ok_init {f : Addr} {fd fdW fdB fdC : FuncData} (F : Fun K "__init__" "Cycle.__init__" sInit f fd) (T : Txt K mg C fWhole fBetw fDay fChk) (FW : Fun K "is_whole" "is_whole" sWhole fWhole fdW) (bW : Binds K fdW ["value"] [])
    (FB : Fun K "is_between" "is_between" sBetw fBetw fdB) (bB : Binds K fdB ["value", "low", "high"] []) (FC : Fun K "check_lengths" "check_lengths" sChk fChk fdC) (bC : Binds K fdC ["lengths"] []) :
    FnR P w K mg base CX0 4 f (fun vs H Q E => ∃ ws rest, vs = ws ++ rest ∧ ws.length = (["self"] : List Str).length ∧ rest.length ≤ sizeLine ∧ ∀ p, H p = none → spInitB C (ws ++ [V.ref p]) (upd H p (.tup rest)) Q E) := by
  have GC : FnOk P w K mg base CX0 3 fChk fdC ["lengths"] spChk := ok_chk FC T FW bW FB bB
  obtain ⟨oc, od, kV, doc, pm, an, cdv, ct, osl, rfl, lk, hcd⟩ := F.ex
  refine StX.fn_star lk hcd scInit StX.cxUp_none (StX.bind_star1 (B := fun us => bindArgs (PySem.W.fnOf "__init__" "Cycle.__init__" (defArgs sInit) (defBody sInit) (defScope sInit) .none kV doc pm an cdv ct) ⟨us, []⟩) (p1 := "self") (pv := "lengths") (fun a => by rfl) fun a r rs => by rfl) fun A outer s H vs Q E hr h => ?_
  obtain ⟨p, t, dx, ls, rfl, hp, ht, g, k⟩ := h
  have nt : t ≠ p := ne_of ht hp (by intro z; cases z)
  refine ⟨_, PSs.nox (pss_cons (ps_expr (pe_call GC hr rfl T.gChk FC.kp bC .nil pass0 (pa_cons (pv 1) pa_nil))) (pss_cons (ps_fld (pv 0) (pv 1) rfl)
    (pss_one (ps_fld (pv 0) (pe_callB (cr_sumT rfl) (by rfl) T.zSum (by decide +kernel) (pa_cons (pv 1) pa_nil)) rfl)))), ?_⟩
  refine ⟨_, rfl, t, ls, rfl, ht, g, fun H1 s1 => ?_⟩
  refine ⟨_, rfl, _, rfl, p, C, dx, _, rfl, s1 _ _ hp, T.cl, T.nL, (by show 0 < 1000; decide), ?_⟩
  refine ⟨_, rfl, t, ls, rfl, SqT.of (by rw [upd_ne nt]; exact s1 _ _ ht), _, rfl, p, C, dx, _, rfl, upd_same, T.cl, T.nT, (by show 1 < 1000; decide), ?_⟩
  refine k _ (fun b o e hb => ?_) upd_same
  rw [upd_ne hb, upd_ne hb]
  exact s1 _ _ e
theorem ty_list {K : PySem.W.Frag} {H : Hp} {a : Addr} {xs : List V} (h : SqL K H a xs) : TyX K H (.ref a) (.type "list") := by
  rcases h with (h | ⟨o, h⟩) | ⟨o, its, n, hk, hc, _⟩
  · exact .base (.lst h)
  · exact .base (.frz h)
  · exact .kList hk hc
/-- Cycle.of(lengths) -/
def spOf (K : PySem.W.Frag) (C : Addr) : Sp := fun vs H Q _ => ∃ (a : Addr) (ls : List Int), vs = [.ref C, .ref a] ∧ SqL K H a (ls.map V.int) ∧ Good ls ∧ ∀ x H', Same H H' → H x = none → CycAt C H' x ls → Q (.ref x) H'
theorem scOf : FnScope ["cls", "lengths"] ["cls", "lengths"] (defScope sOf) := ⟨rfl, rfl, rfl, by decide +kernel, rfl, by decide +kernel, by decide +kernel⟩
theorem ok_of {f fI : Addr} {fd fdI fdW fdB fdC : FuncData} (F : Fun K "of" "Cycle.of" sOf f fd) (T : Txt K mg C fWhole fBetw fDay fChk) (M : Mk K C fI) (FI : Fun K "__init__" "Cycle.__init__" sInit fI fdI) (FW : Fun K "is_whole" "is_whole" sWhole fWhole fdW) (bW : Binds K fdW ["value"] [])
    (FB : Fun K "is_between" "is_between" sBetw fBetw fdB) (bB : Binds K fdB ["value", "low", "high"] []) (FC : Fun K "check_lengths" "check_lengths" sChk fChk fdC) (bC : Binds K fdC ["lengths"] []) : FnOk P w K mg base CX0 6 f fd ["cls", "lengths"] (spOf K C) := by
  have GI : FnR P w K mg base CX0 4 fI _ := ok_init (C := C) FI T FW bW FB bB FC bC
  refine F.ok scOf (fun vs H Q E h => ?_) (fun cdv A outer s H vs Q E hr h => ?_)
  · obtain ⟨a, ls, rfl, _⟩ := h
    rfl
  · obtain ⟨a, ls, rfl, ha, g, k⟩ := h
    refine ⟨_, pss_cons (ps_if (pt_not (pt_val (pe_callB call_isiT (by rfl) T.zIsi (by decide +kernel) (pa_cons (pv 1) (pa_cons (pe_tup (pa_cons (pe_bltn (v := .ty "list") (by rfl) T.zList (by decide +kernel) rfl) (pa_cons (pe_bltn (v := .ty "tuple") (by rfl) T.zTuple (by decide +kernel) rfl) pa_nil))) pa_nil))))) pss_never pss_nil)
      (pss_one (ps_ret (pe_makeStar (i := 0) M GI hr rfl (.inl rfl) pass0 (pv 1)))), ?_⟩
    refine ⟨_, rfl, (by show 2 ≤ sizeLine; decide), fun tp htp => ?_⟩
    have s0 : Same H (upd H tp (.tup [.ty "list", .ty "tuple"])) := same_new htp
    refine ⟨_, tp, _, _, [.type "list", .type "tuple"], true, rfl, upd_same, .cons (.ty _) (.cons (.ty _) .nil), ty_list (s0.seq ha), kitAny_cons (b := true) (kit_ty (by decide +kernel)) (fun q => nomatch q) (fun _ => rfl), _, rfl, ?_⟩
    refine iteF ?_
    refine ⟨rfl, _, rfl, a, _, rfl, .inr (s0.seq ha), fun x dx nx ndx nex => ?_⟩
    refine ⟨[.ref x], ls.map V.int, rfl, rfl, ?_, fun t nt => ?_⟩
    · rw [List.length_map]
      have := g.few
      exact Nat.le_trans this (by decide)
    have nxt : x ≠ t := fun z => by
      rw [← z, upd_same] at nt
      cases nt
    have ndt : dx ≠ t := fun z => by
      rw [← z, upd_ne nex, upd_same] at nt
      cases nt
    have s1 : Same (upd H tp (.tup [.ty "list", .ty "tuple"])) (upd (upd (upd H tp (.tup [.ty "list", .ty "tuple"])) dx (.own x)) x (.ins C dx [])) := fun b o e => by
      rw [upd_ne (ne_of_none e nx), upd_ne (ne_of_none e ndx)]
      exact e
    have hx : (upd (upd (upd (upd H tp (.tup [.ty "list", .ty "tuple"])) dx (.own x)) x (.ins C dx [])) t (.tup (ls.map V.int))) x = some (.ins C dx []) := by
      rw [upd_ne nxt, upd_same]
    refine ⟨x, t, dx, ls, rfl, hx, upd_same, g, fun H' keep hx' => ⟨rfl, ?_⟩⟩
    refine k x H' (fun b o e => ?_) (s0.free nx) ⟨⟨dx, t, hx', keep _ _ upd_same (Ne.symm nxt)⟩, g⟩
    have e1 := s1 _ _ (s0 _ _ e)
    exact keep _ _ ((same_new nt) _ _ e1) (ne_of_none (s0 _ _ e) nx)
def spGetL (C : Addr) : Sp := fun vs H Q _ => ∃ (p : Addr) (ls : List Int), vs = [.ref p] ∧ CycAt C H p ls ∧ ∀ t, H t = some (.tup (ls.map V.int)) → Q (.ref t) H
def spGetT (C : Addr) : Sp := fun vs H Q _ => ∃ (p : Addr) (ls : List Int), vs = [.ref p] ∧ CycAt C H p ls ∧ Q (.int ls.sum) H
def spLen (C : Addr) : Sp := fun vs H Q _ => ∃ (p : Addr) (ls : List Int), vs = [.ref p] ∧ CycAt C H p ls ∧ Q (.int ls.length) H
theorem scLengths : FnScope ["self"] ["self"] (defScope sLengths) := ⟨rfl, rfl, rfl, by decide +kernel, rfl, by decide +kernel, by decide +kernel⟩
theorem ok_lengths {f : Addr} {fd : FuncData} (F : Fun K "lengths" "Cycle.lengths" sLengths f fd) (T : Txt K mg C fWhole fBetw fDay fChk) : FnOk P w K mg base CX0 1 f fd ["self"] (spGetL C) := by
  refine F.ok scLengths (fun vs H Q E h => ?_) (fun cdv A outer s H vs Q E hr h => ?_)
  · obtain ⟨p, ls, rfl, _⟩ := h
    rfl
  · obtain ⟨p, ls, rfl, ⟨⟨dx, t, h1, h2⟩, g⟩, k⟩ := h
    refine ⟨_, pss_one (ps_ret (pe_fld (pv 0) rfl)), ?_⟩
    exact ⟨_, rfl, p, C, dx, _, _, rfl, h1, T.cl, T.nL, flds_l _ _, k t h2⟩
theorem scTotal : FnScope ["self"] ["self"] (defScope sTotal) := ⟨rfl, rfl, rfl, by decide +kernel, rfl, by decide +kernel, by decide +kernel⟩
theorem ok_total {f : Addr} {fd : FuncData} (F : Fun K "total" "Cycle.total" sTotal f fd) (T : Txt K mg C fWhole fBetw fDay fChk) : FnOk P w K mg base CX0 1 f fd ["self"] (spGetT C) := by
  refine F.ok scTotal (fun vs H Q E h => ?_) (fun cdv A outer s H vs Q E hr h => ?_)
  · obtain ⟨p, ls, rfl, _⟩ := h
    rfl
  · obtain ⟨p, ls, rfl, ⟨⟨dx, t, h1, h2⟩, g⟩, k⟩ := h
    refine ⟨_, pss_one (ps_ret (pe_fld (pv 0) rfl)), ?_⟩
    exact ⟨_, rfl, p, C, dx, _, _, rfl, h1, T.cl, T.nT, flds_t _ _, k⟩
theorem scLen : FnScope ["self"] ["self"] (defScope sLen) := ⟨rfl, rfl, rfl, by decide +kernel, rfl, by decide +kernel, by decide +kernel⟩
theorem ok_len {f : Addr} {fd : FuncData} (F : Fun K "__len__" "Cycle.__len__" sLen f fd) (T : Txt K mg C fWhole fBetw fDay fChk) : FnOk P w K mg base CX0 1 f fd ["self"] (spLen C) := by
  refine F.ok scLen (fun vs H Q E h => ?_) (fun cdv A outer s H vs Q E hr h => ?_)
  · obtain ⟨p, ls, rfl, _⟩ := h
    rfl
  · obtain ⟨p, ls, rfl, ⟨⟨dx, t, h1, h2⟩, g⟩, k⟩ := h
    refine ⟨_, pss_one (ps_ret (pe_callB call_len_seq (by rfl) T.zLen PySem.boot_len (pa_cons (pe_fld (pv 0) rfl) pa_nil))), ?_⟩
    refine ⟨_, rfl, p, C, dx, _, _, rfl, h1, T.cl, T.nL, flds_l _ _, t, _, rfl, .inr (SqT.of h2), ?_⟩
    rw [List.length_map]
    exact k
def spSpot (C : Addr) : Sp := fun vs H Q _ => ∃ (p : Addr) (ls : List Int) (d : Int), vs = [.ref p, .int d] ∧ CycAt C H p ls ∧ ∀ t H', Same H H' → H' t = some (.tup [.int (ixD ls d), .int (plcD ls d)]) → Q (.ref t) H'
theorem scSpot : FnScope ["self", "day", "place", "index"] ["self", "day"] (defScope sSpot) := ⟨rfl, rfl, rfl, by decide +kernel, rfl, by decide +kernel, by decide +kernel⟩
theorem ok_spot {f : Addr} {fd : FuncData} (F : Fun K "spot" "Cycle.spot" sSpot f fd) (T : Txt K mg C fWhole fBetw fDay fChk) : FnOk P w K mg base CX0 1 f fd ["self", "day"] (spSpot C) := by
  refine F.ok scSpot (fun vs H Q E h => ?_) (fun cdv A outer s H vs Q E hr h => ?_)
  · obtain ⟨p, ls, d, rfl, _⟩ := h
    rfl
  · obtain ⟨p, ls, d, rfl, ⟨⟨dx, t, h1, h2⟩, g⟩, k⟩ := h
    have o := g.ok
    refine ⟨_, pss_cons (ps_set (i := 2) scSpot.nd rfl (Or.inl rfl) (pe_op op_mod (pv 1) (pe_fld (pv 0) rfl)))
      (pss_cons (ps_set (i := 3) scSpot.nd rfl (Or.inl rfl) pe_int)
      (pss_cons (ps_while PassesOwn.never (pt_cmpR op_ge (pv 2) (pe_ix ix_tup (pe_fld (pv 0) rfl) (pv 3) (fun _ _ => rfl)) (nomark _))
        (pss_cons (ps_set (i := 2) scSpot.nd rfl (Or.inl rfl) (pe_op op_sub (pv 2) (pe_ix ix_tup (pe_fld (pv 0) rfl) (pv 3) (fun _ _ => rfl))))
        (pss_one (ps_set (i := 3) scSpot.nd rfl (Or.inl rfl) (pe_op op_add (pv 3) pe_int)))))
      (pss_one (ps_ret (pe_tup (pa_cons (pv 3) (pa_cons (pv 2) pa_nil))))))), ?_⟩
    refine ⟨_, rfl, _, rfl, p, C, dx, _, _, rfl, h1, T.cl, T.nT, flds_t _ _, _, _, rfl, rfl, o.sum, ?_⟩
    refine while_by (fun σ H' => H' = H ∧ ∃ i : Nat, i ≤ ixD ls d ∧ σ = [some (.ref p), some (.int d), some (.int (d % ls.sum - (ls.take i).sum)), some (.int i)])
      (fun σ _ => match σ with | [_, _, _, some (.int i)] => (ixD ls d - i.toNat) | _ => 0) ⟨rfl, 0, Nat.zero_le _, by simp; rfl⟩ ?_ ?_
    · rintro σ H' ⟨rfl, i, hi, rfl⟩
      obtain ⟨x1, x2⟩ := ix_lt o d
      obtain ⟨l, e⟩ : ∃ l, ls[i]? = some l := ⟨_, List.getElem?_eq_getElem (by omega)⟩
      have em : (ls.map V.int)[i]? = some (V.int l) := by rw [List.getElem?_map, e]; rfl
      have st := spot_step o hi e
      refine ⟨_, rfl, _, rfl, p, C, dx, _, _, rfl, h1, T.cl, T.nL, flds_l _ _, _, rfl, t, _, _, _, rfl, rfl, SqT.of h2, atI_nat em, _, _, rfl, rfl, _, rfl, ?_⟩
      by_cases c : l ≤ d % ls.sum - (ls.take i).sum
      · have hlt := st.mp c
        rw [decide_eq_true c]
        refine iteT ?_
        refine ⟨_, rfl, _, rfl, p, C, dx, _, _, rfl, h1, T.cl, T.nL, flds_l _ _, _, rfl, t, _, _, _, rfl, rfl, SqT.of h2, atI_nat em, _, _, rfl, rfl, ?_⟩
        refine ⟨_, rfl, _, _, rfl, rfl, ⟨rfl, i + 1, hlt, ?_⟩, ?_⟩
        · rw [take_next e]
          have e1 : d % ls.sum - (ls.take i).sum - l = d % ls.sum - ((ls.take i).sum + l) := by omega
          have e2 : ((i + 1 : Nat) : Int) = (i : Int) + 1 := by omega
          rw [e2, ← e1]
          rfl
        · show ixD ls d - ((i : Int) + 1).toNat < ixD ls d - (i : Int).toNat
          omega
      · have hix : i = ixD ls d := by
          have : ¬ i < ixD ls d := fun z => c (st.mpr z)
          omega
        rw [decide_eq_false c]
        refine iteF ?_
        refine ⟨_, rfl, _, rfl, (by show 2 ≤ sizeLine; decide), fun q hq => ?_⟩
        refine k q _ (same_new hq) ?_
        rw [upd_same, hix]
        rfl
    · rintro σ H' Q1 Q2 m ⟨v2, e2, v0, e0, a, C', dx', fs, v', q1, q2, q3, q4, q5, v3, e3, pp, xs, ii, vv, r1, r2, r3, r4, x, y, z1, z2, kk, z3, z4⟩
      exact ⟨v2, e2, v0, e0, a, C', dx', fs, v', q1, q2, q3, q4, q5, v3, e3, pp, xs, ii, vv, r1, r2, r3, r4, x, y, z1, z2, kk, z3, m _ _ z4⟩
end
end My
namespace My
open PySem PySem.Spec PyProof.Rows L2
section
variable {P : Program} {w : World} {K : PySem.W.Frag} {mg : Str → Option Value} {base : Heap} {C fWhole fBetw fDay fChk fSpot fEnds : Addr} {fdS fdD : FuncData}
def spEnds (C : Addr) : Sp := fun vs H Q _ => ∃ (p : Addr) (ls : List Int) (d : Int), vs = [.ref p, .int d] ∧ CycAt C H p ls ∧ ∀ t H', Same H H' → H' t = some (.tup [.int (fstD ls d), .int (fstD ls d + lenD ls d - 1)]) → Q (.ref t) H'
theorem scEnds : FnScope ["self", "day", "index", "place"] ["self", "day"] (defScope sEnds) := ⟨rfl, rfl, rfl, by decide +kernel, rfl, by decide +kernel, by decide +kernel⟩
/-- what a method of Cycle needs of the others: spot is a method that keeps its promise -/
structure SpotM (P : Program) (w : World) (K : PySem.W.Frag) (mg : Str → Option Value) (base : Heap) (C fSpot : Addr) (fd : FuncData) : Prop where
  F : FnOk P w K mg base CX0 1 fSpot fd ["self", "day"] (spSpot C)
  b : Binds K fd ["self", "day"] []
  m : Meth K C "spot" fSpot
structure EndsM (P : Program) (w : World) (K : PySem.W.Frag) (mg : Str → Option Value) (base : Heap) (C fEnds : Addr) (fd : FuncData) : Prop where
  F : FnOk P w K mg base CX0 2 fEnds fd ["self", "day"] (spEnds C)
  b : Binds K fd ["self", "day"] []
  m : Meth K C "ends" fEnds
structure DayM (P : Program) (w : World) (K : PySem.W.Frag) (mg : Str → Option Value) (base : Heap) (fDay : Addr) (fd : FuncData) : Prop where
  F : FnOk P w K mg base CX0 3 fDay fd ["value"] (spDay K)
  b : Binds K fd ["value"] []
  kp : PySem.W.keepIn K (.ref fDay) = true
theorem ok_ends {f : Addr} {fd : FuncData} (F : Fun K "ends" "Cycle.ends" sEnds f fd) (T : Txt K mg C fWhole fBetw fDay fChk) (S : SpotM P w K mg base C fSpot fdS) : FnOk P w K mg base CX0 2 f fd ["self", "day"] (spEnds C) := by
  refine F.ok scEnds (fun vs H Q E h => ?_) (fun cdv A outer s H vs Q E hr h => ?_)
  · obtain ⟨p, ls, d, rfl, _⟩ := h
    rfl
  · obtain ⟨p, ls, d, rfl, c, k⟩ := h
    obtain ⟨dx, t, h1, h2⟩ := c.ob
    have o := c.ok.ok
    refine ⟨_, pss_cons (ps_asg (pe_meth (pv 0) T.cl S.m S.F hr S.b .nil pass0 (pa_cons (pv 1) pa_nil)) (pg_tup rfl (pgs_cons (pg_name (i := 2) scEnds.nd rfl (.inl rfl)) (pgs_cons (pg_name (i := 3) scEnds.nd rfl (.inl rfl)) pgs_nil))))
      (pss_one (ps_ret (pe_tup (pa_cons (pe_op op_sub (pv 1) (pv 3)) (pa_cons (pe_op op_sub (pe_op op_add (pe_op op_sub (pv 1) (pv 3)) (pe_ix ix_tup (pe_fld (pv 0) rfl) (pv 2) (fun _ _ => rfl))) pe_int) pa_nil))))), ?_⟩
    refine ⟨_, rfl, p, dx, _, rfl, h1, flds_no _ _ (by decide +kernel) (by decide +kernel), _, rfl, p, ls, d, rfl, c, fun q H1 s1 hq => ?_⟩
    refine ⟨q, _, rfl, SqT.of hq, rfl, _, _, rfl, _, _, rfl, rfl, ?_⟩
    obtain ⟨x1, x2⟩ := ix_lt o d
    have em : (ls.map V.int)[ixD ls d]? = some (V.int (lenD ls d)) := by rw [List.getElem?_map, x2]; rfl
    refine ⟨_, rfl, _, rfl, _, _, rfl, rfl, _, rfl, _, rfl, _, _, rfl, rfl, _, rfl, p, C, dx, _, _, rfl, s1 _ _ h1, T.cl, T.nL, flds_l _ _, _, rfl, t, _, _, _, rfl, rfl, SqT.of (s1 _ _ h2), atI_nat em, _, _, rfl, rfl, _, _, rfl, rfl, (by show 2 ≤ sizeLine; decide), fun r hr' => ?_⟩
    refine k r _ (s1.trans (same_new hr')) ?_
    rw [upd_same]
    rfl
/-- a method of a day: what it hands back of a cycle of these lengths -/
def spOfDay (C : Addr) (g : List Int → Int → Int) : Sp := fun vs H Q _ => ∃ (p : Addr) (ls : List Int) (d : Int), vs = [.ref p, .int d] ∧ CycAt C H p ls ∧ dayB d = true ∧ ∀ H', Same H H' → Q (.int (g ls d)) H'
theorem scBlock : FnScope ["self", "day"] ["self", "day"] (defScope sBlock) := ⟨rfl, rfl, rfl, by decide +kernel, rfl, by decide +kernel, by decide +kernel⟩
theorem ok_block {f : Addr} {fd : FuncData} (F : Fun K "block" "Cycle.block" sBlock f fd) (T : Txt K mg C fWhole fBetw fDay fChk) (S : SpotM P w K mg base C fSpot fdS) (D : DayM P w K mg base fDay fdD) : FnOk P w K mg base CX0 4 f fd ["self", "day"] (spOfDay C blkD) := by
  refine F.ok scBlock (fun vs H Q E h => ?_) (fun cdv A outer s H vs Q E hr h => ?_)
  · obtain ⟨p, ls, d, rfl, _⟩ := h
    rfl
  · obtain ⟨p, ls, d, rfl, c, hd, k⟩ := h
    obtain ⟨dx, t, h1, h2⟩ := c.ob
    have hr1 : Room 1 _ := hr.mono (by decide)
    refine ⟨_, pss_cons (ps_if (pt_not (pt_val (pe_call D.F hr rfl T.gDay D.kp D.b .nil pass0 (pa_cons (pv 1) pa_nil)))) pss_never pss_nil)
      (pss_one (ps_ret (pe_op op_add (pe_op op_mul (pe_op op_fdiv (pv 1) (pe_fld (pv 0) rfl)) (pe_callB call_len_seq (by rfl) T.zLen PySem.boot_len (pa_cons (pe_fld (pv 0) rfl) pa_nil)))
        (pe_ix ix_tup (pe_meth (pv 0) T.cl S.m S.F hr1 S.b .nil pass0 (pa_cons (pv 1) pa_nil)) pe_int (fun _ _ => rfl))))), ?_⟩
    refine ⟨_, rfl, V.int d, "int", true, false, rfl, .base (.int d), kii, kib, (fun q => tnf0 q), fun _ => ⟨d, rfl, _, rfl, ?_⟩⟩
    rw [hd]
    refine iteF ?_
    have T0 := c.ok.ok.sum
    have T1 := c.ok.sum
    refine ⟨_, rfl, _, rfl, p, C, dx, _, _, rfl, h1, T.cl, T.nT, flds_t _ _, _, _, rfl, rfl, ⟨T0, by omega⟩, _, rfl, p, C, dx, _, _, rfl, h1, T.cl, T.nL, flds_l _ _, t, _, rfl, .inr (SqT.of h2), _, _, rfl, rfl, .inr ⟨by omega, by rw [List.length_map]; have := c.ok.few; omega⟩, ?_⟩
    refine ⟨_, rfl, p, dx, _, rfl, h1, flds_no _ _ (by decide +kernel) (by decide +kernel), _, rfl, p, ls, d, rfl, c, fun q H1 s1 hq => ?_⟩
    refine ⟨q, _, _, _, rfl, rfl, SqT.of hq, atI_nat (j := 0) rfl, _, _, rfl, rfl, ?_⟩
    rw [List.length_map]
    exact k _ s1
theorem scFirst : FnScope ["self", "day"] ["self", "day"] (defScope sFirst) := ⟨rfl, rfl, rfl, by decide +kernel, rfl, by decide +kernel, by decide +kernel⟩
theorem ok_first {f : Addr} {fd : FuncData} (F : Fun K "first" "Cycle.first" sFirst f fd) (T : Txt K mg C fWhole fBetw fDay fChk) (S : EndsM P w K mg base C fEnds fdS) (D : DayM P w K mg base fDay fdD) : FnOk P w K mg base CX0 4 f fd ["self", "day"] (spOfDay C fstD) := by
  refine F.ok scFirst (fun vs H Q E h => ?_) (fun cdv A outer s H vs Q E hr h => ?_)
  · obtain ⟨p, ls, d, rfl, _⟩ := h
    rfl
  · obtain ⟨p, ls, d, rfl, c, hd, k⟩ := h
    obtain ⟨dx, t, h1, h2⟩ := c.ob
    have hr1 : Room 2 _ := hr.mono (by decide)
    refine ⟨_, pss_cons (ps_if (pt_not (pt_val (pe_call D.F hr rfl T.gDay D.kp D.b .nil pass0 (pa_cons (pv 1) pa_nil)))) pss_never pss_nil)
      (pss_one (ps_ret (pe_ix ix_tup (pe_meth (pv 0) T.cl S.m S.F hr1 S.b .nil pass0 (pa_cons (pv 1) pa_nil)) pe_int (fun _ _ => rfl)))), ?_⟩
    refine ⟨_, rfl, V.int d, "int", true, false, rfl, .base (.int d), kii, kib, (fun q => tnf0 q), fun _ => ⟨d, rfl, _, rfl, ?_⟩⟩
    rw [hd]
    refine iteF ?_
    refine ⟨_, rfl, p, dx, _, rfl, h1, flds_no _ _ (by decide +kernel) (by decide +kernel), _, rfl, p, ls, d, rfl, c, fun q H1 s1 hq => ?_⟩
    exact ⟨q, _, _, _, rfl, rfl, SqT.of hq, atI_nat (j := 0) rfl, k _ s1⟩
def lastD (ls : List Int) (d : Int) : Int := fstD ls d + lenD ls d - 1
theorem scLast : FnScope ["self", "day"] ["self", "day"] (defScope sLast) := ⟨rfl, rfl, rfl, by decide +kernel, rfl, by decide +kernel, by decide +kernel⟩
theorem ok_last {f : Addr} {fd : FuncData} (F : Fun K "last" "Cycle.last" sLast f fd) (T : Txt K mg C fWhole fBetw fDay fChk) (S : EndsM P w K mg base C fEnds fdS) (D : DayM P w K mg base fDay fdD) : FnOk P w K mg base CX0 4 f fd ["self", "day"] (spOfDay C lastD) := by
  refine F.ok scLast (fun vs H Q E h => ?_) (fun cdv A outer s H vs Q E hr h => ?_)
  · obtain ⟨p, ls, d, rfl, _⟩ := h
    rfl
  · obtain ⟨p, ls, d, rfl, c, hd, k⟩ := h
    obtain ⟨dx, t, h1, h2⟩ := c.ob
    have hr1 : Room 2 _ := hr.mono (by decide)
    refine ⟨_, pss_cons (ps_if (pt_not (pt_val (pe_call D.F hr rfl T.gDay D.kp D.b .nil pass0 (pa_cons (pv 1) pa_nil)))) pss_never pss_nil)
      (pss_one (ps_ret (pe_ix ix_tup (pe_meth (pv 0) T.cl S.m S.F hr1 S.b .nil pass0 (pa_cons (pv 1) pa_nil)) pe_int (fun _ _ => rfl)))), ?_⟩
    refine ⟨_, rfl, V.int d, "int", true, false, rfl, .base (.int d), kii, kib, (fun q => tnf0 q), fun _ => ⟨d, rfl, _, rfl, ?_⟩⟩
    rw [hd]
    refine iteF ?_
    refine ⟨_, rfl, p, dx, _, rfl, h1, flds_no _ _ (by decide +kernel) (by decide +kernel), _, rfl, p, ls, d, rfl, c, fun q H1 s1 hq => ?_⟩
    exact ⟨q, _, _, _, rfl, rfl, SqT.of hq, atI_nat (j := 1) rfl, k _ s1⟩
theorem scPlace : FnScope ["self", "day"] ["self", "day"] (defScope sPlace) := ⟨rfl, rfl, rfl, by decide +kernel, rfl, by decide +kernel, by decide +kernel⟩
theorem ok_place {f : Addr} {fd : FuncData} (F : Fun K "place" "Cycle.place" sPlace f fd) (T : Txt K mg C fWhole fBetw fDay fChk) (S : SpotM P w K mg base C fSpot fdS) (D : DayM P w K mg base fDay fdD) : FnOk P w K mg base CX0 4 f fd ["self", "day"] (spOfDay C plcD) := by
  refine F.ok scPlace (fun vs H Q E h => ?_) (fun cdv A outer s H vs Q E hr h => ?_)
  · obtain ⟨p, ls, d, rfl, _⟩ := h
    rfl
  · obtain ⟨p, ls, d, rfl, c, hd, k⟩ := h
    obtain ⟨dx, t, h1, h2⟩ := c.ob
    have hr1 : Room 1 _ := hr.mono (by decide)
    refine ⟨_, pss_cons (ps_if (pt_not (pt_val (pe_call D.F hr rfl T.gDay D.kp D.b .nil pass0 (pa_cons (pv 1) pa_nil)))) pss_never pss_nil)
      (pss_one (ps_ret (pe_ix ix_tup (pe_meth (pv 0) T.cl S.m S.F hr1 S.b .nil pass0 (pa_cons (pv 1) pa_nil)) pe_int (fun _ _ => rfl)))), ?_⟩
    refine ⟨_, rfl, V.int d, "int", true, false, rfl, .base (.int d), kii, kib, (fun q => tnf0 q), fun _ => ⟨d, rfl, _, rfl, ?_⟩⟩
    rw [hd]
    refine iteF ?_
    refine ⟨_, rfl, p, dx, _, rfl, h1, flds_no _ _ (by decide +kernel) (by decide +kernel), _, rfl, p, ls, d, rfl, c, fun q H1 s1 hq => ?_⟩
    exact ⟨q, _, _, _, rfl, rfl, SqT.of hq, atI_nat (j := 1) rfl, k _ s1⟩
theorem scLength : FnScope ["self", "day"] ["self", "day"] (defScope sLength) := ⟨rfl, rfl, rfl, by decide +kernel, rfl, by decide +kernel, by decide +kernel⟩
theorem ok_length {f : Addr} {fd : FuncData} (F : Fun K "length" "Cycle.length" sLength f fd) (T : Txt K mg C fWhole fBetw fDay fChk) (S : SpotM P w K mg base C fSpot fdS) (D : DayM P w K mg base fDay fdD) : FnOk P w K mg base CX0 4 f fd ["self", "day"] (spOfDay C lenD) := by
  refine F.ok scLength (fun vs H Q E h => ?_) (fun cdv A outer s H vs Q E hr h => ?_)
  · obtain ⟨p, ls, d, rfl, _⟩ := h
    rfl
  · obtain ⟨p, ls, d, rfl, c, hd, k⟩ := h
    obtain ⟨dx, t, h1, h2⟩ := c.ob
    have hr1 : Room 1 _ := hr.mono (by decide)
    refine ⟨_, pss_cons (ps_if (pt_not (pt_val (pe_call D.F hr rfl T.gDay D.kp D.b .nil pass0 (pa_cons (pv 1) pa_nil)))) pss_never pss_nil)
      (pss_one (ps_ret (pe_ix ix_tup (pe_fld (pv 0) rfl) (pe_ix ix_tup (pe_meth (pv 0) T.cl S.m S.F hr1 S.b .nil pass0 (pa_cons (pv 1) pa_nil)) pe_int (fun _ _ => rfl)) (fun _ _ => rfl)))), ?_⟩
    refine ⟨_, rfl, V.int d, "int", true, false, rfl, .base (.int d), kii, kib, (fun q => tnf0 q), fun _ => ⟨d, rfl, _, rfl, ?_⟩⟩
    rw [hd]
    refine iteF ?_
    obtain ⟨x1, x2⟩ := ix_lt c.ok.ok d
    have em : (ls.map V.int)[ixD ls d]? = some (V.int (lenD ls d)) := by rw [List.getElem?_map, x2]; rfl
    refine ⟨_, rfl, p, C, dx, _, _, rfl, h1, T.cl, T.nL, flds_l _ _, _, rfl, p, dx, _, rfl, h1, flds_no _ _ (by decide +kernel) (by decide +kernel), _, rfl, p, ls, d, rfl, c, fun q H1 s1 hq => ?_⟩
    exact ⟨q, _, _, _, rfl, rfl, SqT.of hq, atI_nat (j := 0) rfl, t, _, _, _, rfl, rfl, SqT.of (s1 _ _ h2), atI_nat em, k _ s1⟩
def remD (ls : List Int) (d : Int) : Int := d % ls.sum
def turnD (ls : List Int) (d : Int) : Int := d / ls.sum
theorem scRmod : FnScope ["self", "other"] ["self", "other"] (defScope sRmod) := ⟨rfl, rfl, rfl, by decide +kernel, rfl, by decide +kernel, by decide +kernel⟩
theorem ok_rmod {f : Addr} {fd : FuncData} (F : Fun K "__rmod__" "Cycle.__rmod__" sRmod f fd) (T : Txt K mg C fWhole fBetw fDay fChk) (D : DayM P w K mg base fDay fdD) : FnOk P w K mg base CX0 4 f fd ["self", "other"] (spOfDay C remD) := by
  refine F.ok scRmod (fun vs H Q E h => ?_) (fun cdv A outer s H vs Q E hr h => ?_)
  · obtain ⟨p, ls, d, rfl, _⟩ := h
    rfl
  · obtain ⟨p, ls, d, rfl, c, hd, k⟩ := h
    obtain ⟨dx, t, h1, h2⟩ := c.ob
    refine ⟨_, pss_cons (ps_if (pt_not (pt_val (pe_call D.F hr rfl T.gDay D.kp D.b .nil pass0 (pa_cons (pv 1) pa_nil)))) pss_never pss_nil)
      (pss_one (ps_ret (pe_op op_mod (pv 1) (pe_fld (pv 0) rfl)))), ?_⟩
    refine ⟨_, rfl, V.int d, "int", true, false, rfl, .base (.int d), kii, kib, (fun q => tnf0 q), fun _ => ⟨d, rfl, _, rfl, ?_⟩⟩
    rw [hd]
    refine iteF ?_
    exact ⟨_, rfl, _, rfl, p, C, dx, _, _, rfl, h1, T.cl, T.nT, flds_t _ _, _, _, rfl, rfl, c.ok.ok.sum, k _ (Same.refl _)⟩
theorem scRfdiv : FnScope ["self", "other"] ["self", "other"] (defScope sRfdiv) := ⟨rfl, rfl, rfl, by decide +kernel, rfl, by decide +kernel, by decide +kernel⟩
theorem ok_rfdiv {f : Addr} {fd : FuncData} (F : Fun K "__rfloordiv__" "Cycle.__rfloordiv__" sRfdiv f fd) (T : Txt K mg C fWhole fBetw fDay fChk) (D : DayM P w K mg base fDay fdD) : FnOk P w K mg base CX0 4 f fd ["self", "other"] (spOfDay C turnD) := by
  refine F.ok scRfdiv (fun vs H Q E h => ?_) (fun cdv A outer s H vs Q E hr h => ?_)
  · obtain ⟨p, ls, d, rfl, _⟩ := h
    rfl
  · obtain ⟨p, ls, d, rfl, c, hd, k⟩ := h
    obtain ⟨dx, t, h1, h2⟩ := c.ob
    have T1 := c.ok.sum
    refine ⟨_, pss_cons (ps_if (pt_not (pt_val (pe_call D.F hr rfl T.gDay D.kp D.b .nil pass0 (pa_cons (pv 1) pa_nil)))) pss_never pss_nil)
      (pss_one (ps_ret (pe_op op_fdiv (pv 1) (pe_fld (pv 0) rfl)))), ?_⟩
    refine ⟨_, rfl, V.int d, "int", true, false, rfl, .base (.int d), kii, kib, (fun q => tnf0 q), fun _ => ⟨d, rfl, _, rfl, ?_⟩⟩
    rw [hd]
    refine iteF ?_
    exact ⟨_, rfl, _, rfl, p, C, dx, _, _, rfl, h1, T.cl, T.nT, flds_t _ _, _, _, rfl, rfl, ⟨c.ok.ok.sum, by omega⟩, k _ (Same.refl _)⟩
end
end My
namespace My
open PySem PySem.Spec PyProof.Rows L2
abbrev sPen : Stmt := top 23
abbrev sDraw : Stmt := top 24
abbrev sPick : Stmt := top 25
structure PenAt (H : Hp) (p l : Addr) (N : Int) : Prop where
  ex : ∃ (ms : List Int) (n c : Int), H p = some (.lst [.ref l, .int n, .int c]) ∧ H l = some (.lst (ms.map V.int)) ∧ ms.length ≤ 63 ∧ 0 ≤ n ∧ n ≤ N ∧ 0 ≤ c
theorem PenAt.lst {H : Hp} {p l : Addr} {N : Int} (h : PenAt H p l N) : ∃ xs, H p = some (.lst xs) := let ⟨_, _, _, e, _⟩ := h.ex; ⟨_, e⟩
theorem PenAt.same {H H' : Hp} {p l : Addr} {N : Int} (h : PenAt H p l N) (s : Same H H') : PenAt H' p l N := by
  obtain ⟨ms, n, c, e1, e2, z⟩ := h.ex
  exact ⟨ms, n, c, s _ _ e1, s _ _ e2, z⟩
theorem PenAt.le {H : Hp} {p l : Addr} {N M : Int} (h : PenAt H p l N) (z : N ≤ M) : PenAt H p l M := by
  obtain ⟨ms, n, c, e1, e2, h1, h2, h3, h4⟩ := h.ex
  exact ⟨ms, n, c, e1, e2, h1, h2, by omega, h4⟩
/-- a store to another list that was not there when the pen stood -/
theorem PenAt.upd {H H0 : Hp} {p l q : Addr} {N M : Int} {o : HO} (h : PenAt H p l N) (h0 : PenAt H0 p l M) (hq : H0 q = none) : PenAt (upd H q o) p l N := by
  obtain ⟨ms, n, c, e1, e2, z⟩ := h.ex
  obtain ⟨_, _, _, f1, f2, _⟩ := h0.ex
  exact ⟨ms, n, c, by rw [upd_ne (ne_of_none f1 hq)]; exact e1, by rw [upd_ne (ne_of_none f2 hq)]; exact e2, z⟩
theorem pen_ne {H : Hp} {p l : Addr} {ms : List Int} {n c : Int} (h1 : H p = some (.lst [.ref l, .int n, .int c])) (h2 : H l = some (.lst (ms.map V.int))) : l ≠ p := fun z => by
  subst z
  rw [h1] at h2
  have e := HO.lst.inj (Option.some.inj h2)
  cases ms with
  | nil => cases e
  | cons a r => cases e
theorem dp_ints {K : PySem.W.Frag} {H : Hp} : ∀ ns : List Int, DpAll K H (ns.map V.int) (ns.map PyData.int)
  | [] => .nil
  | a :: r => .cons (.int a) (dp_ints r)
section
variable {P : Program} {w : World} {K : PySem.W.Frag} {mg : Str → Option Value} {base : Heap} {C fWhole fBetw fDay fChk fDraw : Addr} {fdD : FuncData}
def spPen (K : PySem.W.Frag) : Sp := fun vs H Q _ => ∃ (a : Addr) (ns : List Int), vs = [.ref a] ∧ SqL K H a (ns.map V.int) ∧ ns.length ≤ 63 ∧ ∀ p l H', Same H H' → PenAt H' p l 0 → Q (.ref p) H'
theorem scPen : FnScope ["_law_script"] ["_law_script"] (defScope sPen) := ⟨rfl, rfl, rfl, by decide +kernel, rfl, by decide +kernel, by decide +kernel⟩
theorem ok_pen {f : Addr} {fd : FuncData} (F : Fun K "_law_pen" "_law_pen" sPen f fd) (T : Txt K mg C fWhole fBetw fDay fChk) : FnOk P w K mg base CX0 1 f fd ["_law_script"] (spPen K) := by
  refine F.ok scPen (fun vs H Q E h => ?_) (fun cdv A outer s H vs Q E hr h => ?_)
  · obtain ⟨a, ns, rfl, _⟩ := h
    rfl
  · obtain ⟨a, ns, rfl, ha, hl, k⟩ := h
    refine ⟨_, pss_one (ps_ret (pe_lst (pa_cons (pe_callTy call_list_of (by rfl) T.zList (by decide +kernel) (pa_cons (pe_slice sl_list (pv 0) po_none (po_some pe_int)) pa_nil)) (pa_cons pe_int (pa_cons pe_int pa_nil))))), ?_⟩
    refine ⟨_, rfl, _, rfl, a, _, rfl, ha, fun q hq => ?_⟩
    refine ⟨q, _, rfl, .inl (SqL.of upd_same), fun l hl' => ⟨(by show 3 ≤ sizeLine; decide), fun p hp => ?_⟩⟩
    refine k p l _ ((same_new hq).trans ((same_new hl').trans (same_new hp))) ?_
    obtain ⟨x, y, e⟩ : ∃ x y, cutV (ns.map V.int) none (some 63) = ((ns.drop x).take y).map V.int := ⟨HT.sIx (ns.map V.int).length 0 none, HT.sIx (ns.map V.int).length (ns.map V.int).length (some 63) - HT.sIx (ns.map V.int).length 0 none, by unfold cutV; rw [List.map_take, List.map_drop]⟩
    refine ⟨(ns.drop x).take y, 0, 0, upd_same, ?_, ?_, by omega, by omega, by omega⟩
    · rw [upd_ne (ne_of_none upd_same hp), upd_same, e]
    · rw [List.length_take, List.length_drop]; omega
/-- a draw: an int below many -/
def spDraw : Sp := fun vs H Q _ => ∃ (p l : Addr) (N many : Int), vs = [.ref p, .int many] ∧ PenAt H p l N ∧ 0 < many ∧ many.natAbs.log2 < 9000 ∧ N ≤ 100000 ∧
  ∀ r H', 0 ≤ r → r < many → SameBut p H H' → PenAt H' p l (N + 1) → Q (.int r) H'
theorem scDraw : FnScope ["_law_pen_here", "_law_many", "_law_digit", "_law_at", "_law_cell", "_law_great", "_law_mixed"] ["_law_pen_here", "_law_many"] (defScope sDraw) := ⟨rfl, rfl, rfl, by decide +kernel, rfl, by decide +kernel, by decide +kernel⟩
theorem small_pow {z : Int} (h0 : 0 ≤ z) (h : z < 18446744073709551616) : CPow z 5 ∧ CPow z 3 := by
  have e : (2 : Nat) ^ 64 = 18446744073709551616 := by decide
  have hz : z.natAbs < 2 ^ 64 := by rw [e]; omega
  exact ⟨⟨by decide, by decide, hz⟩, ⟨by decide, by decide, hz⟩⟩
theorem small_mul {i j : Int} (h0 : -18446744073709551616 < i) (h : i < 18446744073709551616) : CMul i j := by
  have e : (2 : Int) ^ 64 = 18446744073709551616 := by decide
  exact .inl ⟨by rw [e]; exact h0, by rw [e]; exact h⟩
set_option maxHeartbeats 8000000 in
theorem ok_draw {f : Addr} {fd : FuncData} (F : Fun K "_law_draw" "_law_draw" sDraw f fd) (T : Txt K mg C fWhole fBetw fDay fChk) : FnOk P w K mg base CX0 1 f fd ["_law_pen_here", "_law_many"] spDraw := by
  refine F.ok scDraw (fun vs H Q E h => ?_) (fun cdv A outer s H vs Q E hr h => ?_)
  · obtain ⟨p, l, N, many, rfl, _⟩ := h
    rfl
  · obtain ⟨p, l, N, many, rfl, pen, hm, hlog, hN, k⟩ := h
    obtain ⟨ms, n, c, h1, h2, hms, hn0, hnN, hc⟩ := pen.ex
    have nlp := pen_ne h1 h2
    have z0 : ([V.ref l, V.int n, V.int c] : List V)[0]? = some (V.ref l) := rfl
    have z1 : ([V.ref l, V.int n, V.int c] : List V)[1]? = some (V.int n) := rfl
    have z2 : ([V.ref l, V.int n, V.int c] : List V)[2]? = some (V.int c) := rfl
    refine ⟨_, pss_cons (ps_if (pt_cmpR op_gt (pe_ix ix_list (pv 0) pe_int (fun _ _ => rfl)) pe_int (nomark _))
        (pss_cons (ps_set (i := 2) scDraw.nd rfl (Or.inl rfl) (pe_op op_mod (pe_callTy call_int1 (by rfl) T.zInt (by decide +kernel) (pa_cons (pe_ix ix_list (pv 0) pe_int (fun _ _ => rfl)) pa_nil)) (pv 1)))
        (pss_cons (ps_asg (pe_op op_fdivW (pe_callTy call_int1 (by rfl) T.zInt (by decide +kernel) (pa_cons (pe_ix ix_list (pv 0) pe_int (fun _ _ => rfl)) pa_nil)) (pv 1)) (pg_sub (pv 0) pe_int set_list))
        (pss_one (ps_ret (pv 2))))) pss_nil)
      (pss_cons (ps_set (i := 3) scDraw.nd rfl (Or.inl rfl) (pe_ix ix_list (pv 0) pe_int (fun _ _ => rfl)))
      (pss_cons (ps_asg (pe_op op_add (pv 3) pe_int) (pg_sub (pv 0) pe_int set_list))
      (pss_cons (ps_set (i := 4) scDraw.nd rfl (Or.inl rfl) (pe_op op_add (pe_op op_mul pe_int (pv 3)) pe_int))
      (pss_cons (ps_if (pt_cmpR (op_neD hr.units) (pe_ix ix_list (pv 0) pe_int (fun _ _ => rfl)) (pe_lst pa_nil) (nomark _))
        (pss_one (ps_set (i := 4) scDraw.nd rfl (Or.inl rfl) (pe_ix ix_list (pe_ix ix_list (pv 0) pe_int (fun _ _ => rfl))
          (pe_op op_mod (pe_callTy call_int1 (by rfl) T.zInt (by decide +kernel) (pa_cons (pv 3) pa_nil)) (pe_callB call_len_seq (by rfl) T.zLen PySem.boot_len (pa_cons (pe_ix ix_list (pv 0) pe_int (fun _ _ => rfl)) pa_nil))) (fun _ _ => rfl)))) pss_nil)
      (pss_cons (ps_if (PW.pt (pw_and (pt_cmpR op_lt (pv 3) (pe_callB call_len_seq (by rfl) T.zLen PySem.boot_len (pa_cons (pe_ix ix_list (pv 0) pe_int (fun _ _ => rfl)) pa_nil)) (nomark _))
          (pw_and1 (pt_cmpR op_ge (pe_callB call_abs (by rfl) T.zAbs (by decide +kernel) (pa_cons (pv 4) pa_nil)) (pe_op op_pow pe_int pe_int) (nomark _)))))
        (pss_cons (ps_set (i := 5) scDraw.nd rfl (Or.inl rfl) (pe_op op_add (pe_op op_mul pe_int (pe_op op_sub (pe_callB call_abs (by rfl) T.zAbs (by decide +kernel) (pa_cons (pv 4) pa_nil)) (pe_op op_pow pe_int pe_int)))
          (pe_callTy call_int1 (by rfl) T.zInt (by decide +kernel) (pa_cons (pe_cmpR op_lt (pv 4) pe_int (nomark _)) pa_nil))))
        (pss_cons (ps_asg (pe_op op_fdivW (pe_callTy call_int1 (by rfl) T.zInt (by decide +kernel) (pa_cons (pv 5) pa_nil)) (pv 1)) (pg_sub (pv 0) pe_int set_list))
        (pss_one (ps_ret (pe_op op_mod (pe_callTy call_int1 (by rfl) T.zInt (by decide +kernel) (pa_cons (pv 5) pa_nil)) (pv 1)))))) pss_nil)
      (pss_cons (ps_set (i := 6) scDraw.nd rfl (Or.inl rfl) (pe_op op_mod (pe_callTy call_int1 (by rfl) T.zInt (by decide +kernel) (pa_cons (pe_op op_pow (pe_op op_add (pe_op op_add (pe_op op_mod (pe_callTy call_int1 (by rfl) T.zInt (by decide +kernel) (pa_cons (pv 4) pa_nil)) pe_int) (pe_op op_mul pe_int (pv 3))) pe_int) pe_int) pa_nil)) pe_int))
      (pss_cons (ps_set (i := 6) scDraw.nd rfl (Or.inl rfl) (pe_op op_mod (pe_callTy call_int1 (by rfl) T.zInt (by decide +kernel) (pa_cons (pe_op op_pow (pe_op op_add (pe_op op_add (pe_op op_mul (pv 6) (pe_op op_add (pe_op op_mul pe_int (pv 3)) pe_int))
        (pe_op op_mul (pe_op op_mul pe_int (pv 3)) (pv 3))) pe_int) pe_int) pa_nil)) pe_int))
      (pss_one (ps_ret (pe_op op_mod (pe_callTy call_int1 (by rfl) T.zInt (by decide +kernel) (pa_cons (pe_op op_fdiv (pv 6) pe_int) pa_nil)) (pv 1)))))))))))
      , ?_⟩
    refine ⟨_, rfl, p, _, _, _, rfl, rfl, SqL.of h1, atI_nat (j := 2) z2, _, _, rfl, rfl, _, rfl, ?_⟩
    by_cases hcp : 0 < c
    · rw [decide_eq_true hcp]
      refine iteT ?_
      refine ⟨_, rfl, p, _, _, _, rfl, rfl, SqL.of h1, atI_nat (j := 2) z2, .inl ⟨_, rfl, _, rfl, _, _, rfl, rfl, hm, ?_⟩⟩
      refine ⟨_, rfl, p, _, _, _, rfl, rfl, SqL.of h1, atI_nat (j := 2) z2, .inl ⟨_, rfl, _, rfl, _, _, rfl, rfl, ⟨hm, hlog⟩, ?_⟩⟩
      refine ⟨_, rfl, p, _, _, 2, rfl, rfl, h1, rfl, _, rfl, ?_⟩
      refine k _ _ (Int.emod_nonneg _ (by omega)) (Int.emod_lt_of_pos _ hm) (fun b o nb e => by rw [upd_ne nb]; exact e) ⟨ms, n, c / many, upd_same, by rw [upd_ne nlp]; exact h2, hms, hn0, by omega, Int.ediv_nonneg hc (by omega)⟩
    · rw [decide_eq_false hcp]
      refine iteF ?_
      have hc0 : c = 0 := by omega
      subst hc0
      refine ⟨_, rfl, p, _, _, _, rfl, rfl, SqL.of h1, atI_nat (j := 1) z1, ?_⟩
      refine ⟨_, rfl, _, _, rfl, rfl, _, rfl, p, _, _, 1, rfl, rfl, h1, rfl, ?_⟩
      have g1 : (upd H p (.lst ([V.ref l, V.int n, V.int 0].set 1 (V.int (n + 1))))) p = some (.lst [V.ref l, V.int (n + 1), V.int 0]) := upd_same
      have g2 : (upd H p (.lst ([V.ref l, V.int n, V.int 0].set 1 (V.int (n + 1))))) l = some (.lst (ms.map V.int)) := by rw [upd_ne nlp]; exact h2
      have sb : SameBut p H (upd H p (.lst ([V.ref l, V.int n, V.int 0].set 1 (V.int (n + 1))))) := fun b o nb e => by rw [upd_ne nb]; exact e
      generalize (upd H p (.lst ([V.ref l, V.int n, V.int 0].set 1 (V.int (n + 1))))) = H1 at g1 g2 sb ⊢
      have y0 : ([V.ref l, V.int (n + 1), V.int 0] : List V)[0]? = some (V.ref l) := rfl
      refine ⟨_, rfl, _, _, rfl, rfl, small_mul (by omega) (by omega), _, _, rfl, rfl, ?_⟩
      refine ⟨_, rfl, p, _, _, _, rfl, rfl, SqL.of g1, atI_nat (j := 0) y0, Nat.zero_le _, fun q hq => ?_⟩
      have s2 : Same H1 (upd H1 q (.lst [])) := same_new hq
      refine ⟨_, _, .lst (SqL.of (s2 _ _ g2)) (dp_ints ms), .lst (SqL.of upd_same) .nil, PySem.W.shaped_ints ms, PySem.W.shaped_ints [], _, rfl, ?_⟩
      have sb2 : SameBut p H (upd H1 q (.lst [])) := sb.trans (Same.but s2)
      have k1 := s2 _ _ g1
      have k2 := s2 _ _ g2
      generalize upd H1 q (.lst []) = H2 at sb2 k1 k2 ⊢
      have dml : ∀ i : Int, 0 ≤ i → i < ms.length → ∃ z : Int, atI (ms.map V.int) i = some (V.int z) := fun i h0 h1 => by
        refine ⟨ms[i.toNat]'(by omega), at_of (j := i.toNat) (by omega) ?_⟩
        rw [List.getElem?_map, List.getElem?_eq_getElem (by omega)]
        rfl
      refine ite2 (fun hk => ?_) (fun hk => ?_)
      have hne : 0 < ms.length := by
        cases ms with
        | nil => exact absurd hk (by decide)
        | cons a r => simp
      have i0 : 0 ≤ n % (ms.length : Int) := Int.emod_nonneg _ (by omega)
      have i1 : n % (ms.length : Int) < ms.length := Int.emod_lt_of_pos _ (by omega)
      obtain ⟨z, hz⟩ := dml _ i0 i1
      have hz' : atI (ms.map V.int) (n % ((ms.map V.int).length : Int)) = some (V.int z) := by rw [List.length_map]; exact hz
      have hp' : (0 : Int) < ((ms.map V.int).length : Int) := by rw [List.length_map]; omega
      refine ⟨_, rfl, p, _, _, _, rfl, rfl, SqL.of k1, atI_nat (j := 0) y0, _, rfl, .inl ⟨_, rfl, _, rfl, p, _, _, _, rfl, rfl, SqL.of k1, atI_nat (j := 0) y0, l, _, rfl, .inl (SqL.of k2), _, _, rfl, rfl, hp', l, _, _, _, rfl, rfl, SqL.of k2, hz', ?_⟩⟩
      clear hz hz'
      rotate_left
      dsimp only
      generalize 93096 * n + 2796 = z
      all_goals
        -- at < len(cells) and abs(cell) >= 10 ** 18
        refine ⟨_, rfl, _, rfl, p, _, _, _, rfl, rfl, SqL.of k1, atI_nat (j := 0) y0, l, _, rfl, .inl (SqL.of k2), _, _, rfl, rfl, _, rfl, ?_⟩
        refine ite2 (fun h6 => ?_) (fun h6 => ?_)
        refine ⟨_, rfl, _, rfl, _, _, rfl, rfl, ⟨by decide, by decide, by decide⟩, _, _, rfl, rfl, _, rfl, ?_⟩
        refine ite2 (fun h7 => ?_) (fun h7 => ?_)
        have h8 := of_decide_eq_true h7
        have e18 : (10 : Int) ^ (18 : Int).toNat = 1000000000000000000 := by decide
        rw [e18] at h8
        refine ⟨_, rfl, _, rfl, _, _, rfl, rfl, ⟨by decide, by decide, by decide⟩, _, _, rfl, rfl, _, _, rfl, rfl, small_mul (by decide) (by decide), _, rfl, _, _, rfl, rfl, .inr ⟨_, rfl, _, _, rfl, rfl, ?_⟩⟩
        rw [e18]
        have hg : 0 ≤ 2 * ((if z < 0 then -z else z) - 1000000000000000000) + (if decide (z < 0) = true then 1 else 0) := by
          split <;> omega
        refine ⟨_, rfl, .inl ⟨_, rfl, _, rfl, _, _, rfl, rfl, ⟨hm, hlog⟩, _, rfl, p, _, _, 2, rfl, rfl, k1, rfl, ?_⟩⟩
        refine ⟨_, rfl, .inl ⟨_, rfl, _, rfl, _, _, rfl, rfl, hm, ?_⟩⟩
        exact k _ _ (Int.emod_nonneg _ (by omega)) (Int.emod_lt_of_pos _ hm) (sb2.trans fun b o nb e => by rw [upd_ne nb]; exact e) ⟨ms, n + 1, _, upd_same, by rw [upd_ne nlp]; exact k2, hms, by omega, by omega, Int.ediv_nonneg hg (by omega)⟩
        all_goals
          have pen2 : PenAt H2 p l (N + 1) := ⟨ms, n + 1, 0, k1, k2, hms, by omega, by omega, by omega⟩
          have q1 : 0 ≤ z % 2147483549 := Int.emod_nonneg _ (by decide)
          have q2 : z % 2147483549 < 2147483549 := Int.emod_lt_of_pos _ (by decide)
          refine ⟨_, rfl, .inl ⟨_, rfl, _, _, rfl, rfl, (by show (0 : Int) < 2147483549; decide), _, rfl, _, _, rfl, rfl, small_mul (by decide) (by decide), _, _, rfl, rfl, _, _, rfl, rfl, _, _, rfl, rfl, (small_pow (by omega) (by omega)).1, .inl ⟨_, rfl, _, _, rfl, rfl, (by show (0 : Int) < 2147483629; decide), ?_⟩⟩⟩
          have q3 : 0 ≤ (z % 2147483549 + 86152 * n + 2796) ^ (5 : Int).toNat % 2147483629 := Int.emod_nonneg _ (by decide)
          have q4 : (z % 2147483549 + 86152 * n + 2796) ^ (5 : Int).toNat % 2147483629 < 2147483629 := Int.emod_lt_of_pos _ (by decide)
          dsimp only
          generalize (z % 2147483549 + 86152 * n + 2796) ^ (5 : Int).toNat % 2147483629 = m1 at q3 q4
          have b1 : m1 * (2 * n + 733) ≤ 2147483648 * (2 * 100000 + 733) := Int.mul_le_mul (by omega) (by omega) (by omega) (by omega)
          have b2 : 0 ≤ m1 * (2 * n + 733) := Int.mul_nonneg q3 (by omega)
          have b3 : 76896 * n * n ≤ 76896 * 100000 * 100000 := Int.mul_le_mul (by omega) (by omega) (by omega) (by omega)
          have b4 : 0 ≤ 76896 * n * n := Int.mul_nonneg (by omega) (by omega)
          refine ⟨_, rfl, _, rfl, _, _, rfl, rfl, small_mul (by decide) (by decide), _, _, rfl, rfl, _, _, rfl, rfl, small_mul (by omega) (by omega), _, rfl, _, _, rfl, rfl, small_mul (by decide) (by decide), _, rfl, _, _, rfl, rfl, small_mul (by omega) (by omega), _, _, rfl, rfl, _, _, rfl, rfl, _, _, rfl, rfl, (small_pow (by omega) (by omega)).2, .inl ⟨_, rfl, _, _, rfl, rfl, (by show (0 : Int) < 2147483587; decide), ?_⟩⟩
          refine ⟨_, rfl, _, _, rfl, rfl, ⟨by decide, by decide⟩, .inl ⟨_, rfl, _, rfl, _, _, rfl, rfl, hm, ?_⟩⟩
          exact k _ _ (Int.emod_nonneg _ (by omega)) (Int.emod_lt_of_pos _ hm) sb2 pen2
end
end My
namespace My
open PySem PySem.Spec PyProof.Rows L2
abbrev sLens : Stmt := top 26
section
variable {P : Program} {w : World} {K : PySem.W.Frag} {mg : Str → Option Value} {base : Heap} {C fWhole fBetw fDay fChk fDraw fPick : Addr} {fdD fdP : FuncData}
/-- a def of the module that keeps its promise -/
structure Df (P : Program) (w : World) (K : PySem.W.Frag) (mg : Str → Option Value) (base : Heap) (x : Str) (k : Nat) (f : Addr) (fd : FuncData) (ps : List Str) (sp : Sp) : Prop where
  F : FnOk P w K mg base CX0 k f fd ps sp
  b : Binds K fd ps []
  kp : PySem.W.keepIn K (.ref f) = true
  g : mg x = some (.ref f)
theorem log_small {n : Int} (h0 : 0 ≤ n) (h : n < 2 ^ 64) : n.natAbs.log2 < 9000 := by
  have e : (2 : Int) ^ 64 = 18446744073709551616 := by decide
  have e2 : (2 : Nat) ^ 64 = 18446744073709551616 := by decide
  exact Nat.lt_trans (PySem.Flt.log2_lt_of (k := 64) (by decide) (by rw [e2]; omega)) (by decide)
/-- one of a list's items -/
def spPick : Sp := fun vs H Q _ => ∃ (p l a : Addr) (N : Int) (xs : List V), vs = [.ref p, .ref a] ∧ PenAt H p l N ∧ N ≤ 100000 ∧ H a = some (.lst xs) ∧ a ≠ p ∧ 0 < xs.length ∧ xs.length ≤ 1000 ∧
  ∀ (i : Nat) (v : V) (H' : Hp), xs[i]? = some v → SameBut p H H' → PenAt H' p l (N + 1) → Q v H'
theorem scPick : FnScope ["_law_pen_here", "_law_some"] ["_law_pen_here", "_law_some"] (defScope sPick) := ⟨rfl, rfl, rfl, by decide +kernel, rfl, by decide +kernel, by decide +kernel⟩
theorem ok_pick {f : Addr} {fd : FuncData} (F : Fun K "_law_pick" "_law_pick" sPick f fd) (T : Txt K mg C fWhole fBetw fDay fChk) (D : Df P w K mg base "_law_draw" 1 fDraw fdD ["_law_pen_here", "_law_many"] spDraw) : FnOk P w K mg base CX0 2 f fd ["_law_pen_here", "_law_some"] spPick := by
  refine F.ok scPick (fun vs H Q E h => ?_) (fun cdv A outer s H vs Q E hr h => ?_)
  · obtain ⟨p, l, a, N, xs, rfl, _⟩ := h
    rfl
  · obtain ⟨p, l, a, N, xs, rfl, pen, hN, ha, nap, h0, h1, k⟩ := h
    refine ⟨_, pss_one (ps_ret (pe_ix ix_list (pv 1) (pe_call D.F hr rfl D.g D.kp D.b .nil pass0 (pa_cons (pv 0) (pa_cons (pe_callB call_len_seq (by rfl) T.zLen PySem.boot_len (pa_cons (pv 1) pa_nil)) pa_nil))) (fun _ _ => rfl))), ?_⟩
    refine ⟨_, rfl, _, rfl, _, rfl, a, _, rfl, .inl (SqL.of ha), p, l, N, _, rfl, pen, by omega, log_small (by omega) (by omega), hN, fun r H' r0 r1 sb pen' => ?_⟩
    have hv : xs[r.toNat]? = some (xs[r.toNat]'(by omega)) := List.getElem?_eq_getElem (by omega)
    exact ⟨a, _, _, _, rfl, rfl, SqL.of (sb _ _ nap ha), at_of (j := r.toNat) (by omega) hv, k _ _ _ hv sb pen'⟩
theorem good_of {ls : List Int} (h : (decide (∀ l ∈ ls, 1 ≤ l ∧ l ≤ 60) && decide (0 < ls.length) && decide (ls.length ≤ 12) && decide (ls.sum ≤ 60)) = true) : Good ls := by
  simp only [Bool.and_eq_true, decide_eq_true_eq] at h
  exact ⟨h.1.1.1, h.1.1.2, h.1.2, h.2⟩
theorem sum_five : ∀ {ls : List Int}, (∀ l ∈ ls, 1 ≤ l ∧ l ≤ 5) → ls.sum ≤ 5 * ls.length
  | [], _ => by simp
  | a :: r, h => by
    have h1 := (h a (by simp)).2
    have h2 := sum_five (ls := r) fun l hl => h l (by simp [hl])
    rw [List.sum_cons, List.length_cons]
    push_cast
    omega
/-- drawn lengths -/
def spLens : Sp := fun vs H Q _ => ∃ (p l : Addr) (N : Int), vs = [.ref p] ∧ PenAt H p l N ∧ N ≤ 50000 ∧ ∀ a ls H', SameBut p H H' → PenAt H' p l (N + 20) → H' a = some (.lst (ls.map V.int)) → a ≠ p → Good ls → Q (.ref a) H'
theorem scLens : FnScope ["_law_pen_here", "_law_some", "_law_k"] ["_law_pen_here"] (defScope sLens) := ⟨rfl, rfl, rfl, by decide +kernel, rfl, by decide +kernel, by decide +kernel⟩
theorem ok_lens {f : Addr} {fd : FuncData} (F : Fun K "_law_lengths" "_law_lengths" sLens f fd) (T : Txt K mg C fWhole fBetw fDay fChk) (D : Df P w K mg base "_law_draw" 1 fDraw fdD ["_law_pen_here", "_law_many"] spDraw)
    (G : Df P w K mg base "_law_pick" 2 fPick fdP ["_law_pen_here", "_law_some"] spPick) : FnOk P w K mg base CX0 3 f fd ["_law_pen_here"] spLens := by
  refine F.ok scLens (fun vs H Q E h => ?_) (fun cdv A outer s H vs Q E hr h => ?_)
  · obtain ⟨p, l, N, rfl, _⟩ := h
    rfl
  · obtain ⟨p, l, N, rfl, pen, hN, k⟩ := h
    have hr1 : Room 1 _ := hr.mono (by decide)
    refine ⟨_, pss_cons (ps_set (i := 1) scLens.nd rfl (Or.inl rfl) (pe_lst (pa_cons (pe_lst (pa_cons pe_int pa_nil)) (pa_cons (pe_lst (pa_cons pe_int (pa_cons pe_int pa_nil))) (pa_cons (pe_lst (pa_cons pe_int pa_nil)) (pa_cons (pe_lst (pa_cons pe_int (pa_cons pe_int (pa_cons pe_int pa_nil))))
        (pa_cons (pe_lst (pa_cons pe_int (pa_cons pe_int pa_nil))) (pa_cons (pe_lst (pa_cons pe_int pa_nil)) (pa_cons (pe_lst (pa_cons pe_int (pa_cons pe_int (pa_cons pe_int pa_nil)))) (pa_cons (pe_lst (pa_cons pe_int (pa_cons pe_int pa_nil)))
        (pa_cons (pe_lst (pa_cons pe_int (pa_cons pe_int (pa_cons pe_int pa_nil)))) (pa_cons (pe_lst (pa_cons pe_int (pa_cons pe_int (pa_cons pe_int (pa_cons pe_int pa_nil))))) pa_nil))))))))))))
      (pss_cons (ps_if (pt_cmpR op_gt (pe_call D.F hr1 rfl D.g D.kp D.b .nil pass0 (pa_cons (pv 0) (pa_cons pe_int pa_nil))) pe_int (nomark _))
        (pss_one (ps_ret (pe_call G.F hr rfl G.g G.kp G.b .nil pass0 (pa_cons (pv 0) (pa_cons (pv 1) pa_nil))))) pss_nil)
      (pss_one (ps_ret (pe_lc (own := [("_law_k", 2)]) (g := gName 2) (tt := tYes) rfl scLens.nd (pi_range1 rfl T.zRange (pa_cons (pe_op op_add pe_int (pe_call D.F hr1 rfl D.g D.kp D.b .nil pass0 (pa_cons (pv 0) (pa_cons pe_int pa_nil)))) pa_nil))
        (blkOk_by (N := ["_law_pen_here", "_law_some", "_law_k"]) (sc := defScope sLens) (by decide +kernel)) (fun _ _ _ _ _ => pg_name (i := 2) scLens.nd rfl (Or.inl rfl)) (fun _ _ _ _ _ => pts_nil)
        (fun _ _ _ _ _ => pe_op op_add pe_int (pe_call D.F hr1 (by rfl) D.g D.kp D.b .nil pass0 (pa_cons (pv 0) (pa_cons pe_int pa_nil)))))))), ?_⟩
    refine ⟨by decide, fun a0 n0 => ⟨by decide, fun a1 n1 => ⟨by decide, fun a2 n2 => ⟨by decide, fun a3 n3 => ⟨by decide, fun a4 n4 => ⟨by decide, fun a5 n5 => ⟨by decide, fun a6 n6 => ⟨by decide, fun a7 n7 => ⟨by decide, fun a8 n8 => ⟨by decide, fun a9 n9 => ⟨by show 10 ≤ sizeLine; decide, fun b nb => ?_⟩⟩⟩⟩⟩⟩⟩⟩⟩⟩⟩
    obtain ⟨px, hp⟩ := pen.lst
    have u0 : Same H H := Same.refl H
    have m0 := ne_of_none (u0 _ _ hp) n0
    have u1 := u0.trans (same_new (o := (HO.lst [V.int 7])) n0)
    have m1 := ne_of_none (u1 _ _ hp) n1
    have u2 := u1.trans (same_new (o := (HO.lst [V.int 2, V.int 3])) n1)
    have m2 := ne_of_none (u2 _ _ hp) n2
    have u3 := u2.trans (same_new (o := (HO.lst [V.int 1])) n2)
    have m3 := ne_of_none (u3 _ _ hp) n3
    have u4 := u3.trans (same_new (o := (HO.lst [V.int 4, V.int 4, V.int 5])) n3)
    have m4 := ne_of_none (u4 _ _ hp) n4
    have u5 := u4.trans (same_new (o := (HO.lst [V.int 1, V.int 2])) n4)
    have m5 := ne_of_none (u5 _ _ hp) n5
    have u6 := u5.trans (same_new (o := (HO.lst [V.int 60])) n5)
    have m6 := ne_of_none (u6 _ _ hp) n6
    have u7 := u6.trans (same_new (o := (HO.lst [V.int 5, V.int 1, V.int 1])) n6)
    have m7 := ne_of_none (u7 _ _ hp) n7
    have u8 := u7.trans (same_new (o := (HO.lst [V.int 3, V.int 3])) n7)
    have m8 := ne_of_none (u8 _ _ hp) n8
    have u9 := u8.trans (same_new (o := (HO.lst [V.int 28, V.int 28, V.int 4])) n8)
    have m9 := ne_of_none (u9 _ _ hp) n9
    have u10 := u9.trans (same_new (o := (HO.lst [V.int 2, V.int 1, V.int 2, V.int 1])) n9)
    have mb := ne_of_none (u10 _ _ hp) nb
    have t10 := same_new (o := (HO.lst [V.ref a0, V.ref a1, V.ref a2, V.ref a3, V.ref a4, V.ref a5, V.ref a6, V.ref a7, V.ref a8, V.ref a9])) nb
    have L9 := t10 _ _ (upd_same (a := a9) (o := (HO.lst [V.int 2, V.int 1, V.int 2, V.int 1])))
    have t9 := (same_new (o := (HO.lst [V.int 2, V.int 1, V.int 2, V.int 1])) n9).trans t10
    have L8 := t9 _ _ (upd_same (a := a8) (o := (HO.lst [V.int 28, V.int 28, V.int 4])))
    have t8 := (same_new (o := (HO.lst [V.int 28, V.int 28, V.int 4])) n8).trans t9
    have L7 := t8 _ _ (upd_same (a := a7) (o := (HO.lst [V.int 3, V.int 3])))
    have t7 := (same_new (o := (HO.lst [V.int 3, V.int 3])) n7).trans t8
    have L6 := t7 _ _ (upd_same (a := a6) (o := (HO.lst [V.int 5, V.int 1, V.int 1])))
    have t6 := (same_new (o := (HO.lst [V.int 5, V.int 1, V.int 1])) n6).trans t7
    have L5 := t6 _ _ (upd_same (a := a5) (o := (HO.lst [V.int 60])))
    have t5 := (same_new (o := (HO.lst [V.int 60])) n5).trans t6
    have L4 := t5 _ _ (upd_same (a := a4) (o := (HO.lst [V.int 1, V.int 2])))
    have t4 := (same_new (o := (HO.lst [V.int 1, V.int 2])) n4).trans t5
    have L3 := t4 _ _ (upd_same (a := a3) (o := (HO.lst [V.int 4, V.int 4, V.int 5])))
    have t3 := (same_new (o := (HO.lst [V.int 4, V.int 4, V.int 5])) n3).trans t4
    have L2 := t3 _ _ (upd_same (a := a2) (o := (HO.lst [V.int 1])))
    have t2 := (same_new (o := (HO.lst [V.int 1])) n2).trans t3
    have L1 := t2 _ _ (upd_same (a := a1) (o := (HO.lst [V.int 2, V.int 3])))
    have t1 := (same_new (o := (HO.lst [V.int 2, V.int 3])) n1).trans t2
    have L0 := t1 _ _ (upd_same (a := a0) (o := (HO.lst [V.int 7])))
    have t0 := (same_new (o := (HO.lst [V.int 7])) n0).trans t1
    have Lb := upd_same (H := upd (upd (upd (upd (upd (upd (upd (upd (upd (upd H a0 (HO.lst [V.int 7])) a1 (HO.lst [V.int 2, V.int 3])) a2 (HO.lst [V.int 1])) a3 (HO.lst [V.int 4, V.int 4, V.int 5])) a4 (HO.lst [V.int 1, V.int 2])) a5 (HO.lst [V.int 60])) a6 (HO.lst [V.int 5, V.int 1, V.int 1])) a7 (HO.lst [V.int 3, V.int 3])) a8 (HO.lst [V.int 28, V.int 28, V.int 4])) a9 (HO.lst [V.int 2, V.int 1, V.int 2, V.int 1])) (a := b) (o := (HO.lst [V.ref a0, V.ref a1, V.ref a2, V.ref a3, V.ref a4, V.ref a5, V.ref a6, V.ref a7, V.ref a8, V.ref a9]))
    generalize upd (upd (upd (upd (upd (upd (upd (upd (upd (upd (upd H a0 (HO.lst [V.int 7])) a1 (HO.lst [V.int 2, V.int 3])) a2 (HO.lst [V.int 1])) a3 (HO.lst [V.int 4, V.int 4, V.int 5])) a4 (HO.lst [V.int 1, V.int 2])) a5 (HO.lst [V.int 60])) a6 (HO.lst [V.int 5, V.int 1, V.int 1])) a7 (HO.lst [V.int 3, V.int 3])) a8 (HO.lst [V.int 28, V.int 28, V.int 4])) a9 (HO.lst [V.int 2, V.int 1, V.int 2, V.int 1])) b (HO.lst [V.ref a0, V.ref a1, V.ref a2, V.ref a3, V.ref a4, V.ref a5, V.ref a6, V.ref a7, V.ref a8, V.ref a9]) = H1 at L0 L1 L2 L3 L4 L5 L6 L7 L8 L9 t0 Lb ⊢
    have all : ∀ v, v ∈ ([V.ref a0, V.ref a1, V.ref a2, V.ref a3, V.ref a4, V.ref a5, V.ref a6, V.ref a7, V.ref a8, V.ref a9] : List V) → ∃ (a : Addr) (ls : List Int), v = .ref a ∧ H1 a = some (.lst (ls.map V.int)) ∧ a ≠ p ∧ Good ls := fun v hv => by
      simp only [List.mem_cons, List.not_mem_nil, or_false] at hv
      rcases hv with rfl | rfl | rfl | rfl | rfl | rfl | rfl | rfl | rfl | rfl
      · exact ⟨a0, [7], rfl, L0, Ne.symm m0, good_of (by decide)⟩
      · exact ⟨a1, [2, 3], rfl, L1, Ne.symm m1, good_of (by decide)⟩
      · exact ⟨a2, [1], rfl, L2, Ne.symm m2, good_of (by decide)⟩
      · exact ⟨a3, [4, 4, 5], rfl, L3, Ne.symm m3, good_of (by decide)⟩
      · exact ⟨a4, [1, 2], rfl, L4, Ne.symm m4, good_of (by decide)⟩
      · exact ⟨a5, [60], rfl, L5, Ne.symm m5, good_of (by decide)⟩
      · exact ⟨a6, [5, 1, 1], rfl, L6, Ne.symm m6, good_of (by decide)⟩
      · exact ⟨a7, [3, 3], rfl, L7, Ne.symm m7, good_of (by decide)⟩
      · exact ⟨a8, [28, 28, 4], rfl, L8, Ne.symm m8, good_of (by decide)⟩
      · exact ⟨a9, [2, 1, 2, 1], rfl, L9, Ne.symm m9, good_of (by decide)⟩
    clear L0 L1 L2 L3 L4 L5 L6 L7 L8 L9 m0 m1 m2 m3 m4 m5 m6 m7 m8 m9 u1 u2 u3 u4 u5 u6 u7 u8 u9 u10 t1 t2 t3 t4 t5 t6 t7 t8 t9 t10
    refine ⟨_, rfl, p, l, N, 3, rfl, pen.same t0, by decide, log_small (by decide) (by decide), by omega, fun r H2 r0 r1 sb pen1 => ⟨_, _, rfl, rfl, _, rfl, ?_⟩⟩
    refine ite2 (fun hk => ?_) (fun hk => ?_)
    · refine ⟨_, rfl, _, rfl, p, l, b, N + 1, _, rfl, pen1, by omega, sb _ _ (Ne.symm mb) Lb, Ne.symm mb, (by show 0 < 10; decide), (by show 10 ≤ 1000; decide), fun i v H3 hi sb2 pen2 => ?_⟩
      obtain ⟨a, ls, rfl, hL, nap, g⟩ := all v (List.mem_of_getElem? hi)
      exact k a ls H3 ((Same.but t0).trans (sb.trans sb2)) (pen2.le (by omega)) (sb2 _ _ nap (sb _ _ nap hL)) nap g
    · refine ⟨_, rfl, p, l, N + 1, 12, rfl, pen1, by decide, log_small (by decide) (by decide), by omega, fun r2 H3 q0 q1 sb2 pen2 => ⟨_, _, rfl, rfl, _, rfl, by omega, by omega, fun Dd hD => ?_⟩⟩
      obtain ⟨py, hpy⟩ := pen2.lst
      have nD : p ≠ Dd := ne_of_none hpy hD
      have sb3 : SameBut p H H3 := (Same.but t0).trans (sb.trans sb2)
      refine lc_range (lo := 0) (n := (1 + r2).toNat) (fun i H' => ∃ acc : List Int, H' Dd = some (.lst (acc.map V.int)) ∧ acc.length = i ∧ (∀ l ∈ acc, 1 ≤ l ∧ l ≤ 5) ∧ SameBut p H3 H' ∧ PenAt H' p l (N + 2 + i)) ?_ ?_ ?_
      · exact ⟨[], upd_same, rfl, (fun l hl => absurd hl (by simp)), Same.but (same_new hD), (pen2.same (same_new hD)).le (by omega)⟩
      · rintro i H4 hi ⟨acc, hA, hlen, hin, sb4, pen4⟩
        refine ⟨rfl, ?_⟩
        unfold tYes
        dsimp only
        rw [if_pos rfl]
        refine ⟨_, rfl, p, l, N + 2 + i, 5, rfl, pen4, by decide, log_small (by decide) (by decide), by omega, fun r3 H5 w0 w1 sb5 pen5 => ⟨_, _, rfl, rfl, acc.map V.int, sb5 _ _ (Ne.symm nD) hA, ?_, ?_⟩⟩
        · rw [List.length_map, hlen]
          exact small1000 (by omega)
        · refine ⟨acc ++ [1 + r3], by rw [upd_same, List.map_append]; rfl, by rw [List.length_append, hlen]; rfl, fun l hl => ?_, fun c o nc e => ?_, (pen5.upd pen2 hD).le (by omega)⟩
          · rcases List.mem_append.mp hl with h | h
            · exact hin l h
            · rw [List.mem_singleton.mp h]; omega
          · rw [upd_ne (ne_of_none e hD)]
            exact sb5 _ _ nc (sb4 _ _ nc e)
      · rintro H4 ⟨acc, hA, hlen, hin, sb4, pen4⟩
        refine k Dd acc H4 (sb3.trans sb4) (pen4.le (by omega)) hA (Ne.symm nD) ⟨fun l hl => ⟨(hin l hl).1, by have := (hin l hl).2; omega⟩, by omega, by omega, ?_⟩
        have := sum_five hin
        omega
end
end My
namespace My
open PySem PySem.Spec PyProof.Rows L2
abbrev sStr : Stmt := top 27
abbrev sMov : Stmt := top 28
section
variable {P : Program} {w : World} {K : PySem.W.Frag} {mg : Str → Option Value} {base : Heap} {C fWhole fBetw fDay fChk : Addr}
theorem day_call {σ : L2.St} {H : Hp} {p : Addr} {ls : List Int} {d : Int} {m : Str} {g : List Int → Int → Int} {te : TE} {i : Nat} {Q : VK} (h0 : σ[i]? = some (some (.ref p))) (c : CycAt C H p ls) (hm1 : ¬ m = "_total") (hm2 : ¬ m = "_lengths")
    (hte : ∀ Q' : VK, Q' (.int d) H → te σ H Q') (hd : dayB d = true) (k : ∀ H', Same H H' → CycAt C H' p ls → Q (.int (g ls d)) H') : tMeth C m (spOfDay C g) [] E0 (tVar i) (tCons te tNil) σ H Q := by
  obtain ⟨dx, t, h1, h2⟩ := c.ob
  exact ⟨_, h0, p, dx, _, rfl, h1, flds_no _ _ hm1 hm2, hte _ ⟨p, ls, d, rfl, c, hd, fun H' s => k H' s (c.same s)⟩⟩
/-- a method of Cycle that keeps its promise -/
structure CM (P : Program) (w : World) (K : PySem.W.Frag) (mg : Str → Option Value) (base : Heap) (C : Addr) (m : Str) (g : List Int → Int → Int) (f : Addr) (fd : FuncData) : Prop where
  F : FnOk P w K mg base CX0 4 f fd ["self", "day"] (spOfDay C g)
  b : Binds K fd ["self", "day"] []
  m : Meth K C m f
/-- a property -/
structure CP (P : Program) (w : World) (K : PySem.W.Frag) (mg : Str → Option Value) (base : Heap) (C : Addr) (x : Str) (sp : Sp) (pr f : Addr) (fd : FuncData) : Prop where
  F : FnOk P w K mg base CX0 1 f fd ["self"] sp
  b : Binds K fd ["self"] []
  p : PropOf K C x pr f
structure CL (P : Program) (w : World) (K : PySem.W.Frag) (mg : Str → Option Value) (base : Heap) (C f : Addr) (fd : FuncData) : Prop where
  F : FnOk P w K mg base CX0 1 f fd ["self"] (spLen C)
  b : Binds K fd ["self"] []
  at_ : PySem.W.findIn K (.ref C) "__len__" = some (some (.ref f))
  fn : PySem.W.isFn K (.ref f) = true
variable {fB fF fL fP fN fGl fGt pGl pGt fLn : Addr} {dB dF dL dP dN dGl dGt dLn : FuncData}
theorem dB_near {d b : Int} (h : b.natAbs ≤ 10 ^ 59) (h1 : b - 10 ^ 40 ≤ d) (h2 : d ≤ b + 10 ^ 40) : dayB d = true := by
  unfold dayB
  have e : (10 : Int) ^ 60 = 1000000000000000000000000000000000000000000000000000000000000 := by decide
  have e2 : (10 : Nat) ^ 59 = 100000000000000000000000000000000000000000000000000000000000 := by decide
  have e3 : (10 : Int) ^ 40 = 10000000000000000000000000000000000000000 := by decide
  rw [e2] at h
  rw [e3] at h1 h2
  rw [e, Bool.and_eq_true, decide_eq_true_eq, decide_eq_true_eq]
  omega
theorem iteNe {A B : Prop} {x y : Int} (h : x = y) (k : B) : if (!decide (V.int x = V.int y)) = true then A else B := by
  rw [decide_eq_true (by rw [h])]
  exact iteF k
def spStr (C : Addr) : Sp := fun vs H Q _ => ∃ (p : Addr) (ls : List Int) (b n : Int), vs = [.ref p, .int b, .int n] ∧ CycAt C H p ls ∧ b.natAbs ≤ 10 ^ 59 ∧ 0 ≤ n ∧ n ≤ 1000 ∧ ∀ H', Same H H' → Q (.bl true) H'
theorem scStr : FnScope ["_law_made", "_law_begin", "_law_many", "_law_day"] ["_law_made", "_law_begin", "_law_many"] (defScope sStr) := ⟨rfl, rfl, rfl, by decide +kernel, rfl, by decide +kernel, by decide +kernel⟩
set_option maxHeartbeats 8000000 in
theorem ok_str {f : Addr} {fd : FuncData} (F : Fun K "_law_stretch_right" "_law_stretch_right" sStr f fd) (T : Txt K mg C fWhole fBetw fDay fChk) (MB : CM P w K mg base C "block" blkD fB dB) (MF : CM P w K mg base C "first" fstD fF dF) (ML : CM P w K mg base C "last" lastD fL dL)
    (MP : CM P w K mg base C "place" plcD fP dP) (MN : CM P w K mg base C "length" lenD fN dN) (GL : CP P w K mg base C "lengths" (spGetL C) pGl fGl dGl) (LN : CL P w K mg base C fLn dLn) : FnOk P w K mg base CX0 5 f fd ["_law_made", "_law_begin", "_law_many"] (spStr C) := by
  refine F.ok scStr (fun vs H Q E h => ?_) (fun cdv A outer s H vs Q E hr h => ?_)
  · obtain ⟨p, ls, b, n, rfl, _⟩ := h
    rfl
  · obtain ⟨p, ls, b, n, rfl, c, hb, hn0, hn1, k⟩ := h
    have o := c.ok.ok
    have hr1 : Room 2 _ := hr.mono (by decide)
    refine ⟨_, pss_cons (ps_for PassesOwn.never rfl (pi_range2W (by rfl) T.zRange (pa_cons (pv 1) (pa_cons (pe_op op_add (pv 1) (pv 2)) pa_nil))) (pg_name (i := 3) scStr.nd rfl (.inl rfl))
        (pss_cons (ps_if (pt_cmpR op_eq (pe_meth (pv 0) T.cl MF.m MF.F hr MF.b .nil pass0 (pa_cons (pv 3) pa_nil)) (pv 3) (nomark _))
          (pss_one (ps_if (PW.pt (pw_or (pt_cmpR op_ne (pe_meth (pv 0) T.cl MB.m MB.F hr MB.b .nil pass0 (pa_cons (pv 3) pa_nil)) (pe_op op_add (pe_meth (pv 0) T.cl MB.m MB.F hr MB.b .nil pass0 (pa_cons (pe_op op_sub (pv 3) pe_int) pa_nil)) pe_int) (nomark _))
            (pw_or (pt_cmpR op_ne (pe_meth (pv 0) T.cl ML.m ML.F hr ML.b .nil pass0 (pa_cons (pe_op op_sub (pv 3) pe_int) pa_nil)) (pe_op op_sub (pv 3) pe_int) (nomark _))
              (pw_or1 (pt_cmpR op_ne (pe_meth (pv 0) T.cl MP.m MP.F hr MP.b .nil pass0 (pa_cons (pv 3) pa_nil)) pe_int (nomark _)))))) pss_never pss_nil))
          (pss_one (ps_if (PW.pt (pw_or (pt_cmpR op_ne (pe_meth (pv 0) T.cl MB.m MB.F hr MB.b .nil pass0 (pa_cons (pv 3) pa_nil)) (pe_meth (pv 0) T.cl MB.m MB.F hr MB.b .nil pass0 (pa_cons (pe_op op_sub (pv 3) pe_int) pa_nil)) (nomark _))
              (pw_or1 (pt_cmpR op_ne (pe_meth (pv 0) T.cl MF.m MF.F hr MF.b .nil pass0 (pa_cons (pv 3) pa_nil)) (pe_meth (pv 0) T.cl MF.m MF.F hr MF.b .nil pass0 (pa_cons (pe_op op_sub (pv 3) pe_int) pa_nil)) (nomark _))))) pss_never pss_nil)))
        (pss_cons (ps_if (PW.pt (pw_or (pt_cmpR op_ne (pe_op op_add (pe_op op_sub (pe_meth (pv 0) T.cl ML.m ML.F hr ML.b .nil pass0 (pa_cons (pv 3) pa_nil)) (pe_meth (pv 0) T.cl MF.m MF.F hr MF.b .nil pass0 (pa_cons (pv 3) pa_nil))) pe_int) (pe_meth (pv 0) T.cl MN.m MN.F hr MN.b .nil pass0 (pa_cons (pv 3) pa_nil)) (nomark _))
              (pw_or1 (pt_cmpR op_ne (pe_op op_add (pe_meth (pv 0) T.cl MF.m MF.F hr MF.b .nil pass0 (pa_cons (pv 3) pa_nil)) (pe_meth (pv 0) T.cl MP.m MP.F hr MP.b .nil pass0 (pa_cons (pv 3) pa_nil))) (pv 3) (nomark _))))) pss_never pss_nil)
        (pss_one (ps_if (pt_cmpR op_ne (pe_meth (pv 0) T.cl MN.m MN.F hr MN.b .nil pass0 (pa_cons (pv 3) pa_nil))
            (pe_ix ix_tup (pe_prop (pv 0) T.cl GL.p GL.F hr1 GL.b .nil pass0 rfl) (pe_op op_mod (pe_callTy call_int1 (by rfl) T.zInt (by decide +kernel) (pa_cons (pe_meth (pv 0) T.cl MB.m MB.F hr MB.b .nil pass0 (pa_cons (pv 3) pa_nil)) pa_nil))
              (pe_callB (call_lenO LN.at_ LN.fn (LN.F.raw LN.b .nil) hr1 pass0) (by rfl) T.zLen PySem.boot_len (pa_cons (pv 0) pa_nil))) (fun _ _ => rfl)) (nomark _)) pss_never pss_nil)))))
      (pss_one (ps_ret pe_bl)), ?_⟩
    refine ⟨_, rfl, _, rfl, _, rfl, _, _, rfl, rfl, b, b + n, rfl, for_range (lo := b) (n := (b + n - b).toNat) (fun i σ H' => ∃ v : Option V, σ = [some (.ref p), some (.int b), some (.int n), v] ∧ Same H H') ⟨none, rfl, Same.refl H⟩ ?_ ?_⟩
    · rintro i σ H0 hi ⟨v, rfl, s0⟩
      have hd : dayB (b + i) = true := dB_near hb (by omega) (by omega)
      have hd1 : dayB (b + i - 1) = true := dB_near hb (by omega) (by omega)
      have c0 := c.same s0
      generalize (b + (i : Int)) = d at hd hd1
      refine day_call (σ := [some (.ref p), some (.int b), some (.int n), some (.int d)]) rfl c0 (by decide +kernel) (by decide +kernel) (fun Q' q => ⟨_, rfl, q⟩) hd (fun H1 s1 c1 => ?_)
      refine ⟨_, rfl, rfl, _, rfl, ?_⟩
      refine ite2 (fun hk => ?_) (fun hk => ?_)
      have hf : fstD ls d = d := by simpa using hk
      obtain ⟨b1, b2⟩ := at_begin o hf
      refine day_call (σ := [some (.ref p), some (.int b), some (.int n), some (.int d)]) (ls := ls) rfl c1 (by decide +kernel) (by decide +kernel) (fun Q' q => ⟨_, rfl, q⟩) hd (fun H2 s2 c2 => ?_)
      refine day_call (σ := [some (.ref p), some (.int b), some (.int n), some (.int d)]) (ls := ls) rfl c2 (by decide +kernel) (by decide +kernel) (fun Q' q => ⟨_, rfl, _, _, rfl, rfl, q⟩) hd1 (fun H3 s3 c3 => ?_)
      refine ⟨_, _, rfl, rfl, rfl, _, rfl, iteNe b1 ?_⟩
      refine day_call (σ := [some (.ref p), some (.int b), some (.int n), some (.int d)]) (ls := ls) rfl c3 (by decide +kernel) (by decide +kernel) (fun Q' q => ⟨_, rfl, _, _, rfl, rfl, q⟩) hd1 (fun H4 s4 c4 => ?_)
      refine ⟨_, rfl, _, _, rfl, rfl, rfl, _, rfl, iteNe (by unfold lastD; omega) ?_⟩
      refine day_call (σ := [some (.ref p), some (.int b), some (.int n), some (.int d)]) (ls := ls) rfl c4 (by decide +kernel) (by decide +kernel) (fun Q' q => ⟨_, rfl, q⟩) hd (fun H5 s5 c5 => ?_)
      refine ⟨rfl, _, rfl, iteNe (by unfold fstD at hf; omega) ?_⟩
      have sz := (s0.trans (s1.trans (s2.trans (s3.trans (s4.trans s5)))))
      have cz := c5
      clear s1 c1 s2 c2 s3 c3 s4 c4 s5 c5
      generalize H5 = Hz at sz cz ⊢
      rotate_left
      have hf : fstD ls d ≠ d := fun z => hk (by rw [z]; exact decide_eq_true rfl)
      obtain ⟨b1, b2⟩ := at_within o hf
      refine day_call (σ := [some (.ref p), some (.int b), some (.int n), some (.int d)]) (ls := ls) rfl c1 (by decide +kernel) (by decide +kernel) (fun Q' q => ⟨_, rfl, q⟩) hd (fun H2 s2 c2 => ?_)
      refine day_call (σ := [some (.ref p), some (.int b), some (.int n), some (.int d)]) (ls := ls) rfl c2 (by decide +kernel) (by decide +kernel) (fun Q' q => ⟨_, rfl, _, _, rfl, rfl, q⟩) hd1 (fun H3 s3 c3 => ?_)
      refine ⟨rfl, _, rfl, iteNe b1 ?_⟩
      refine day_call (σ := [some (.ref p), some (.int b), some (.int n), some (.int d)]) (ls := ls) rfl c3 (by decide +kernel) (by decide +kernel) (fun Q' q => ⟨_, rfl, q⟩) hd (fun H4 s4 c4 => ?_)
      refine day_call (σ := [some (.ref p), some (.int b), some (.int n), some (.int d)]) (ls := ls) rfl c4 (by decide +kernel) (by decide +kernel) (fun Q' q => ⟨_, rfl, _, _, rfl, rfl, q⟩) hd1 (fun H5 s5 c5 => ?_)
      refine ⟨rfl, _, rfl, iteNe b2 ?_⟩
      have sz := (s0.trans (s1.trans (s2.trans (s3.trans (s4.trans s5)))))
      have cz := c5
      clear s1 c1 s2 c2 s3 c3 s4 c4 s5 c5
      generalize H5 = Hz at sz cz ⊢
      all_goals
        refine day_call (σ := [some (.ref p), some (.int b), some (.int n), some (.int d)]) (ls := ls) rfl cz (by decide +kernel) (by decide +kernel) (fun Q' q => ⟨_, rfl, q⟩) hd (fun H11 s11 c11 => ?_)
        refine day_call (σ := [some (.ref p), some (.int b), some (.int n), some (.int d)]) (ls := ls) rfl c11 (by decide +kernel) (by decide +kernel) (fun Q' q => ⟨_, rfl, q⟩) hd (fun H12 s12 c12 => ?_)
        refine ⟨_, _, rfl, rfl, _, _, rfl, rfl, ?_⟩
        refine day_call (σ := [some (.ref p), some (.int b), some (.int n), some (.int d)]) (ls := ls) rfl c12 (by decide +kernel) (by decide +kernel) (fun Q' q => ⟨_, rfl, q⟩) hd (fun H13 s13 c13 => ?_)
        refine ⟨rfl, _, rfl, iteNe (by unfold lastD; omega) ?_⟩
        refine day_call (σ := [some (.ref p), some (.int b), some (.int n), some (.int d)]) (ls := ls) rfl c13 (by decide +kernel) (by decide +kernel) (fun Q' q => ⟨_, rfl, q⟩) hd (fun H14 s14 c14 => ?_)
        refine day_call (σ := [some (.ref p), some (.int b), some (.int n), some (.int d)]) (ls := ls) rfl c14 (by decide +kernel) (by decide +kernel) (fun Q' q => ⟨_, rfl, q⟩) hd (fun H15 s15 c15 => ?_)
        refine ⟨_, _, rfl, rfl, _, rfl, rfl, _, rfl, iteNe (by unfold fstD; omega) ?_⟩
        refine day_call (σ := [some (.ref p), some (.int b), some (.int n), some (.int d)]) (ls := ls) rfl c15 (by decide +kernel) (by decide +kernel) (fun Q' q => ⟨_, rfl, q⟩) hd (fun H16 s16 c16 => ?_)
        obtain ⟨dx, t0, q1, q2⟩ := c16.ob
        refine ⟨_, rfl, p, dx, _, rfl, q1, p, ls, rfl, c16, fun t ht => ?_⟩
        refine day_call (σ := [some (.ref p), some (.int b), some (.int n), some (.int d)]) (ls := ls) rfl c16 (by decide +kernel) (by decide +kernel) (fun Q' q => ⟨_, rfl, q⟩) hd (fun H17 s17 c17 => ?_)
        obtain ⟨dx', t0', q1', q2'⟩ := c17.ob
        obtain ⟨l0, l1, l2⟩ := len_at o d
        have em : (ls.map V.int)[(blkD ls d % (ls.length : Int)).toNat]? = some (V.int (lenD ls d)) := by rw [List.getElem?_map, l2]; rfl
        have hlen := c.ok.few
        refine .inl ⟨_, rfl, _, rfl, p, dx', _, rfl, q1', p, ls, rfl, c17, _, rfl, by omega, by omega, _, _, rfl, rfl, by have := o.ne; omega, t, _, _, _, rfl, rfl, SqT.of (s17 _ _ ht), at_of (by omega) em, rfl, _, rfl, iteNe rfl ?_⟩
        exact ⟨_, rfl, (sz.trans (s11.trans (s12.trans (s13.trans (s14.trans (s15.trans (s16.trans s17)))))))⟩
    · rintro σ H' ⟨v, rfl, s1⟩
      exact k _ s1
end
end My
namespace My
open PySem PySem.Spec PyProof.Rows L2
section
variable {P : Program} {w : World} {K : PySem.W.Frag} {mg : Str → Option Value} {base : Heap} {C fWhole fBetw fDay fChk : Addr}
variable {fB fF fL fP fN fGl fGt pGl pGt fLn fR fR0 fQ fQ0 : Addr} {dB dF dL dP dN dGl dGt dLn dR dQ : FuncData}
/-- day % cycle, day // cycle -/
structure CR (P : Program) (w : World) (K : PySem.W.Frag) (mg : Str → Option Value) (base : Heap) (C : Addr) (op : Operator) (g : List Int → Int → Int) (f0 f : Addr) (fd : FuncData) : Prop where
  F : FnOk P w K mg base CX0 4 f fd ["self", "other"] (spOfDay C g)
  b : Binds K fd ["self", "other"] []
  r : ROp K C op f0 f
theorem r_call {H : Hp} {p : Addr} {ls : List Int} {d : Int} {g : List Int → Int → Int} {Q : VK} (c : CycAt C H p ls) (hd : dayB d = true) (k : ∀ H', Same H H' → CycAt C H' p ls → Q (.int (g ls d)) H') : rRop C (fun vs H Q E => spOfDay C g (vs ++ []) H Q E) E0 (.int d) (.ref p) H Q := by
  obtain ⟨dx, t, h1, h2⟩ := c.ob
  exact ⟨d, p, dx, _, rfl, rfl, h1, p, ls, d, rfl, c, hd, fun H' s => k H' s (c.same s)⟩
theorem canAll_ints : ∀ ns : List Int, PyData.eqvAll (ns.map PyData.int) (ns.map PyData.int) = true
  | [] => by simp [PyData.eqvAll]
  | n :: r => by simp [PyData.eqvAll, PyData.eqv, canAll_ints r]
theorem eqv_ints {xs ys : List Int} (h : xs = ys) : PyData.eqv (.list (xs.map PyData.int)) (.list (ys.map PyData.int)) = true := by
  subst h
  show PyData.eqvAll _ _ = true
  exact canAll_ints xs
/-- [..] != [..] of ints, alike -/
theorem ne_lists {H : Hp} {a b : Addr} {xs ys : List Int} {Q : VK} (ha : H a = some (.lst (xs.map V.int))) (hb : H b = some (.lst (ys.map V.int))) (h : xs = ys) (k : Q (.bl false) H) : rNeD K (.ref a) (.ref b) H Q := by
  refine ⟨_, _, .lst (SqL.of ha) (dp_ints xs), .lst (SqL.of hb) (dp_ints ys), PySem.W.shaped_ints xs, PySem.W.shaped_ints ys, ?_⟩
  rw [eqv_ints h]
  exact k
def spMov (C : Addr) : Sp := fun vs H Q _ => ∃ (p : Addr) (ls : List Int) (d t : Int), vs = [.ref p, .int d, .int t] ∧ CycAt C H p ls ∧ dayB d = true ∧ dayB (d + t * ls.sum) = true ∧ t.natAbs < 2 ^ 120 ∧ ∀ H', Same H H' → Q (.bl true) H'
theorem scMov : FnScope ["_law_made", "_law_day", "_law_turns", "_law_total", "_law_far"] ["_law_made", "_law_day", "_law_turns"] (defScope sMov) := ⟨rfl, rfl, rfl, by decide +kernel, rfl, by decide +kernel, by decide +kernel⟩
theorem mul_r {i j : Int} (h0 : 0 ≤ j) (h : j ≤ 1000) : CMul i j := by
  have e : (2 : Int) ^ 64 = 18446744073709551616 := by decide
  exact .inr ⟨by rw [e]; omega, by rw [e]; omega⟩
set_option maxHeartbeats 8000000 in
theorem ok_mov {f : Addr} {fd : FuncData} (F : Fun K "_law_moved_right" "_law_moved_right" sMov f fd) (T : Txt K mg C fWhole fBetw fDay fChk) (MB : CM P w K mg base C "block" blkD fB dB) (MF : CM P w K mg base C "first" fstD fF dF)
    (MP : CM P w K mg base C "place" plcD fP dP) (MN : CM P w K mg base C "length" lenD fN dN) (GT : CP P w K mg base C "total" (spGetT C) pGt fGt dGt) (LN : CL P w K mg base C fLn dLn)
    (RM : CR P w K mg base C .Mod remD fR0 fR dR) (RQ : CR P w K mg base C .FloorDiv turnD fQ0 fQ dQ) : FnOk P w K mg base CX0 5 f fd ["_law_made", "_law_day", "_law_turns"] (spMov C) := by
  refine F.ok scMov (fun vs H Q E h => ?_) (fun cdv A outer s H vs Q E hr h => ?_)
  · obtain ⟨p, ls, d, t, rfl, _⟩ := h
    rfl
  · obtain ⟨p, ls, d, t, rfl, c, hd, hd2, ht, k⟩ := h
    have o := c.ok.ok
    have hr1 : Room 2 _ := hr.mono (by decide)
    have T1 := c.ok.sum
    have T0 := o.sum
    have N1 := c.ok.few
    refine ⟨_, pss_cons (ps_set (i := 3) scMov.nd rfl (Or.inl rfl) (pe_prop (pv 0) T.cl GT.p GT.F hr1 GT.b .nil pass0 rfl))
      (pss_cons (ps_set (i := 4) scMov.nd rfl (Or.inl rfl) (pe_op op_add (pv 1) (pe_op op_mul (pv 2) (pv 3))))
      (pss_cons (ps_if (pt_cmpR (op_neD hr.units) (pe_lst (pa_cons (pe_meth (pv 0) T.cl MB.m MB.F hr MB.b .nil pass0 (pa_cons (pv 4) pa_nil)) (pa_cons (pe_meth (pv 0) T.cl MF.m MF.F hr MF.b .nil pass0 (pa_cons (pv 4) pa_nil)) pa_nil)))
          (pe_lst (pa_cons (pe_op op_add (pe_meth (pv 0) T.cl MB.m MB.F hr MB.b .nil pass0 (pa_cons (pv 1) pa_nil)) (pe_op op_mul (pv 2) (pe_callB (call_lenO LN.at_ LN.fn (LN.F.raw LN.b .nil) hr1 pass0) (by rfl) T.zLen PySem.boot_len (pa_cons (pv 0) pa_nil))))
            (pa_cons (pe_op op_add (pe_meth (pv 0) T.cl MF.m MF.F hr MF.b .nil pass0 (pa_cons (pv 1) pa_nil)) (pe_op op_mul (pv 2) (pv 3))) pa_nil))) (nomark _)) pss_never pss_nil)
      (pss_cons (ps_if (pt_cmpR (op_neD hr.units) (pe_lst (pa_cons (pe_meth (pv 0) T.cl MP.m MP.F hr MP.b .nil pass0 (pa_cons (pv 4) pa_nil)) (pa_cons (pe_meth (pv 0) T.cl MN.m MN.F hr MN.b .nil pass0 (pa_cons (pv 4) pa_nil)) (pa_cons (pe_op (op_rmod RM.r (RM.F.raw RM.b .nil) hr pass0) (pv 4) (pv 0)) pa_nil))))
          (pe_lst (pa_cons (pe_meth (pv 0) T.cl MP.m MP.F hr MP.b .nil pass0 (pa_cons (pv 1) pa_nil)) (pa_cons (pe_meth (pv 0) T.cl MN.m MN.F hr MN.b .nil pass0 (pa_cons (pv 1) pa_nil)) (pa_cons (pe_op (op_rmod RM.r (RM.F.raw RM.b .nil) hr pass0) (pv 1) (pv 0)) pa_nil)))) (nomark _)) pss_never pss_nil)
      (pss_one (ps_ret (pe_and (pe_cmpR op_eq (pe_op op_add (pe_op op_mul (pe_op (op_rfdiv RQ.r (RQ.F.raw RQ.b .nil) hr pass0) (pv 1) (pv 0)) (pv 3)) (pe_op (op_rmod RM.r (RM.F.raw RM.b .nil) hr pass0) (pv 1) (pv 0))) (pv 1) (nomark _))
        (pe_one (pe_cmpR op_eq (pe_op (op_rfdiv RQ.r (RQ.F.raw RQ.b .nil) hr pass0) (pv 4) (pv 0)) (pe_op op_add (pe_op (op_rfdiv RQ.r (RQ.F.raw RQ.b .nil) hr pass0) (pv 1) (pv 0)) (pv 2)) (nomark _)))))))))
      , ?_⟩
    obtain ⟨dx, tt, g1, g2⟩ := c.ob
    obtain ⟨m1, m2, m3⟩ := at_moved o d t
    obtain ⟨m4, m5⟩ := rest_moved o d t
    have m6 : plcD ls (d + t * ls.sum) = plcD ls d := by
      have e1 : plcD ls (d + t * ls.sum) = d + t * ls.sum - fstD ls (d + t * ls.sum) := by unfold fstD; omega
      have e2 : plcD ls d = d - fstD ls d := by unfold fstD; omega
      omega
    refine ⟨_, rfl, p, dx, _, rfl, g1, p, ls, rfl, c, ?_⟩
    refine ⟨_, rfl, _, rfl, _, rfl, _, _, rfl, rfl, mul_r (by omega) (by omega), _, _, rfl, rfl, ?_⟩
    show tSeq _ _ _ [some (.ref p), some (.int d), some (.int t), some (.int ls.sum), some (.int (d + t * ls.sum))] H
    generalize hF : d + t * ls.sum = far at hd2 m1 m2 m3 m4 m5 m6 ⊢
    -- the first two lists
    refine day_call (σ := [some (.ref p), some (.int d), some (.int t), some (.int ls.sum), some (.int far)]) (ls := ls) rfl c (by decide +kernel) (by decide +kernel) (fun Q' q => ⟨_, rfl, q⟩) hd2 (fun H1 s1 c1 => ?_)
    refine day_call (σ := [some (.ref p), some (.int d), some (.int t), some (.int ls.sum), some (.int far)]) (ls := ls) rfl c1 (by decide +kernel) (by decide +kernel) (fun Q' q => ⟨_, rfl, q⟩) hd2 (fun H2 s2 c2 => ?_)
    refine ⟨by show 2 ≤ sizeLine; decide, fun qa na => ?_⟩
    have c3 := c2.same (same_new (o := .lst [.int (blkD ls far), .int (fstD ls far)]) na)
    refine day_call (σ := [some (.ref p), some (.int d), some (.int t), some (.int ls.sum), some (.int far)]) (ls := ls) rfl c3 (by decide +kernel) (by decide +kernel) (fun Q' q => ⟨_, rfl, q⟩) hd (fun H4 s4 c4 => ?_)
    obtain ⟨dx4, t4, h41, h42⟩ := c4.ob
    refine ⟨_, rfl, _, rfl, p, dx4, _, rfl, h41, p, ls, rfl, c4, _, rfl, by omega, by omega, _, _, rfl, rfl, mul_r (by omega) (by omega), _, _, rfl, rfl, ?_⟩
    refine day_call (σ := [some (.ref p), some (.int d), some (.int t), some (.int ls.sum), some (.int far)]) (ls := ls) rfl c4 (by decide +kernel) (by decide +kernel) (fun Q' q => ⟨_, rfl, q⟩) hd (fun H5 s5 c5 => ?_)
    refine ⟨_, rfl, _, rfl, _, _, rfl, rfl, mul_r (by omega) (by omega), _, _, rfl, rfl, by show 2 ≤ sizeLine; decide, fun qb nb => ?_⟩
    have sA := (s4.trans s5).trans (same_new (o := .lst [.int (blkD ls d + t * ls.length), .int (fstD ls d + t * ls.sum)]) nb)
    refine ne_lists (xs := [blkD ls far, fstD ls far]) (ys := [blkD ls d + t * ls.length, fstD ls d + t * ls.sum]) (sA _ _ upd_same) upd_same (by rw [m1, m2]) ⟨_, rfl, iteF ?_⟩
    have c6 := c5.same (same_new (o := .lst [.int (blkD ls d + t * ls.length), .int (fstD ls d + t * ls.sum)]) nb)
    have s6 : Same H (upd H5 qb (.lst [.int (blkD ls d + t * ls.length), .int (fstD ls d + t * ls.sum)])) := s1.trans (s2.trans ((same_new na).trans sA))
    show tSeq _ _ _ [some (.ref p), some (.int d), some (.int t), some (.int ls.sum), some (.int far)] (upd H5 qb (.lst [.int (blkD ls d + t * ls.length), .int (fstD ls d + t * ls.sum)]))
    generalize upd H5 qb (.lst [.int (blkD ls d + t * ls.length), .int (fstD ls d + t * ls.sum)]) = H6 at c6 s6 ⊢
    clear sA nb na s1 s2 s4 s5 c1 c2 c3 c4 c5 h41 h42
    -- the other two
    refine day_call (σ := [some (.ref p), some (.int d), some (.int t), some (.int ls.sum), some (.int far)]) (ls := ls) rfl c6 (by decide +kernel) (by decide +kernel) (fun Q' q => ⟨_, rfl, q⟩) hd2 (fun H1 s1 c1 => ?_)
    refine day_call (σ := [some (.ref p), some (.int d), some (.int t), some (.int ls.sum), some (.int far)]) (ls := ls) rfl c1 (by decide +kernel) (by decide +kernel) (fun Q' q => ⟨_, rfl, q⟩) hd2 (fun H2 s2 c2 => ?_)
    refine ⟨_, rfl, _, rfl, r_call c2 hd2 (fun H3 s3 c3 => ?_)⟩
    refine ⟨by show 3 ≤ sizeLine; decide, fun qa na => ?_⟩
    have c4 := c3.same (same_new (o := .lst [.int (plcD ls far), .int (lenD ls far), .int (remD ls far)]) na)
    refine day_call (σ := [some (.ref p), some (.int d), some (.int t), some (.int ls.sum), some (.int far)]) (ls := ls) rfl c4 (by decide +kernel) (by decide +kernel) (fun Q' q => ⟨_, rfl, q⟩) hd (fun H5 s5 c5 => ?_)
    refine day_call (σ := [some (.ref p), some (.int d), some (.int t), some (.int ls.sum), some (.int far)]) (ls := ls) rfl c5 (by decide +kernel) (by decide +kernel) (fun Q' q => ⟨_, rfl, q⟩) hd (fun H6' s6' c6' => ?_)
    refine ⟨_, rfl, _, rfl, r_call c6' hd (fun H7 s7 c7 => ?_)⟩
    refine ⟨by show 3 ≤ sizeLine; decide, fun qb nb => ?_⟩
    have sA := (s5.trans (s6'.trans s7)).trans (same_new (o := .lst [.int (plcD ls d), .int (lenD ls d), .int (remD ls d)]) nb)
    refine ne_lists (xs := [plcD ls far, lenD ls far, remD ls far]) (ys := [plcD ls d, lenD ls d, remD ls d]) (sA _ _ upd_same) upd_same (by rw [m6, m3]; unfold remD; rw [m4]) ⟨_, rfl, iteF ?_⟩
    have c8 := c7.same (same_new (o := .lst [.int (plcD ls d), .int (lenD ls d), .int (remD ls d)]) nb)
    have s8 : Same H (upd H7 qb (.lst [.int (plcD ls d), .int (lenD ls d), .int (remD ls d)])) := s6.trans (s1.trans (s2.trans (s3.trans ((same_new na).trans sA))))
    generalize upd H7 qb (.lst [.int (plcD ls d), .int (lenD ls d), .int (remD ls d)]) = H8 at c8 s8 ⊢
    clear sA nb na s1 s2 s3 s5 s6' s7 c1 c2 c3 c4 c5 c6' c7
    -- the end
    refine ⟨_, rfl, _, rfl, r_call c8 hd (fun H1 s1 c1 => ?_)⟩
    refine ⟨_, rfl, _, _, rfl, rfl, mul_r (by omega) (by omega), ?_⟩
    refine ⟨_, rfl, _, rfl, r_call c1 hd (fun H2 s2 c2 => ?_)⟩
    refine ⟨_, _, rfl, rfl, _, rfl, rfl, _, rfl, ?_⟩
    have e1 : turnD ls d * ls.sum + remD ls d = d := rest_turns ls d
    show if decide (V.int (turnD ls d * ls.sum + remD ls d) = V.int d) = true then _ else _
    rw [decide_eq_true (by rw [e1])]
    refine iteT ?_
    refine ⟨_, rfl, _, rfl, r_call c2 hd2 (fun H3 s3 c3 => ?_)⟩
    refine ⟨_, rfl, _, rfl, r_call c3 hd (fun H4 s4 c4 => ?_)⟩
    refine ⟨_, rfl, _, _, rfl, rfl, rfl, ?_⟩
    have e2 : turnD ls far = turnD ls d + t := m5
    show Q (.bl (decide (V.int (turnD ls far) = V.int (turnD ls d + t)))) H4
    rw [decide_eq_true (by rw [e2])]
    exact k _ (s8.trans (s1.trans (s2.trans (s3.trans s4))))
end
end My
namespace My
open PySem PySem.Spec PyProof.Rows L2
abbrev sLaw : Stmt := top 29
theorem at_zero {ls : List Int} (o : OkL ls) : blkD ls 0 = 0 ∧ fstD ls 0 = 0 := by
  obtain ⟨l, e⟩ : ∃ l, ls[0]? = some l := ⟨_, List.getElem?_eq_getElem o.ne⟩
  have hl := o.pos l (List.mem_of_getElem? e)
  obtain ⟨r1, r2, r3⟩ := at_is o (d := 0) (b := 0) (f := 0) (l := l) ⟨by omega, by omega, 0, 0, by simp, e, by simp⟩
  exact ⟨r1, r2⟩
/-- the cycle at x, its lengths at a, the pen -/
structure Ok9 (C x a p l : Addr) (ls : List Int) (H : Hp) (N : Int) : Prop where
  cy : CycAt C H x ls
  li : H a = some (.lst (ls.map V.int))
  na : a ≠ p
  pen : PenAt H p l N
theorem Ok9.same {C x a p l : Addr} {ls : List Int} {H H' : Hp} {N : Int} (o : Ok9 C x a p l ls H N) (s : Same H H') : Ok9 C x a p l ls H' N := ⟨o.cy.same s, s _ _ o.li, o.na, o.pen.same s⟩
theorem Ok9.but {C x a p l : Addr} {ls : List Int} {H H' : Hp} {N M : Int} (o : Ok9 C x a p l ls H N) (s : SameBut p H H') (q : PenAt H' p l M) : Ok9 C x a p l ls H' M :=
  ⟨let ⟨_, e⟩ := o.pen.lst; o.cy.but s e, s _ _ o.na o.li, o.na, q⟩
theorem Ok9.ne {C x a p l : Addr} {ls : List Int} {H : Hp} {N : Int} (o : Ok9 C x a p l ls H N) {q : Addr} (hq : H q = none) : q ≠ p := let ⟨_, e⟩ := o.pen.lst; Ne.symm (ne_of_none e hq)
theorem good_twice {ls : List Int} (g : Good ls) (h1 : ls.length < 7) (h2 : 2 * ls.sum < 61) : Good (ls ++ ls) :=
  ⟨fun l hl => by
    rcases List.mem_append.mp hl with h | h
    · exact g.pos l h
    · exact g.pos l h, by rw [List.length_append]; have := g.ne; omega, by rw [List.length_append]; omega, by rw [List.sum_append]; omega⟩
section
variable {P : Program} {w : World} {K : PySem.W.Frag} {mg : Str → Option Value} {base : Heap} {C fWhole fBetw fDay fChk : Addr}
variable {fB fF fL fGt pGt fPen fDraw fPick fLens fStr fMov fOf pOf : Addr} {dB dF dL dGt dPen dDraw dPick dLens dStr dMov dOf : FuncData} {mc : Value}
def spLaw (K : PySem.W.Frag) : Sp := fun vs H Q _ => ∃ (a : Addr) (ns : List Int), vs = [.ref a] ∧ SqL K H a (ns.map V.int) ∧ ns.length ≤ 63 ∧ ∀ H', Q (.bl true) H'
theorem scLaw : FnScope ["_law_script", "_law_pen_here", "_law_turn", "_law_lengths_so", "_law_made", "_law_begin", "_law_step", "_law_turns", "_law_twice", "_law_day"] ["_law_script"] (defScope sLaw) := ⟨rfl, rfl, rfl, by decide +kernel, rfl, by decide +kernel, by decide +kernel⟩
set_option maxHeartbeats 16000000 in
theorem ok_law {f : Addr} {fd : FuncData} (F : Fun K "law" "law" sLaw f fd) (T : Txt K mg C fWhole fBetw fDay fChk) (MB : CM P w K mg base C "block" blkD fB dB) (MF : CM P w K mg base C "first" fstD fF dF) (ML : CM P w K mg base C "last" lastD fL dL)
    (GT : CP P w K mg base C "total" (spGetT C) pGt fGt dGt) (DP : Df P w K mg base "_law_pen" 1 fPen dPen ["_law_script"] (spPen K)) (DD : Df P w K mg base "_law_draw" 1 fDraw dDraw ["_law_pen_here", "_law_many"] spDraw)
    (DI : Df P w K mg base "_law_pick" 2 fPick dPick ["_law_pen_here", "_law_some"] spPick) (DL : Df P w K mg base "_law_lengths" 3 fLens dLens ["_law_pen_here"] spLens)
    (DS : Df P w K mg base "_law_stretch_right" 5 fStr dStr ["_law_made", "_law_begin", "_law_many"] (spStr C)) (DM : Df P w K mg base "_law_moved_right" 5 fMov dMov ["_law_made", "_law_day", "_law_turns"] (spMov C))
    (OF : FnOk P w K mg base CX0 6 fOf dOf ["cls", "lengths"] (spOf K C)) (bOf : Binds K dOf ["cls", "lengths"] []) (cr : ClX.CRead K C mc) (cm : ClX.CMet K C mc "of" pOf fOf) : FnOk P w K mg base CX0 7 f fd ["_law_script"] (spLaw K) := by
  refine F.ok scLaw (fun vs H Q E h => ?_) (fun cdv A outer s H vs Q E hr h => ?_)
  · obtain ⟨a, ns, rfl, _⟩ := h
    rfl
  · obtain ⟨a, ns, rfl, hS, hlen, k⟩ := h
    have hr1 : Room 1 _ := hr.mono (by decide)
    have hr2 : Room 2 _ := hr.mono (by decide)
    have hr3 : Room 3 _ := hr.mono (by decide)
    have hr4 : Room 4 _ := hr.mono (by decide)
    have hr5 : Room 5 _ := hr.mono (by decide)
    refine ⟨_, pss_cons (ps_set (i := 1) scLaw.nd rfl (Or.inl rfl) (pe_call DP.F hr1 rfl DP.g DP.kp DP.b .nil pass0 (pa_cons (pv 0) pa_nil)))
      (pss_cons (ps_for PassesOwn.never rfl (pi_range1 rfl T.zRange (pa_cons pe_int pa_nil)) (pg_name (i := 2) scLaw.nd rfl (.inl rfl))
        (pss_cons (ps_set (i := 3) scLaw.nd rfl (Or.inl rfl) (pe_call DL.F hr3 rfl DL.g DL.kp DL.b .nil pass0 (pa_cons (pv 1) pa_nil)))
        (pss_cons (ps_set (i := 4) scLaw.nd rfl (Or.inl rfl) (ClX.pe_cmeth (pe_glob (v := .ref C) rfl T.gCyc rfl) cr cm (OF.raw bOf .nil) hr pass0 (pa_cons (pv 3) pa_nil)))
        (pss_cons (ps_set (i := 5) scLaw.nd rfl (Or.inl rfl) (pe_call DI.F hr2 rfl DI.g DI.kp DI.b .nil pass0 (pa_cons (pv 1) (pa_cons (pe_lst (pa_cons pe_int (pa_cons (pe_un un_neg pe_int) (pa_cons (pe_op op_sub (pe_call DD.F hr1 rfl DD.g DD.kp DD.b .nil pass0 (pa_cons (pv 1) (pa_cons pe_int pa_nil))) pe_int)
          (pa_cons (pe_op op_pow pe_int pe_int) (pa_cons (pe_un un_neg (pe_op op_pow pe_int pe_int)) pa_nil)))))) pa_nil))))
        (pss_cons (ps_if (PW.pt (pw_or (pt_not (pt_val (pe_call DS.F hr5 rfl DS.g DS.kp DS.b .nil pass0 (pa_cons (pv 4) (pa_cons (pv 5) (pa_cons pe_int pa_nil))))))
          (pw_or1 (pt_cmpR (op_neD hr.units) (pe_lst (pa_cons (pe_meth (pv 4) T.cl MB.m MB.F hr4 MB.b .nil pass0 (pa_cons pe_int pa_nil)) (pa_cons (pe_meth (pv 4) T.cl MF.m MF.F hr4 MF.b .nil pass0 (pa_cons pe_int pa_nil)) pa_nil))) (pe_lst (pa_cons pe_int (pa_cons pe_int pa_nil))) (nomark _))))) pss_never pss_nil)
        (pss_cons (ps_for PassesOwn.never rfl (pi_range1 rfl T.zRange (pa_cons pe_int pa_nil)) (pg_name (i := 6) scLaw.nd rfl (.inl rfl))
          (pss_cons (ps_set (i := 7) scLaw.nd rfl (Or.inl rfl) (pe_call DI.F hr2 rfl DI.g DI.kp DI.b .nil pass0 (pa_cons (pv 1) (pa_cons (pe_lst (pa_cons pe_int (pa_cons (pe_un un_neg pe_int) (pa_cons pe_int (pa_cons (pe_un un_neg pe_int) (pa_cons (pe_op op_pow pe_int pe_int) pa_nil)))))) pa_nil))))
          (pss_one (ps_if (pt_not (pt_val (pe_call DM.F hr5 rfl DM.g DM.kp DM.b .nil pass0 (pa_cons (pv 4) (pa_cons (pe_op op_add (pv 5) (pe_call DD.F hr1 rfl DD.g DD.kp DD.b .nil pass0 (pa_cons (pv 1) (pa_cons pe_int pa_nil)))) (pa_cons (pv 7) pa_nil)))))) pss_never pss_nil))))
        (pss_one (ps_if (PW.pt (pw_and (pt_cmpR op_lt (pe_callB call_len_seq (by rfl) T.zLen PySem.boot_len (pa_cons (pv 3) pa_nil)) pe_int (nomark _)) (pw_and1 (pt_cmpR op_lt (pe_op op_mul pe_int (pe_prop (pv 4) T.cl GT.p GT.F hr2 GT.b .nil pass0 rfl)) pe_int (nomark _)))))
          (pss_cons (ps_set (i := 8) scLaw.nd rfl (Or.inl rfl) (ClX.pe_cmeth (pe_glob (v := .ref C) rfl T.gCyc rfl) cr cm (OF.raw bOf .nil) hr pass0 (pa_cons (pe_op op_cat (pv 3) (pv 3)) pa_nil)))
          (pss_one (ps_for PassesOwn.never rfl (pi_range2W (by rfl) T.zRange (pa_cons (pv 5) (pa_cons (pe_op op_add (pv 5) pe_int) pa_nil))) (pg_name (i := 9) scLaw.nd rfl (.inl rfl))
            (pss_one (ps_if (pt_cmpR (op_neD hr.units) (pe_lst (pa_cons (pe_meth (pv 8) T.cl MB.m MB.F hr4 MB.b .nil pass0 (pa_cons (pv 9) pa_nil)) (pa_cons (pe_meth (pv 8) T.cl MF.m MF.F hr4 MF.b .nil pass0 (pa_cons (pv 9) pa_nil)) (pa_cons (pe_meth (pv 8) T.cl ML.m ML.F hr4 ML.b .nil pass0 (pa_cons (pv 9) pa_nil)) pa_nil))))
              (pe_lst (pa_cons (pe_meth (pv 4) T.cl MB.m MB.F hr4 MB.b .nil pass0 (pa_cons (pv 9) pa_nil)) (pa_cons (pe_meth (pv 4) T.cl MF.m MF.F hr4 MF.b .nil pass0 (pa_cons (pv 9) pa_nil)) (pa_cons (pe_meth (pv 4) T.cl ML.m ML.F hr4 ML.b .nil pass0 (pa_cons (pv 9) pa_nil)) pa_nil)))) (nomark _)) pss_never pss_nil)))))
          pss_nil))))))))
      (pss_one (ps_ret pe_bl))), ?_⟩
    refine ⟨_, rfl, a, ns, rfl, hS, hlen, fun p l H1 s1 pen0 => ?_⟩
    refine ⟨6, rfl, by decide, by decide, for_range (lo := 0) (n := 6) (fun i σ H' => ∃ v2 v3 v4 v5 v6 v7 v8 v9 : Option V, σ = [some (.ref a), some (.ref p), v2, v3, v4, v5, v6, v7, v8, v9] ∧ PenAt H' p l (40 * i)) ⟨none, none, none, none, none, none, none, none, rfl, pen0.le (by omega)⟩ ?_ ?_⟩
    · rintro i σ H2 hi ⟨v2, v3, v4, v5, v6, v7, v8, v9, rfl, pen⟩
      -- lengths, the cycle
      refine ⟨_, rfl, p, l, 40 * i, rfl, pen, by omega, fun a3 ls H3 sb3 pen3 hA3 nA3 g => ?_⟩
      refine ⟨rfl, _, rfl, a3, ls, rfl, SqL.of hA3, g, fun x H4 s4 nx c => ?_⟩
      have o4 : Ok9 C x a3 p l ls H4 (40 * i + 20) := ⟨c, s4 _ _ hA3, nA3, pen3.same s4⟩
      have o := g.ok
      -- begin
      refine ⟨_, rfl, _, rfl, _, rfl, p, l, 40 * i + 20, 99, rfl, o4.pen, by decide, log_small (by decide) (by decide), by omega, fun r H5 r0 r1 sb5 pen5 => ⟨_, _, rfl, rfl, _, _, rfl, rfl, ⟨by decide, by decide, by decide⟩, _, _, rfl, rfl, ⟨by decide, by decide, by decide⟩, _, rfl, by show 5 ≤ sizeLine; decide, fun q nq => ?_⟩⟩
      have o5 := (o4.but sb5 pen5).same (same_new (o := .lst [.int 0, .int (-30), .int (r - 50), .int (10 ^ (59 : Int).toNat), .int (-10 ^ (40 : Int).toNat)]) nq)
      refine ⟨p, l, q, 40 * i + 20 + 1, _, rfl, o5.pen, by omega, upd_same, (o4.but sb5 pen5).ne nq, by show 0 < 5; decide, by show 5 ≤ 1000; decide, fun j v H6 hj sb6 pen6 => ?_⟩
      obtain ⟨b, rfl, hb⟩ : ∃ b : Int, v = .int b ∧ b.natAbs ≤ 10 ^ 59 := by
        have hv := List.mem_of_getElem? hj
        have e2 : (10 : Nat) ^ 59 = 100000000000000000000000000000000000000000000000000000000000 := by decide
        rw [e2]
        simp only [List.mem_cons, List.not_mem_nil, or_false] at hv
        rcases hv with rfl | rfl | rfl | rfl | rfl
        · exact ⟨_, rfl, by decide⟩
        · exact ⟨_, rfl, by decide⟩
        · exact ⟨_, rfl, by omega⟩
        · exact ⟨_, rfl, by decide⟩
        · exact ⟨_, rfl, by decide⟩
      have o6 := o5.but sb6 pen6
      clear o5 sb6 pen6 sb5 pen5 hj
      -- the stretch
      refine ⟨_, rfl, _, rfl, x, ls, b, 40, rfl, o6.cy, hb, by decide, by decide, fun H7 s7 => ⟨_, rfl, iteF ?_⟩⟩
      have o7 := o6.same s7
      have h0d : dayB 0 = true := by decide
      show tTest _ [some (.ref a), some (.ref p), some (.int (0 + i)), some (.ref a3), some (.ref x), some (.int b), v6, v7, v8, v9] H7 _
      refine day_call (σ := [some (.ref a), some (.ref p), some (.int (0 + i)), some (.ref a3), some (.ref x), some (.int b), v6, v7, v8, v9]) (ls := ls) rfl o7.cy (by decide +kernel) (by decide +kernel) (fun Q' q => q) h0d (fun H8 s8 c8 => ?_)
      refine day_call (σ := [some (.ref a), some (.ref p), some (.int (0 + i)), some (.ref a3), some (.ref x), some (.int b), v6, v7, v8, v9]) (ls := ls) rfl c8 (by decide +kernel) (by decide +kernel) (fun Q' q => q) h0d (fun H9 s9 c9 => ?_)
      refine ⟨by show 2 ≤ sizeLine; decide, fun qa na => ⟨by show 2 ≤ sizeLine; decide, fun qb nb => ?_⟩⟩
      have sA := same_new (o := .lst [.int 0, .int 0]) nb
      have o9 := (o7.same (s8.trans s9)).same ((same_new (o := .lst [.int (blkD ls 0), .int (fstD ls 0)]) na).trans sA)
      refine ne_lists (xs := [blkD ls 0, fstD ls 0]) (ys := [0, 0]) (sA _ _ upd_same) upd_same (by rw [(at_zero o).1, (at_zero o).2]) ⟨_, rfl, iteF ?_⟩
      generalize upd (upd H9 qa (.lst [.int (blkD ls 0), .int (fstD ls 0)])) qb (.lst [.int 0, .int 0]) = H10 at o9 ⊢
      clear sA na nb s8 s9 c8 c9 s7 o7
      -- four moves
      refine ⟨4, rfl, by decide, by decide, for_range (lo := 0) (n := 4) (fun j σ H' => ∃ v6 v7 v8 v9 : Option V, σ = [some (.ref a), some (.ref p), some (.int (0 + i)), some (.ref a3), some (.ref x), some (.int b), v6, v7, v8, v9] ∧ Ok9 C x a3 p l ls H' (40 * i + 22 + 2 * j)) ⟨v6, v7, v8, v9, rfl, ?_⟩ ?_ ?_⟩
      · exact ⟨o9.cy, o9.li, o9.na, o9.pen.le (by omega)⟩
      · rintro j σ H11 hj ⟨w6, w7, w8, w9, rfl, o11⟩
        refine ⟨_, rfl, _, rfl, _, rfl, _, _, rfl, rfl, ⟨by decide, by decide, by decide⟩, by show 5 ≤ sizeLine; decide, fun q nq => ?_⟩
        have o12 := o11.same (same_new (o := .lst [.int 1, .int (-1), .int 3, .int (-10), .int (10 ^ (30 : Int).toNat)]) nq)
        refine ⟨p, l, q, 40 * i + 22 + 2 * j, _, rfl, o12.pen, by omega, upd_same, o11.ne nq, by show 0 < 5; decide, by show 5 ≤ 1000; decide, fun jj v H13 hjj sb13 pen13 => ?_⟩
        obtain ⟨t, rfl, ht⟩ : ∃ t : Int, v = .int t ∧ (t = 1 ∨ t = -1 ∨ t = 3 ∨ t = -10 ∨ t = 1000000000000000000000000000000) := by
          have hv := List.mem_of_getElem? hjj
          simp only [List.mem_cons, List.not_mem_nil, or_false] at hv
          rcases hv with rfl | rfl | rfl | rfl | rfl
          · exact ⟨_, rfl, .inl rfl⟩
          · exact ⟨_, rfl, .inr (.inl rfl)⟩
          · exact ⟨_, rfl, .inr (.inr (.inl rfl))⟩
          · exact ⟨_, rfl, .inr (.inr (.inr (.inl rfl)))⟩
          · exact ⟨_, rfl, .inr (.inr (.inr (.inr (by decide))))⟩
        have o13 := o12.but sb13 pen13
        refine ⟨_, rfl, _, rfl, _, rfl, p, l, 40 * i + 22 + 2 * j + 1, 200, rfl, o13.pen, by decide, log_small (by decide) (by decide), by omega, fun r' H14 q0 q1 sb14 pen14 => ?_⟩
        have o14 := o13.but sb14 pen14
        have T0 := o.sum
        have T1 := g.sum
        have e40 : (10 : Int) ^ 40 = 10000000000000000000000000000000000000000 := by decide
        refine ⟨_, _, rfl, rfl, _, rfl, x, ls, b + r', t, rfl, o14.cy, dB_near hb (by rw [e40]; omega) (by rw [e40]; omega), ?_, ?_, fun H15 s15 => ⟨_, rfl, iteF ?_⟩⟩
        · refine dB_near hb ?_ ?_
          · rw [e40]; rcases ht with rfl | rfl | rfl | rfl | rfl <;> omega
          · rw [e40]; rcases ht with rfl | rfl | rfl | rfl | rfl <;> omega
        · have e120 : (2 : Nat) ^ 120 = 1329227995784915872903807060280344576 := by decide
          rw [e120]
          rcases ht with rfl | rfl | rfl | rfl | rfl <;> decide
        · have o15 := o14.same s15
          exact ⟨_, _, _, _, rfl, o15.cy, o15.li, o15.na, o15.pen.le (by omega)⟩
      · rintro σ H11 ⟨w6, w7, w8, w9, rfl, o11⟩
        have done : ∀ {H' : Hp}, Ok9 C x a3 p l ls H' (40 * i + 22 + 2 * 4) → PenAt H' p l (40 * ((i + 1 : Nat) : Int)) := fun z => z.pen.le (by omega)
        obtain ⟨dx, tt, g1, g2⟩ := o11.cy.ob
        refine ⟨_, rfl, a3, _, rfl, .inl (SqL.of o11.li), _, _, rfl, rfl, _, rfl, ?_⟩
        rw [List.length_map]
        refine ite2 (fun h6 => ?_) (fun _ => ⟨_, _, _, _, _, _, _, _, rfl, done o11⟩)
        refine ⟨_, rfl, x, dx, _, rfl, g1, x, ls, rfl, o11.cy, _, _, rfl, rfl, mul_r (by have := o.sum; omega) (by have := g.sum; omega), _, _, rfl, rfl, _, rfl, ?_⟩
        refine ite2 (fun h7 => ?_) (fun _ => ⟨_, _, _, _, _, _, _, _, rfl, done o11⟩)
        have g2' : Good (ls ++ ls) := good_twice g (by have := of_decide_eq_true h6; omega) (of_decide_eq_true h7)
        refine ⟨rfl, _, rfl, _, rfl, a3, a3, _, _, rfl, rfl, o11.li, o11.li, ?_, fun q nq => ?_⟩
        · rw [List.length_map]
          have := g.few
          exact Nat.le_trans (show ls.length + ls.length ≤ 24 by omega) (by decide)
        refine ⟨q, ls ++ ls, rfl, SqL.of (by rw [upd_same, List.map_append]), g2', fun y H12 s12 ny cy => ?_⟩
        have o12 := (o11.same (same_new (o := .lst (ls.map V.int ++ ls.map V.int)) nq)).same s12
        refine ⟨_, rfl, _, rfl, _, _, rfl, rfl, b, b + 30, rfl, for_range (lo := b) (n := (b + 30 - b).toNat) (fun j σ H' => ∃ v9 : Option V, σ = [some (.ref a), some (.ref p), some (.int (0 + i)), some (.ref a3), some (.ref x), some (.int b), w6, w7, some (.ref y), v9] ∧ Ok9 C x a3 p l ls H' (40 * i + 22 + 2 * 4) ∧ CycAt C H' y (ls ++ ls)) ⟨w9, rfl, o12, cy⟩ ?_ ?_⟩
        · rintro j σ H13 hj ⟨u9, rfl, o13, cy13⟩
          have e40 : (10 : Int) ^ 40 = 10000000000000000000000000000000000000000 := by decide
          have hd : dayB (b + j) = true := dB_near hb (by rw [e40]; omega) (by rw [e40]; omega)
          generalize (b + (j : Int)) = d at hd
          show tTest _ [some (.ref a), some (.ref p), some (.int (0 + i)), some (.ref a3), some (.ref x), some (.int b), w6, w7, some (.ref y), some (.int d)] H13 _
          refine day_call (σ := [some (.ref a), some (.ref p), some (.int (0 + i)), some (.ref a3), some (.ref x), some (.int b), w6, w7, some (.ref y), some (.int d)]) (ls := ls ++ ls) rfl cy13 (by decide +kernel) (by decide +kernel) (fun Q' q => ⟨_, rfl, q⟩) hd (fun K1 t1 e1 => ?_)
          refine day_call (σ := [some (.ref a), some (.ref p), some (.int (0 + i)), some (.ref a3), some (.ref x), some (.int b), w6, w7, some (.ref y), some (.int d)]) (ls := ls ++ ls) rfl e1 (by decide +kernel) (by decide +kernel) (fun Q' q => ⟨_, rfl, q⟩) hd (fun K2 t2 e2 => ?_)
          refine day_call (σ := [some (.ref a), some (.ref p), some (.int (0 + i)), some (.ref a3), some (.ref x), some (.int b), w6, w7, some (.ref y), some (.int d)]) (ls := ls ++ ls) rfl e2 (by decide +kernel) (by decide +kernel) (fun Q' q => ⟨_, rfl, q⟩) hd (fun K3 t3 e3 => ?_)
          refine ⟨by show 3 ≤ sizeLine; decide, fun qa na => ?_⟩
          have sA := same_new (o := .lst [.int (blkD (ls ++ ls) d), .int (fstD (ls ++ ls) d), .int (lastD (ls ++ ls) d)]) na
          have s14 := (t1.trans (t2.trans t3)).trans sA
          have o14 := o13.same s14
          refine day_call (σ := [some (.ref a), some (.ref p), some (.int (0 + i)), some (.ref a3), some (.ref x), some (.int b), w6, w7, some (.ref y), some (.int d)]) (ls := ls) rfl o14.cy (by decide +kernel) (by decide +kernel) (fun Q' q => ⟨_, rfl, q⟩) hd (fun K4 t4 e4 => ?_)
          refine day_call (σ := [some (.ref a), some (.ref p), some (.int (0 + i)), some (.ref a3), some (.ref x), some (.int b), w6, w7, some (.ref y), some (.int d)]) (ls := ls) rfl e4 (by decide +kernel) (by decide +kernel) (fun Q' q => ⟨_, rfl, q⟩) hd (fun K5 t5 e5 => ?_)
          refine day_call (σ := [some (.ref a), some (.ref p), some (.int (0 + i)), some (.ref a3), some (.ref x), some (.int b), w6, w7, some (.ref y), some (.int d)]) (ls := ls) rfl e5 (by decide +kernel) (by decide +kernel) (fun Q' q => ⟨_, rfl, q⟩) hd (fun K6 t6 e6 => ?_)
          refine ⟨by show 3 ≤ sizeLine; decide, fun qb nb => ?_⟩
          have sB := (t4.trans (t5.trans t6)).trans (same_new (o := .lst [.int (blkD ls d), .int (fstD ls d), .int (lastD ls d)]) nb)
          obtain ⟨m1, m2, m3⟩ := at_twice o d
          refine ne_lists (xs := [blkD (ls ++ ls) d, fstD (ls ++ ls) d, lastD (ls ++ ls) d]) (ys := [blkD ls d, fstD ls d, lastD ls d]) (sB _ _ upd_same) upd_same (by unfold lastD; rw [m1, m2, m3]) ⟨_, rfl, iteF ?_⟩
          exact ⟨_, rfl, o14.same sB, cy13.same (s14.trans sB)⟩
        · rintro σ H13 ⟨u9, rfl, o13, cy13⟩
          exact ⟨_, _, _, _, _, _, _, _, rfl, done o13⟩
    · rintro σ H2 _
      exact k _
end
end My
namespace My
open PySem PySem.Spec PyProof.Rows L2
set_option maxHeartbeats 16000000 in
theorem all_mk {l : PySem.W.OpenLaw} {w : World} {K : PySem.W.Frag} {h : Heap} {mg : Str → Option Value} {fa C : Addr} (X : K.In h) (G : h.Ns mainGlobals mg) (hfa : mg "law" = some (.ref fa))
    {odF1 anF1 : Option Addr} {slF1 : Array (Option Value)} {ocF1 kVF1 dcF1 pmF1 cdF1 ctF1 : Value} {fF1 : Addr}
    {odF2 anF2 : Option Addr} {slF2 : Array (Option Value)} {ocF2 kVF2 dcF2 pmF2 cdF2 ctF2 : Value} {fF2 : Addr}
    {odF3 anF3 : Option Addr} {slF3 : Array (Option Value)} {ocF3 kVF3 dcF3 pmF3 cdF3 ctF3 : Value} {fF3 : Addr}
    {odF4 anF4 : Option Addr} {slF4 : Array (Option Value)} {ocF4 kVF4 dcF4 pmF4 cdF4 ctF4 : Value} {fF4 : Addr}
    {odF5 anF5 : Option Addr} {slF5 : Array (Option Value)} {ocF5 kVF5 dcF5 pmF5 cdF5 ctF5 : Value} {fF5 : Addr}
    {odF6 anF6 : Option Addr} {slF6 : Array (Option Value)} {ocF6 kVF6 dcF6 pmF6 cdF6 ctF6 : Value} {fF6 : Addr}
    {odF7 anF7 : Option Addr} {slF7 : Array (Option Value)} {ocF7 kVF7 dcF7 pmF7 cdF7 ctF7 : Value} {fF7 : Addr}
    {odF8 anF8 : Option Addr} {slF8 : Array (Option Value)} {ocF8 kVF8 dcF8 pmF8 cdF8 ctF8 : Value} {fF8 : Addr}
    {odF9 anF9 : Option Addr} {slF9 : Array (Option Value)} {ocF9 kVF9 dcF9 pmF9 cdF9 ctF9 : Value} {fF9 : Addr}
    {odF10 anF10 : Option Addr} {slF10 : Array (Option Value)} {ocF10 kVF10 dcF10 pmF10 cdF10 ctF10 : Value} {fF10 : Addr}
    {odF11 anF11 : Option Addr} {slF11 : Array (Option Value)} {ocF11 kVF11 dcF11 pmF11 cdF11 ctF11 : Value} {fF11 : Addr}
    {odM1 anM1 : Option Addr} {slM1 : Array (Option Value)} {ocM1 kVM1 dcM1 pmM1 cdM1 ctM1 : Value} {fM1 : Addr}
    {odM2 anM2 : Option Addr} {slM2 : Array (Option Value)} {ocM2 kVM2 dcM2 pmM2 cdM2 ctM2 : Value} {fM2 : Addr}
    {odM3 anM3 : Option Addr} {slM3 : Array (Option Value)} {ocM3 kVM3 dcM3 pmM3 cdM3 ctM3 : Value} {fM3 : Addr}
    {odM4 anM4 : Option Addr} {slM4 : Array (Option Value)} {ocM4 kVM4 dcM4 pmM4 cdM4 ctM4 : Value} {fM4 : Addr}
    {odM5 anM5 : Option Addr} {slM5 : Array (Option Value)} {ocM5 kVM5 dcM5 pmM5 cdM5 ctM5 : Value} {fM5 : Addr}
    {odM6 anM6 : Option Addr} {slM6 : Array (Option Value)} {ocM6 kVM6 dcM6 pmM6 cdM6 ctM6 : Value} {fM6 : Addr}
    {odM7 anM7 : Option Addr} {slM7 : Array (Option Value)} {ocM7 kVM7 dcM7 pmM7 cdM7 ctM7 : Value} {fM7 : Addr}
    {odM8 anM8 : Option Addr} {slM8 : Array (Option Value)} {ocM8 kVM8 dcM8 pmM8 cdM8 ctM8 : Value} {fM8 : Addr}
    {odM9 anM9 : Option Addr} {slM9 : Array (Option Value)} {ocM9 kVM9 dcM9 pmM9 cdM9 ctM9 : Value} {fM9 : Addr}
    {odM10 anM10 : Option Addr} {slM10 : Array (Option Value)} {ocM10 kVM10 dcM10 pmM10 cdM10 ctM10 : Value} {fM10 : Addr}
    {odM11 anM11 : Option Addr} {slM11 : Array (Option Value)} {ocM11 kVM11 dcM11 pmM11 cdM11 ctM11 : Value} {fM11 : Addr}
    {odP1 anP1 : Option Addr} {slP1 : Array (Option Value)} {ocP1 kVP1 dcP1 pmP1 cdP1 ctP1 : Value} {fP1 : Addr}
    {qP1 : Addr} {rsP1 : List Value}
    {odP2 anP2 : Option Addr} {slP2 : Array (Option Value)} {ocP2 kVP2 dcP2 pmP2 cdP2 ctP2 : Value} {fP2 : Addr}
    {qP2 : Addr} {rsP2 : List Value}
    {odO1 anO1 : Option Addr} {slO1 : Array (Option Value)} {ocO1 kVO1 dcO1 pmO1 cdO1 ctO1 : Value} {fO1 : Addr}
    {qO1 : Addr} {rsO1 : List Value}
    {fMod fFdv : Addr} {tkB tkMB tkMT : Tok}
    (aC : PySem.W.nsIn K mainGlobals "Cycle" = some (some (.ref C)))
    (aF1 : PySem.W.nsIn K mainGlobals "is_whole" = some (some (.ref fF1)))
    (lF1 : K.lookup fF1 = some ⟨ocF1, odF1, .func (PySem.W.fnOf "is_whole" "is_whole" (defArgs sWhole) (defBody sWhole) (defScope sWhole) .none kVF1 dcF1 pmF1 anF1 cdF1 ctF1), slF1⟩)
    (cF1 : PySem.W.codeIn K cdF1 "is_whole" = true)
    (kF1 : PySem.W.keepIn K (.ref fF1) = true)
    (aF2 : PySem.W.nsIn K mainGlobals "is_between" = some (some (.ref fF2)))
    (lF2 : K.lookup fF2 = some ⟨ocF2, odF2, .func (PySem.W.fnOf "is_between" "is_between" (defArgs sBetw) (defBody sBetw) (defScope sBetw) .none kVF2 dcF2 pmF2 anF2 cdF2 ctF2), slF2⟩)
    (cF2 : PySem.W.codeIn K cdF2 "is_between" = true)
    (kF2 : PySem.W.keepIn K (.ref fF2) = true)
    (aF3 : PySem.W.nsIn K mainGlobals "is_day" = some (some (.ref fF3)))
    (lF3 : K.lookup fF3 = some ⟨ocF3, odF3, .func (PySem.W.fnOf "is_day" "is_day" (defArgs sDay) (defBody sDay) (defScope sDay) .none kVF3 dcF3 pmF3 anF3 cdF3 ctF3), slF3⟩)
    (cF3 : PySem.W.codeIn K cdF3 "is_day" = true)
    (kF3 : PySem.W.keepIn K (.ref fF3) = true)
    (aF4 : PySem.W.nsIn K mainGlobals "check_lengths" = some (some (.ref fF4)))
    (lF4 : K.lookup fF4 = some ⟨ocF4, odF4, .func (PySem.W.fnOf "check_lengths" "check_lengths" (defArgs sChk) (defBody sChk) (defScope sChk) .none kVF4 dcF4 pmF4 anF4 cdF4 ctF4), slF4⟩)
    (cF4 : PySem.W.codeIn K cdF4 "check_lengths" = true)
    (kF4 : PySem.W.keepIn K (.ref fF4) = true)
    (aF5 : PySem.W.nsIn K mainGlobals "_law_pen" = some (some (.ref fF5)))
    (lF5 : K.lookup fF5 = some ⟨ocF5, odF5, .func (PySem.W.fnOf "_law_pen" "_law_pen" (defArgs sPen) (defBody sPen) (defScope sPen) .none kVF5 dcF5 pmF5 anF5 cdF5 ctF5), slF5⟩)
    (cF5 : PySem.W.codeIn K cdF5 "_law_pen" = true)
    (kF5 : PySem.W.keepIn K (.ref fF5) = true)
    (aF6 : PySem.W.nsIn K mainGlobals "_law_draw" = some (some (.ref fF6)))
    (lF6 : K.lookup fF6 = some ⟨ocF6, odF6, .func (PySem.W.fnOf "_law_draw" "_law_draw" (defArgs sDraw) (defBody sDraw) (defScope sDraw) .none kVF6 dcF6 pmF6 anF6 cdF6 ctF6), slF6⟩)
    (cF6 : PySem.W.codeIn K cdF6 "_law_draw" = true)
    (kF6 : PySem.W.keepIn K (.ref fF6) = true)
    (aF7 : PySem.W.nsIn K mainGlobals "_law_pick" = some (some (.ref fF7)))
    (lF7 : K.lookup fF7 = some ⟨ocF7, odF7, .func (PySem.W.fnOf "_law_pick" "_law_pick" (defArgs sPick) (defBody sPick) (defScope sPick) .none kVF7 dcF7 pmF7 anF7 cdF7 ctF7), slF7⟩)
    (cF7 : PySem.W.codeIn K cdF7 "_law_pick" = true)
    (kF7 : PySem.W.keepIn K (.ref fF7) = true)
    (aF8 : PySem.W.nsIn K mainGlobals "_law_lengths" = some (some (.ref fF8)))
    (lF8 : K.lookup fF8 = some ⟨ocF8, odF8, .func (PySem.W.fnOf "_law_lengths" "_law_lengths" (defArgs sLens) (defBody sLens) (defScope sLens) .none kVF8 dcF8 pmF8 anF8 cdF8 ctF8), slF8⟩)
    (cF8 : PySem.W.codeIn K cdF8 "_law_lengths" = true)
    (kF8 : PySem.W.keepIn K (.ref fF8) = true)
    (aF9 : PySem.W.nsIn K mainGlobals "_law_stretch_right" = some (some (.ref fF9)))
    (lF9 : K.lookup fF9 = some ⟨ocF9, odF9, .func (PySem.W.fnOf "_law_stretch_right" "_law_stretch_right" (defArgs sStr) (defBody sStr) (defScope sStr) .none kVF9 dcF9 pmF9 anF9 cdF9 ctF9), slF9⟩)
    (cF9 : PySem.W.codeIn K cdF9 "_law_stretch_right" = true)
    (kF9 : PySem.W.keepIn K (.ref fF9) = true)
    (aF10 : PySem.W.nsIn K mainGlobals "_law_moved_right" = some (some (.ref fF10)))
    (lF10 : K.lookup fF10 = some ⟨ocF10, odF10, .func (PySem.W.fnOf "_law_moved_right" "_law_moved_right" (defArgs sMov) (defBody sMov) (defScope sMov) .none kVF10 dcF10 pmF10 anF10 cdF10 ctF10), slF10⟩)
    (cF10 : PySem.W.codeIn K cdF10 "_law_moved_right" = true)
    (kF10 : PySem.W.keepIn K (.ref fF10) = true)
    (aF11 : PySem.W.nsIn K mainGlobals "law" = some (some (.ref fF11)))
    (lF11 : K.lookup fF11 = some ⟨ocF11, odF11, .func (PySem.W.fnOf "law" "law" (defArgs sLaw) (defBody sLaw) (defScope sLaw) .none kVF11 dcF11 pmF11 anF11 cdF11 ctF11), slF11⟩)
    (cF11 : PySem.W.codeIn K cdF11 "law" = true)
    (kF11 : PySem.W.keepIn K (.ref fF11) = true)
    (aM1 : PySem.W.findIn K (.ref C) "__init__" = some (some (.ref fM1)))
    (iM1 : PySem.W.isFn K (.ref fM1) = true)
    (lM1 : K.lookup fM1 = some ⟨ocM1, odM1, .func (PySem.W.fnOf "__init__" "Cycle.__init__" (defArgs sInit) (defBody sInit) (defScope sInit) .none kVM1 dcM1 pmM1 anM1 cdM1 ctM1), slM1⟩)
    (cM1 : PySem.W.codeIn K cdM1 "Cycle.__init__" = true)
    (kM1 : PySem.W.keepIn K (.ref fM1) = true)
    (aM2 : PySem.W.findIn K (.ref C) "__len__" = some (some (.ref fM2)))
    (iM2 : PySem.W.isFn K (.ref fM2) = true)
    (lM2 : K.lookup fM2 = some ⟨ocM2, odM2, .func (PySem.W.fnOf "__len__" "Cycle.__len__" (defArgs sLen) (defBody sLen) (defScope sLen) .none kVM2 dcM2 pmM2 anM2 cdM2 ctM2), slM2⟩)
    (cM2 : PySem.W.codeIn K cdM2 "Cycle.__len__" = true)
    (kM2 : PySem.W.keepIn K (.ref fM2) = true)
    (aM3 : PySem.W.findIn K (.ref C) "block" = some (some (.ref fM3)))
    (iM3 : PySem.W.isFn K (.ref fM3) = true)
    (lM3 : K.lookup fM3 = some ⟨ocM3, odM3, .func (PySem.W.fnOf "block" "Cycle.block" (defArgs sBlock) (defBody sBlock) (defScope sBlock) .none kVM3 dcM3 pmM3 anM3 cdM3 ctM3), slM3⟩)
    (cM3 : PySem.W.codeIn K cdM3 "Cycle.block" = true)
    (kM3 : PySem.W.keepIn K (.ref fM3) = true)
    (aM4 : PySem.W.findIn K (.ref C) "first" = some (some (.ref fM4)))
    (iM4 : PySem.W.isFn K (.ref fM4) = true)
    (lM4 : K.lookup fM4 = some ⟨ocM4, odM4, .func (PySem.W.fnOf "first" "Cycle.first" (defArgs sFirst) (defBody sFirst) (defScope sFirst) .none kVM4 dcM4 pmM4 anM4 cdM4 ctM4), slM4⟩)
    (cM4 : PySem.W.codeIn K cdM4 "Cycle.first" = true)
    (kM4 : PySem.W.keepIn K (.ref fM4) = true)
    (aM5 : PySem.W.findIn K (.ref C) "last" = some (some (.ref fM5)))
    (iM5 : PySem.W.isFn K (.ref fM5) = true)
    (lM5 : K.lookup fM5 = some ⟨ocM5, odM5, .func (PySem.W.fnOf "last" "Cycle.last" (defArgs sLast) (defBody sLast) (defScope sLast) .none kVM5 dcM5 pmM5 anM5 cdM5 ctM5), slM5⟩)
    (cM5 : PySem.W.codeIn K cdM5 "Cycle.last" = true)
    (kM5 : PySem.W.keepIn K (.ref fM5) = true)
    (aM6 : PySem.W.findIn K (.ref C) "place" = some (some (.ref fM6)))
    (iM6 : PySem.W.isFn K (.ref fM6) = true)
    (lM6 : K.lookup fM6 = some ⟨ocM6, odM6, .func (PySem.W.fnOf "place" "Cycle.place" (defArgs sPlace) (defBody sPlace) (defScope sPlace) .none kVM6 dcM6 pmM6 anM6 cdM6 ctM6), slM6⟩)
    (cM6 : PySem.W.codeIn K cdM6 "Cycle.place" = true)
    (kM6 : PySem.W.keepIn K (.ref fM6) = true)
    (aM7 : PySem.W.findIn K (.ref C) "length" = some (some (.ref fM7)))
    (iM7 : PySem.W.isFn K (.ref fM7) = true)
    (lM7 : K.lookup fM7 = some ⟨ocM7, odM7, .func (PySem.W.fnOf "length" "Cycle.length" (defArgs sLength) (defBody sLength) (defScope sLength) .none kVM7 dcM7 pmM7 anM7 cdM7 ctM7), slM7⟩)
    (cM7 : PySem.W.codeIn K cdM7 "Cycle.length" = true)
    (kM7 : PySem.W.keepIn K (.ref fM7) = true)
    (aM8 : PySem.W.findIn K (.ref C) "__rmod__" = some (some (.ref fM8)))
    (iM8 : PySem.W.isFn K (.ref fM8) = true)
    (lM8 : K.lookup fM8 = some ⟨ocM8, odM8, .func (PySem.W.fnOf "__rmod__" "Cycle.__rmod__" (defArgs sRmod) (defBody sRmod) (defScope sRmod) .none kVM8 dcM8 pmM8 anM8 cdM8 ctM8), slM8⟩)
    (cM8 : PySem.W.codeIn K cdM8 "Cycle.__rmod__" = true)
    (kM8 : PySem.W.keepIn K (.ref fM8) = true)
    (aM9 : PySem.W.findIn K (.ref C) "__rfloordiv__" = some (some (.ref fM9)))
    (iM9 : PySem.W.isFn K (.ref fM9) = true)
    (lM9 : K.lookup fM9 = some ⟨ocM9, odM9, .func (PySem.W.fnOf "__rfloordiv__" "Cycle.__rfloordiv__" (defArgs sRfdiv) (defBody sRfdiv) (defScope sRfdiv) .none kVM9 dcM9 pmM9 anM9 cdM9 ctM9), slM9⟩)
    (cM9 : PySem.W.codeIn K cdM9 "Cycle.__rfloordiv__" = true)
    (kM9 : PySem.W.keepIn K (.ref fM9) = true)
    (aM10 : PySem.W.findIn K (.ref C) "spot" = some (some (.ref fM10)))
    (iM10 : PySem.W.isFn K (.ref fM10) = true)
    (lM10 : K.lookup fM10 = some ⟨ocM10, odM10, .func (PySem.W.fnOf "spot" "Cycle.spot" (defArgs sSpot) (defBody sSpot) (defScope sSpot) .none kVM10 dcM10 pmM10 anM10 cdM10 ctM10), slM10⟩)
    (cM10 : PySem.W.codeIn K cdM10 "Cycle.spot" = true)
    (kM10 : PySem.W.keepIn K (.ref fM10) = true)
    (aM11 : PySem.W.findIn K (.ref C) "ends" = some (some (.ref fM11)))
    (iM11 : PySem.W.isFn K (.ref fM11) = true)
    (lM11 : K.lookup fM11 = some ⟨ocM11, odM11, .func (PySem.W.fnOf "ends" "Cycle.ends" (defArgs sEnds) (defBody sEnds) (defScope sEnds) .none kVM11 dcM11 pmM11 anM11 cdM11 ctM11), slM11⟩)
    (cM11 : PySem.W.codeIn K cdM11 "Cycle.ends" = true)
    (kM11 : PySem.W.keepIn K (.ref fM11) = true)
    (aP1 : PySem.W.findIn K (.ref C) "lengths" = some (some (.ref qP1)))
    (gP1 : PySem.W.specialIn K (.ref qP1) "__get__" = some (some (.builtin "property.__get__")))
    (tP1 : PySem.W.takesIn K (.ref qP1) = some true)
    (rP1 : PySem.W.recIn K qP1 "property" = some (.ref fP1 :: rsP1))
    (lP1 : K.lookup fP1 = some ⟨ocP1, odP1, .func (PySem.W.fnOf "lengths" "Cycle.lengths" (defArgs sLengths) (defBody sLengths) (defScope sLengths) .none kVP1 dcP1 pmP1 anP1 cdP1 ctP1), slP1⟩)
    (cP1 : PySem.W.codeIn K cdP1 "Cycle.lengths" = true)
    (kP1 : PySem.W.keepIn K (.ref fP1) = true)
    (aP2 : PySem.W.findIn K (.ref C) "total" = some (some (.ref qP2)))
    (gP2 : PySem.W.specialIn K (.ref qP2) "__get__" = some (some (.builtin "property.__get__")))
    (tP2 : PySem.W.takesIn K (.ref qP2) = some true)
    (rP2 : PySem.W.recIn K qP2 "property" = some (.ref fP2 :: rsP2))
    (lP2 : K.lookup fP2 = some ⟨ocP2, odP2, .func (PySem.W.fnOf "total" "Cycle.total" (defArgs sTotal) (defBody sTotal) (defScope sTotal) .none kVP2 dcP2 pmP2 anP2 cdP2 ctP2), slP2⟩)
    (cP2 : PySem.W.codeIn K cdP2 "Cycle.total" = true)
    (kP2 : PySem.W.keepIn K (.ref fP2) = true)
    (rd : PySem.W.readsIn K C (.type "type") = true)
    (ga : PySem.W.specialIn K (.ref C) "__getattribute__" = some (some (.builtin "type.__getattribute__")))
    (aO1 : PySem.W.findCls K (.ref C) (.type "type") "of" = some (.get (.builtin "classmethod.__get__") (.ref qO1) .none (.ref C)))
    (rO1 : PySem.W.recIn K qO1 "classmethod" = some (.ref fO1 :: rsO1))
    (nO1 : PySem.W.fnIn K fO1 = true)
    (lO1 : K.lookup fO1 = some ⟨ocO1, odO1, .func (PySem.W.fnOf "of" "Cycle.of" (defArgs sOf) (defBody sOf) (defScope sOf) .none kVO1 dcO1 pmO1 anO1 cdO1 ctO1), slO1⟩)
    (cO1 : PySem.W.codeIn K cdO1 "Cycle.of" = true)
    (kO1 : PySem.W.keepIn K (.ref fO1) = true)
    (pg : PySem.W.plainGet K C Str.empty = true)
    (hd : PySem.W.hasDictIn K C = true)
    (po : PySem.W.plainOver K C = true)
    (sa : PySem.W.findIn K (.ref C) "__setattr__" = some (some (.builtin "object.__setattr__")))
    (mk : PySem.W.makesIn K C = true)
    (kc : PySem.W.keepIn K (.ref C) = true)
    (nL : PySem.W.findIn K (.ref C) "_lengths" = some none)
    (nT : PySem.W.findIn K (.ref C) "_total" = some none)
    (sf : PySem.W.selfFirst K C = true)
    (om : PySem.W.findIn K (.ref C) "__mod__" = some (some (.ref fMod)))
    (od : PySem.W.findIn K (.ref C) "__floordiv__" = some (some (.ref fFdv)))
    (si : PySem.W.subIn K (.ref C) (.type "int") = some false)
    (bey : PySem.W.nsIn K mainGlobals "BEYOND" = some (some (.int (10 ^ 60) tkB)))
    (mb : PySem.W.nsIn K mainGlobals "MOST_BLOCKS" = some (some (.int 12 tkMB)))
    (mt : PySem.W.nsIn K mainGlobals "MOST_TOTAL" = some (some (.int 60 tkMT)))
    (z_isinstance : PySem.W.nsIn K mainGlobals "isinstance" = some none)
    (z_int : PySem.W.nsIn K mainGlobals "int" = some none)
    (z_bool : PySem.W.nsIn K mainGlobals "bool" = some none)
    (z_enumerate : PySem.W.nsIn K mainGlobals "enumerate" = some none)
    (z_len : PySem.W.nsIn K mainGlobals "len" = some none)
    (z_sum : PySem.W.nsIn K mainGlobals "sum" = some none)
    (z_list : PySem.W.nsIn K mainGlobals "list" = some none)
    (z_tuple : PySem.W.nsIn K mainGlobals "tuple" = some none)
    (z_range : PySem.W.nsIn K mainGlobals "range" = some none)
    (z_abs : PySem.W.nsIn K mainGlobals "abs" = some none)
    : ∃ fd : FuncData, (∀ (s : Shared) (v : Value), BindsTo s fd ⟨[v], []⟩ [("_law_script", v)]) ∧ ∀ base : Heap, K.In base → base.Ns mainGlobals mg → FnOk l.prog w K mg base CX0 7 fa fd ["_law_script"] (spLaw K) := by
  have e := hfa.symm.trans (PySem.W.mg_of X G aF11)
  cases e
  have GF1 := PySem.W.mg_of X G aF1
  have HF1 := fun_mk (st := sWhole) lF1 cF1 kF1
  have GF2 := PySem.W.mg_of X G aF2
  have HF2 := fun_mk (st := sBetw) lF2 cF2 kF2
  have GF3 := PySem.W.mg_of X G aF3
  have HF3 := fun_mk (st := sDay) lF3 cF3 kF3
  have GF4 := PySem.W.mg_of X G aF4
  have HF4 := fun_mk (st := sChk) lF4 cF4 kF4
  have GF5 := PySem.W.mg_of X G aF5
  have HF5 := fun_mk (st := sPen) lF5 cF5 kF5
  have GF6 := PySem.W.mg_of X G aF6
  have HF6 := fun_mk (st := sDraw) lF6 cF6 kF6
  have GF7 := PySem.W.mg_of X G aF7
  have HF7 := fun_mk (st := sPick) lF7 cF7 kF7
  have GF8 := PySem.W.mg_of X G aF8
  have HF8 := fun_mk (st := sLens) lF8 cF8 kF8
  have GF9 := PySem.W.mg_of X G aF9
  have HF9 := fun_mk (st := sStr) lF9 cF9 kF9
  have GF10 := PySem.W.mg_of X G aF10
  have HF10 := fun_mk (st := sMov) lF10 cF10 kF10
  have GF11 := PySem.W.mg_of X G aF11
  have HF11 := fun_mk (st := sLaw) lF11 cF11 kF11
  have HM1 := fun_mk (st := sInit) lM1 cM1 kM1
  have HM2 := fun_mk (st := sLen) lM2 cM2 kM2
  have HM3 := fun_mk (st := sBlock) lM3 cM3 kM3
  have HM4 := fun_mk (st := sFirst) lM4 cM4 kM4
  have HM5 := fun_mk (st := sLast) lM5 cM5 kM5
  have HM6 := fun_mk (st := sPlace) lM6 cM6 kM6
  have HM7 := fun_mk (st := sLength) lM7 cM7 kM7
  have HM8 := fun_mk (st := sRmod) lM8 cM8 kM8
  have HM9 := fun_mk (st := sRfdiv) lM9 cM9 kM9
  have HM10 := fun_mk (st := sSpot) lM10 cM10 kM10
  have HM11 := fun_mk (st := sEnds) lM11 cM11 kM11
  have HP1 := fun_mk (st := sLengths) lP1 cP1 kP1
  have HP2 := fun_mk (st := sTotal) lP2 cP2 kP2
  have HO1 := fun_mk (st := sOf) lO1 cO1 kO1
  have bF1 := HF1.binds (ps := ["value"]) fun _ _ _ _ _ _ us hl => match us, hl with | [_], _ => rfl
  have bF2 := HF2.binds (ps := ["value", "low", "high"]) fun _ _ _ _ _ _ us hl => match us, hl with | [_, _, _], _ => rfl
  have bF3 := HF3.binds (ps := ["value"]) fun _ _ _ _ _ _ us hl => match us, hl with | [_], _ => rfl
  have bF4 := HF4.binds (ps := ["lengths"]) fun _ _ _ _ _ _ us hl => match us, hl with | [_], _ => rfl
  have bF5 := HF5.binds (ps := ["_law_script"]) fun _ _ _ _ _ _ us hl => match us, hl with | [_], _ => rfl
  have bF6 := HF6.binds (ps := ["_law_pen_here", "_law_many"]) fun _ _ _ _ _ _ us hl => match us, hl with | [_, _], _ => rfl
  have bF7 := HF7.binds (ps := ["_law_pen_here", "_law_some"]) fun _ _ _ _ _ _ us hl => match us, hl with | [_, _], _ => rfl
  have bF8 := HF8.binds (ps := ["_law_pen_here"]) fun _ _ _ _ _ _ us hl => match us, hl with | [_], _ => rfl
  have bF9 := HF9.binds (ps := ["_law_made", "_law_begin", "_law_many"]) fun _ _ _ _ _ _ us hl => match us, hl with | [_, _, _], _ => rfl
  have bF10 := HF10.binds (ps := ["_law_made", "_law_day", "_law_turns"]) fun _ _ _ _ _ _ us hl => match us, hl with | [_, _, _], _ => rfl
  have bM2 := HM2.binds (ps := ["self"]) fun _ _ _ _ _ _ us hl => match us, hl with | [_], _ => rfl
  have bM3 := HM3.binds (ps := ["self", "day"]) fun _ _ _ _ _ _ us hl => match us, hl with | [_, _], _ => rfl
  have bM4 := HM4.binds (ps := ["self", "day"]) fun _ _ _ _ _ _ us hl => match us, hl with | [_, _], _ => rfl
  have bM5 := HM5.binds (ps := ["self", "day"]) fun _ _ _ _ _ _ us hl => match us, hl with | [_, _], _ => rfl
  have bM6 := HM6.binds (ps := ["self", "day"]) fun _ _ _ _ _ _ us hl => match us, hl with | [_, _], _ => rfl
  have bM7 := HM7.binds (ps := ["self", "day"]) fun _ _ _ _ _ _ us hl => match us, hl with | [_, _], _ => rfl
  have bM8 := HM8.binds (ps := ["self", "other"]) fun _ _ _ _ _ _ us hl => match us, hl with | [_, _], _ => rfl
  have bM9 := HM9.binds (ps := ["self", "other"]) fun _ _ _ _ _ _ us hl => match us, hl with | [_, _], _ => rfl
  have bM10 := HM10.binds (ps := ["self", "day"]) fun _ _ _ _ _ _ us hl => match us, hl with | [_, _], _ => rfl
  have bM11 := HM11.binds (ps := ["self", "day"]) fun _ _ _ _ _ _ us hl => match us, hl with | [_, _], _ => rfl
  have bP1 := HP1.binds (ps := ["self"]) fun _ _ _ _ _ _ us hl => match us, hl with | [_], _ => rfl
  have bP2 := HP2.binds (ps := ["self"]) fun _ _ _ _ _ _ us hl => match us, hl with | [_], _ => rfl
  have bO1 := HO1.binds (ps := ["cls", "lengths"]) fun _ _ _ _ _ _ us hl => match us, hl with | [_, _], _ => rfl
  have T : Txt K mg C fF1 fF2 fF3 fF4 := ⟨⟨pg, hd, po, sa⟩, nL, nT, PySem.W.mg_of X G aC, GF1, GF2, GF3, GF4, ⟨_, PySem.W.mg_of X G bey⟩, ⟨_, PySem.W.mg_of X G mb⟩, ⟨_, PySem.W.mg_of X G mt⟩, PySem.W.mg_none_of X G z_isinstance, PySem.W.mg_none_of X G z_int, PySem.W.mg_none_of X G z_bool, PySem.W.mg_none_of X G z_enumerate, PySem.W.mg_none_of X G z_len, PySem.W.mg_none_of X G z_sum, PySem.W.mg_none_of X G z_list, PySem.W.mg_none_of X G z_tuple, PySem.W.mg_none_of X G z_range, PySem.W.mg_none_of X G z_abs⟩
  refine ⟨PySem.W.fnOf "law" "law" (defArgs sLaw) (defBody sLaw) (defScope sLaw) .none kVF11 dcF11 pmF11 anF11 cdF11 ctF11, fun s v => .of_eq rfl, fun base _ _ => ?_⟩
  have DD : DayM l.prog w K mg base fF3 _ := ⟨ok_day HF3 T HF1 bF1 HF2 bF2, bF3, HF3.kp⟩
  have SS : SpotM l.prog w K mg base C fM10 _ := ⟨ok_spot HM10 T, bM10, ⟨aM10, iM10, kM10⟩⟩
  have EE : EndsM l.prog w K mg base C fM11 _ := ⟨ok_ends HM11 T SS, bM11, ⟨aM11, iM11, kM11⟩⟩
  have MB : CM l.prog w K mg base C "block" blkD fM3 _ := ⟨ok_block HM3 T SS DD, bM3, ⟨aM3, iM3, kM3⟩⟩
  have MF : CM l.prog w K mg base C "first" fstD fM4 _ := ⟨ok_first HM4 T EE DD, bM4, ⟨aM4, iM4, kM4⟩⟩
  have ML : CM l.prog w K mg base C "last" lastD fM5 _ := ⟨ok_last HM5 T EE DD, bM5, ⟨aM5, iM5, kM5⟩⟩
  have MP : CM l.prog w K mg base C "place" plcD fM6 _ := ⟨ok_place HM6 T SS DD, bM6, ⟨aM6, iM6, kM6⟩⟩
  have MN : CM l.prog w K mg base C "length" lenD fM7 _ := ⟨ok_length HM7 T SS DD, bM7, ⟨aM7, iM7, kM7⟩⟩
  have GL : CP l.prog w K mg base C "lengths" (spGetL C) qP1 fP1 _ := ⟨ok_lengths HP1 T, bP1, ⟨aP1, gP1, tP1, ⟨_, rP1⟩⟩⟩
  have GT : CP l.prog w K mg base C "total" (spGetT C) qP2 fP2 _ := ⟨ok_total HP2 T, bP2, ⟨aP2, gP2, tP2, ⟨_, rP2⟩⟩⟩
  have LN : CL l.prog w K mg base C fM2 _ := ⟨ok_len HM2 T, bM2, aM2, iM2⟩
  have RM : CR l.prog w K mg base C .Mod remD fMod fM8 _ := ⟨ok_rmod HM8 T DD, bM8, ⟨sf, om, aM8, iM8, si⟩⟩
  have RQ : CR l.prog w K mg base C .FloorDiv turnD fFdv fM9 _ := ⟨ok_rfdiv HM9 T DD, bM9, ⟨sf, od, aM9, iM9, si⟩⟩
  have DP : Df l.prog w K mg base "_law_pen" 1 fF5 _ ["_law_script"] _ := ⟨ok_pen HF5 T, bF5, HF5.kp, GF5⟩
  have DW : Df l.prog w K mg base "_law_draw" 1 fF6 _ ["_law_pen_here", "_law_many"] _ := ⟨ok_draw HF6 T, bF6, HF6.kp, GF6⟩
  have DI : Df l.prog w K mg base "_law_pick" 2 fF7 _ ["_law_pen_here", "_law_some"] _ := ⟨ok_pick HF7 T DW, bF7, HF7.kp, GF7⟩
  have DL : Df l.prog w K mg base "_law_lengths" 3 fF8 _ ["_law_pen_here"] _ := ⟨ok_lens HF8 T DW DI, bF8, HF8.kp, GF8⟩
  have DS : Df l.prog w K mg base "_law_stretch_right" 5 fF9 _ ["_law_made", "_law_begin", "_law_many"] _ := ⟨ok_str HF9 T MB MF ML MP MN GL LN, bF9, HF9.kp, GF9⟩
  have DM : Df l.prog w K mg base "_law_moved_right" 5 fF10 _ ["_law_made", "_law_day", "_law_turns"] _ := ⟨ok_mov HF10 T MB MF MP MN GT LN RM RQ, bF10, HF10.kp, GF10⟩
  exact ok_law HF11 T MB MF ML GT DP DW DI DL DS DM (ok_of HO1 T ⟨mk, aM1, iM1, kc⟩ HM1 HF1 bF1 HF2 bF2 HF4 bF4) bO1 ⟨rd, ga⟩ ⟨aO1, ⟨_, rO1⟩, nO1⟩
theorem walk {l : PySem.W.OpenLaw} {q : Program} {loose : List Str} {XP : (Str → Option Value) → Heap → Prop} {YP : World → Heap → Prop} {d : DefRec} {K : Params → PySem.W.Frag} (hn : l.most = some 63) (hdf : d.params.defaults = [])
    (hY : ∀ (w : World) (h : Heap), YP w h → (K w.params).In h)
    (F : ∀ (w : World) (mg : Str → Option Value) (fa : Addr) (h : Heap), (K w.params).In h → h.Ns mainGlobals mg → mg d.name = some (.ref fa) →
      ∃ fd : FuncData, (∀ (s : Shared) (u : Value), BindsTo s fd ⟨[u], []⟩ [("_law_script", u)]) ∧ ∀ base : Heap, (K w.params).In base → base.Ns mainGlobals mg → FnOk l.prog w (K w.params) mg base CX0 7 fa fd ["_law_script"] (spLaw (K w.params))) :
    PySem.W.WalkO q loose XP YP l.row.toRowW d [] (fun f vs => PySem.call f vs) :=
  L2.walk_of (n := 63) (k := 7) (x := "_law_script") (CX := fun _ => CX0) (sp := fun w => spLaw (K w.params)) hn (by decide) hdf ⟨rfl, by decide, by decide⟩ hY F (fun _ _ a ns hl _ hS => ⟨a, ns, rfl, hS, hl, fun _ => rfl⟩) fun _ _ _ _ _ z => z
end My
open PySem PySem.W PyProof.Rows
set_option maxRecDepth 100000 in
set_option maxHeartbeats 0 in
theorem PySem.Challenge.cw_remadedays_k16_whole_days_by_blocks_holds : PySem.Challenge.rw_remadedays_k16_whole_days_by_blocks.Holds := by
  w_on; o_law; k_head; (case hw => w_witness2)
  k_fill
  refine My.walk (l := PySem.Challenge.rw_remadedays_k16_whole_days_by_blocks) rfl rfl (fun w h Y => PySem.W.kIn_of Y) ?F
  case F =>
    intro w mg fa h KX G hmg
    refine' My.all_mk KX G hmg ?aC ?aF1 ?lF1 ?cF1 ?kF1 ?aF2 ?lF2 ?cF2 ?kF2 ?aF3 ?lF3 ?cF3 ?kF3 ?aF4 ?lF4 ?cF4 ?kF4 ?aF5 ?lF5 ?cF5 ?kF5 ?aF6 ?lF6 ?cF6 ?kF6 ?aF7 ?lF7 ?cF7 ?kF7 ?aF8 ?lF8 ?cF8 ?kF8 ?aF9 ?lF9 ?cF9 ?kF9 ?aF10 ?lF10 ?cF10 ?kF10 ?aF11 ?lF11 ?cF11 ?kF11 ?aM1 ?iM1 ?lM1 ?cM1 ?kM1 ?aM2 ?iM2 ?lM2 ?cM2 ?kM2 ?aM3 ?iM3 ?lM3 ?cM3 ?kM3 ?aM4 ?iM4 ?lM4 ?cM4 ?kM4 ?aM5 ?iM5 ?lM5 ?cM5 ?kM5 ?aM6 ?iM6 ?lM6 ?cM6 ?kM6 ?aM7 ?iM7 ?lM7 ?cM7 ?kM7 ?aM8 ?iM8 ?lM8 ?cM8 ?kM8 ?aM9 ?iM9 ?lM9 ?cM9 ?kM9 ?aM10 ?iM10 ?lM10 ?cM10 ?kM10 ?aM11 ?iM11 ?lM11 ?cM11 ?kM11 ?aP1 ?gP1 ?tP1 ?rP1 ?lP1 ?cP1 ?kP1 ?aP2 ?gP2 ?tP2 ?rP2 ?lP2 ?cP2 ?kP2 ?rd ?ga ?aO1 ?rO1 ?nO1 ?lO1 ?cO1 ?kO1 ?pg ?hd ?po ?sa ?mk ?kc ?nL ?nT ?sf ?om ?od ?si ?bey ?mb ?mt ?z_isinstance ?z_int ?z_bool ?z_enumerate ?z_len ?z_sum ?z_list ?z_tuple ?z_range ?z_abs
    (case aC => k_is)
    (case aF1 => k_is)
    (case lF1 => k_is)
    (case cF1 => k_is)
    (case kF1 => k_is)
    (case aF2 => k_is)
    (case lF2 => k_is)
    (case cF2 => k_is)
    (case kF2 => k_is)
    (case aF3 => k_is)
    (case lF3 => k_is)
    (case cF3 => k_is)
    (case kF3 => k_is)
    (case aF4 => k_is)
    (case lF4 => k_is)
    (case cF4 => k_is)
    (case kF4 => k_is)
    (case aF5 => k_is)
    (case lF5 => k_is)
    (case cF5 => k_is)
    (case kF5 => k_is)
    (case aF6 => k_is)
    (case lF6 => k_is)
    (case cF6 => k_is)
    (case kF6 => k_is)
    (case aF7 => k_is)
    (case lF7 => k_is)
    (case cF7 => k_is)
    (case kF7 => k_is)
    (case aF8 => k_is)
    (case lF8 => k_is)
    (case cF8 => k_is)
    (case kF8 => k_is)
    (case aF9 => k_is)
    (case lF9 => k_is)
    (case cF9 => k_is)
    (case kF9 => k_is)
    (case aF10 => k_is)
    (case lF10 => k_is)
    (case cF10 => k_is)
    (case kF10 => k_is)
    (case aF11 => k_is)
    (case lF11 => k_is)
    (case cF11 => k_is)
    (case kF11 => k_is)
    (case aM1 => k_is)
    (case iM1 => k_is)
    (case lM1 => k_is)
    (case cM1 => k_is)
    (case kM1 => k_is)
    (case aM2 => k_is)
    (case iM2 => k_is)
    (case lM2 => k_is)
    (case cM2 => k_is)
    (case kM2 => k_is)
    (case aM3 => k_is)
    (case iM3 => k_is)
    (case lM3 => k_is)
    (case cM3 => k_is)
    (case kM3 => k_is)
    (case aM4 => k_is)
    (case iM4 => k_is)
    (case lM4 => k_is)
    (case cM4 => k_is)
    (case kM4 => k_is)
    (case aM5 => k_is)
    (case iM5 => k_is)
    (case lM5 => k_is)
    (case cM5 => k_is)
    (case kM5 => k_is)
    (case aM6 => k_is)
    (case iM6 => k_is)
    (case lM6 => k_is)
    (case cM6 => k_is)
    (case kM6 => k_is)
    (case aM7 => k_is)
    (case iM7 => k_is)
    (case lM7 => k_is)
    (case cM7 => k_is)
    (case kM7 => k_is)
    (case aM8 => k_is)
    (case iM8 => k_is)
    (case lM8 => k_is)
    (case cM8 => k_is)
    (case kM8 => k_is)
    (case aM9 => k_is)
    (case iM9 => k_is)
    (case lM9 => k_is)
    (case cM9 => k_is)
    (case kM9 => k_is)
    (case aM10 => k_is)
    (case iM10 => k_is)
    (case lM10 => k_is)
    (case cM10 => k_is)
    (case kM10 => k_is)
    (case aM11 => k_is)
    (case iM11 => k_is)
    (case lM11 => k_is)
    (case cM11 => k_is)
    (case kM11 => k_is)
    (case aP1 => k_is)
    (case gP1 => k_is)
    (case tP1 => k_is)
    (case rP1 => k_is)
    (case lP1 => k_is)
    (case cP1 => k_is)
    (case kP1 => k_is)
    (case aP2 => k_is)
    (case gP2 => k_is)
    (case tP2 => k_is)
    (case rP2 => k_is)
    (case lP2 => k_is)
    (case cP2 => k_is)
    (case kP2 => k_is)
    (case rd => k_is)
    (case ga => k_is)
    (case aO1 => k_is)
    (case rO1 => k_is)
    (case nO1 => k_is)
    (case lO1 => k_is)
    (case cO1 => k_is)
    (case kO1 => k_is)
    (case pg => k_is)
    (case hd => k_is)
    (case po => k_is)
    (case sa => k_is)
    (case mk => k_is)
    (case kc => k_is)
    (case nL => k_is)
    (case nT => k_is)
    (case sf => k_is)
    (case om => k_is)
    (case od => k_is)
    (case si => k_is)
    (case bey => k_is)
    (case mb => k_is)
    (case mt => k_is)
    (case z_isinstance => k_is)
    (case z_int => k_is)
    (case z_bool => k_is)
    (case z_enumerate => k_is)
    (case z_len => k_is)
    (case z_sum => k_is)
    (case z_list => k_is)
    (case z_tuple => k_is)
    (case z_range => k_is)
    (case z_abs => k_is)
#print axioms PySem.Challenge.cw_remadedays_k16_whole_days_by_blocks_holds
