import PyProof.Rows.All
import Wide.All
import OpenK.AllK
import Wide.FinOn
import PyProof.TwoTypes
import KE.KOpsOwn
import KE.KTupSum
import KE.KStar
import KE.GoesMore
import HandS.ForMost
import HandS.Star
import HandS.SlotsOwn
import HandS.ClsMeth
import HandS.Conv
import PyProof.ReprRoads
import PyProof.FitsInt
import HandS.EndBits
import HandS.Base
import HandS.Call
import HandS.Exc
import HandS.Lambda
import KE.KExcIs
import HandS.IsInst
import HandS.ExcField
import HandS.ExcIs
import HandS.ExcValue
import PyProof.CallFns
import PyProof.FactsAll.bool_1
import PyProof.FactsAll.bool_2
import HandS.ExcInit
import HandS.WordsExc
import HandS.Property
import KE.OsRunLaw
import HandS.Wide
import PySem.Challenge.RW_remadedays_k14_blocks_of_days
set_option Elab.async false
set_option linter.all false
set_option maxRecDepth 100000
set_option maxHeartbeats 4000000
namespace My
open PySem PySem.Spec PyProof.Rows L2
section
variable {prog : Program} {w : World} {A : Around} {E : Value → Shared → Prop} {s : Shared} {K : PySem.W.Frag} {x C f f0 : Addr} {ox : Obj} {od : Option Obj} {i : Int} {t : Tok}
theorem asInt_inst {M : Model} {Q : Option Int → Shared → Prop} (hx : s.heap.get? x = some ox) (hd : ox.data = .plain) (h : Q none s) : wpAny M A (asInt? (.ref x)) Q E s := by
  unfold asInt?
  refine wpAny_bind (wpAny_load hx ?_)
  rw [hd]
  exact wpAny_pure h
theorem int_mod_ref {M : Model} {Q : Fin → Shared → Prop} (hx : s.heap.get? x = some ox) (hd : ox.data = .plain) (h : Q (.done (.ret .notImplemented)) s) :
    wpAny M A (Builtin.«int.__mod__» ⟨[.int i t, .ref x], []⟩) Q E s := by
  obtain ⟨hp, gg, d, tk, os⟩ := s
  have q1 : ∀ {A' : Around} {E' : Value → Shared → Prop} {Q' : Option Int → Shared → Prop}, Q' none ⟨hp, gg, d, tk, os⟩ → wpAny M A' (asInt? (.ref x)) Q' E' ⟨hp, gg, d, tk, os⟩ := fun q => asInt_inst hx hd q
  wp_walk using q1
  rw [hd]
  wp_walk
  exact h
theorem int_fdiv_ref {M : Model} {Q : Fin → Shared → Prop} (hx : s.heap.get? x = some ox) (hd : ox.data = .plain) (h : Q (.done (.ret .notImplemented)) s) :
    wpAny M A (Builtin.«int.__floordiv__» ⟨[.int i t, .ref x], []⟩) Q E s := by
  obtain ⟨hp, gg, d, tk, os⟩ := s
  have q1 : ∀ {A' : Around} {E' : Value → Shared → Prop} {Q' : Option Int → Shared → Prop}, Q' none ⟨hp, gg, d, tk, os⟩ → wpAny M A' (asInt? (.ref x)) Q' E' ⟨hp, gg, d, tk, os⟩ := fun q => asInt_inst hx hd q
  wp_walk using q1
  rw [hd]
  wp_walk
  exact h
end
/-- x op y: x an int, y an instance of the class at C that has the operator and its reflected form as defs -/
theorem rbin_int {prog : Program} {w : World} {A : Around} {E : Value → Shared → Prop} {s : Shared} {K : PySem.W.Frag} {x C f f0 : Addr} {ox : Obj} {od : Option Obj} {i : Int} {t : Tok}
    {op : Operator} {idl : String} {B : Builtin} {Q : Value → Shared → Prop} (X : K.In s.heap) (I : PySem.W.InstAt s.heap x ox C od) (hc : PySem.W.selfFirst K C = true)
    (hs : PySem.W.findIn K (.ref C) (PySem.dunder op.info.2) = some (some (.ref f0))) (hr : PySem.W.findIn K (.ref C) (dunderR op.info.2) = some (some (.ref f))) (hf : PySem.W.isFn K (.ref f) = true)
    (hsub : PySem.W.subIn K (.ref C) (.type "int") = some false) (slot : Slot "int" (dunder op.info.2) idl) (fills : fillsNumberSlot (.type "int") op.info.2 = pure true) (entry : entryFor table idl = some B) (args : argsOk idl ⟨[.int i t, .ref x], []⟩)
    (body : ∀ {Q' : Fin → Shared → Prop} {E' : Value → Shared → Prop} {A' : Around}, Q' (.done (.ret .notImplemented)) s → wpAny (model prog w) A' (B ⟨[.int i t, .ref x], []⟩) Q' E' s)
    (h : wpAny (model prog w) A (call (.ref f) [.ref x, .int i t]) (PySem.W.CmpBack Q) E s) : wpAny (model prog w) A (binaryOp op (.int i t) (.ref x)) Q E s := by
  obtain ⟨cd, rest, hcd, hm⟩ := PySem.W.ksp_first hc
  rcases hi : op.info with ⟨sym, nm'⟩
  rw [hi] at hs hr slot fills
  dsimp only at hs hr slot fills
  have one := PySem.W.ksp_try X I hr hf h
  have two : ∀ {Q' : Option Value → Shared → Prop}, Q' none s → wpAny (model prog w) A (tryMethod (.int i t) (dunder nm') (.ref x)) Q' E s := fun q =>
    wpAny_tryMethod_declines (typeIs_int s i t) slot (wpAny_call_entry slot (typeIs_int s i t) entry (body ⟨_, rfl, rfl, q⟩) args)
  have L2 : PySem.W.Looks (model prog w) s.heap (typeOf (.ref x)) (.ref C) := I.type
  have L3 : PySem.W.Looks (model prog w) s.heap (fillsNumberSlot (.ref C) nm') true := PySem.W.fills_K X hcd hm hs
  have L5 : PySem.W.Looks (model prog w) s.heap (isSubtype (.ref C) (.type "int")) false := PySem.W.looks_subIn X hsub
  have hne : (Value.type "int" == Value.ref C) = false := Bool.eq_false_iff.mpr fun q => by cases beq_iff_eq.mp q
  simp only [binaryOp, hi]
  refine wpAny_holding (wpAny_bind ?_)
  unfold binaryOp1
  refine wpAny_bind (wpAny_typeOf (typeIs_int s i t) (wpAny_bind (L2.here (wpAny_bind (wpAny_of_eq fills ?_)))))
  simp only [hne, Bool.false_eq_true, if_false]
  refine wpAny_bind (L3.here ?_)
  simp only [Bool.and_self, if_true]
  refine wpAny_bind (L5.here ?_)
  have hpy : numberSlotInPython (.type "int") nm' = pure false := rfl
  simp only [Bool.false_eq_true, if_false, pure_bind, Bool.not_false, Bool.and_self, if_true, hpy]
  refine wpAny_bind (two ?_)
  refine wpAny_bind (wpAny_mono one (fun r s' hr' => ?_) fun _ _ e => e)
  obtain ⟨v, rfl, hq⟩ := hr'
  exact wpAny_bind (wpAny_rule (wpAny_pure (wpAny_pure hq)))
section
variable {X : Cx} {CX : CXT} {n : Nat} {C g g0 : Addr} {sp : Sp} {E : XK}
/-- what the class at C must have for int op instance -/
structure ROp (K : PySem.W.Frag) (C : Addr) (op : Operator) (g0 g : Addr) : Prop where
  sf : PySem.W.selfFirst K C = true
  own : PySem.W.findIn K (.ref C) (PySem.dunder op.info.2) = some (some (.ref g0))
  ref : PySem.W.findIn K (.ref C) (dunderR op.info.2) = some (some (.ref g))
  fn : PySem.W.isFn K (.ref g) = true
  sub : PySem.W.subIn K (.ref C) (.type "int") = some false
def rRop (C : Addr) (sp : Sp) (E : XK) : R2 := fun x y H Q => ∃ i a dx fs, x = .int i ∧ y = .ref a ∧ H a = some (.ins C dx fs) ∧ sp [y, x] H Q E
theorem op_rmod (R : ROp X.K C .Mod g0 g) (F : FnR X.prog X.w X.K X.mg X.base CX n g sp) (hr : Room n X.A) (hx : Passes CX X E) : OpR X (binaryOp .Mod) (rRop C sp E) := by
  intro pins s σ H x y v u Q I rx ry h
  obtain ⟨i, a, dx, fs, rfl, rfl, ha, q⟩ := h
  obtain ⟨t, rfl⟩ := rx
  cases (show u = Value.ref a from ry)
  obtain ⟨mA, O, _⟩ := ins_get I.hok ha
  obtain ⟨od, J, _⟩ := O.look
  refine rbin_int (op := .Mod) (i := i) (t := t) I.kIn J R.sf R.own R.ref R.fn R.sub PySem.F.slot_int_mod PySem.F.fills_int_mod PySem.F.entry_int_mod (PySem.F.args_int_mod_2 _ _) (fun q => int_mod_ref J.at_ rfl q) ?_
  refine wpAny_mono (wpAny_call (run_fnR (us := [.ref a, .int i t]) (vs := [.ref a, .int i]) F hr hx I (.cons rfl (.cons ⟨t, rfl⟩ .nil)) q)) (fun w s' z => ?_) fun _ _ x => x
  obtain ⟨z', H', I', rz, qz⟩ := z
  exact SlX.cmpback rz ⟨z', H', I', rz, qz⟩
theorem op_rfdiv (R : ROp X.K C .FloorDiv g0 g) (F : FnR X.prog X.w X.K X.mg X.base CX n g sp) (hr : Room n X.A) (hx : Passes CX X E) : OpR X (binaryOp .FloorDiv) (rRop C sp E) := by
  intro pins s σ H x y v u Q I rx ry h
  obtain ⟨i, a, dx, fs, rfl, rfl, ha, q⟩ := h
  obtain ⟨t, rfl⟩ := rx
  cases (show u = Value.ref a from ry)
  obtain ⟨mA, O, _⟩ := ins_get I.hok ha
  obtain ⟨od, J, _⟩ := O.look
  refine rbin_int (op := .FloorDiv) (i := i) (t := t) I.kIn J R.sf R.own R.ref R.fn R.sub PySem.F.slot_int_floordiv PySem.F.fills_int_floordiv PySem.F.entry_int_floordiv (PySem.F.args_int_floordiv_2 _ _) (fun q => int_fdiv_ref J.at_ rfl q) ?_
  refine wpAny_mono (wpAny_call (run_fnR (us := [.ref a, .int i t]) (vs := [.ref a, .int i]) F hr hx I (.cons rfl (.cons ⟨t, rfl⟩ .nil)) q)) (fun w s' z => ?_) fun _ _ x => x
  obtain ⟨z', H', I', rz, qz⟩ := z
  exact SlX.cmpback rz ⟨z', H', I', rz, qz⟩
end
section
variable {X : Cx}
def rSumT (K : PySem.W.Frag) : List V → Hp → VK → Prop := fun vs H Q => ∃ (a : Addr) (ns : List Int), vs = [V.ref a] ∧ SqT K H a (ns.map V.int) ∧ Q (.int ns.sum) H
theorem cr_sumT (hc : X.calm = true) : CallR X (.builtin "sum") (rSumT X.K) := by
  intro pins s σ H vs us Q I r h
  obtain ⟨a, ns, rfl, hs, q⟩ := h
  obtain ⟨its, rv, hl, _⟩ := I.tuple hs
  rw [Vals.ref1 r]
  obtain ⟨xs, e⟩ := rv.ints.allInts.items
  have hn : numsOf (intItems xs).toList = ns := by rw [← e]; exact rv.ints.numsOf
  rw [nums_intItems] at hn
  have hl' : s.heap.IsTuple a its.toArray := hl
  rw [e] at hl'
  refine PySem.W.ktm_sumG (I.ok.hd hc) hl' fun h' tk t' hk => ⟨.int _, H, I.kept hk, ⟨_, rfl⟩, ?_⟩
  rw [preSum_eq, List.take_of_length_le (by simp), hn]
  exact q
end
section
variable {X : Cx} {CX : CXT} {k i : Nat} {f C : Addr} {sp : Sp} {E : XK} {x : Str} {e : Expr} {te : TE} {p sp_ pos : Pos}
def tMakeStar (K : PySem.W.Frag) (i : Nat) (C : Addr) (sp : Sp) (E : XK) (te : TE) : TE := fun σ H Q => σ[i]? = some (some (.ref C)) ∧ te σ H fun y H1 => ∃ a xs, y = V.ref a ∧ (SqT K H1 a xs ∨ SqL K H1 a xs) ∧
  ∀ x dx, H1 x = none → H1 dx = none → dx ≠ x → sp (V.ref x :: xs) (upd (upd H1 dx (.own x)) x (.ins C dx [])) (fun v H2 => v = .non ∧ Q (.ref x) H2) E
theorem pe_makeStar (M : Mk X.K C f) (F : FnR X.prog X.w X.K X.mg X.base CX k f sp) (hr : Room (k + 1) X.A) (hN : X.N[i]? = some x) (hv : Vis X.env.scope x) (hx : Passes CX X E) (he : PE X e te)
    (hdb : (x == ("__debug__" : Str)) = false := by decide) (hcd : (x == ("__classdict__" : Str)) = false := by decide)
    (hst : starEach [.Starred e sp_] X.env = [(true, eval e X.env)] := by rfl) : PE X (.Call (.Name x p) [.Starred e sp_] [] pos) (tMakeStar X.K i C sp E te) := by
  refine ⟨fun pins s σ H Q I h => ?_⟩
  obtain ⟨hs, ht⟩ := h
  refine wpAny_Call_Name_kw (thn ((pe_var (pos := p) hN hv hdb hcd).run pins s σ H (fun v H1 => v = .ref C ∧ H1 = H) I ⟨.ref C, hs, rfl, rfl⟩) fun u s1 ⟨v, H1, I1, r1, q1⟩ => ?_)
  obtain ⟨rfl, rfl⟩ := q1
  cases r1
  refine PySem.W.callWith_S (h₀ := X.base) I.ok.mod.kin M.kp (thn (he.run pins s1 σ _ _ I1 ht) fun v s2 ⟨y, H2, I2, ry, a, xs, ey, hxs, q⟩ => ?_) hst
  subst ey
  obtain rfl : v = Value.ref a := ry
  exact StX.star_any I2 hxs fun us s3 I3 rv => ⟨I3.kIn, StX.run_makeR M F hr hx I3 rv q⟩
end
theorem meets_enumerate_newT (l : Addr) (items : Array Value) (n : Nat) (dct : Option Addr) (sl : Array (Option Value)) :
    Meets (Builtin.«enumerate.__new__» ⟨[.type "enumerate", .ref l], []⟩) (fun _ R s => s.heap.get? l = some { cls := .type "tuple", dict := dct, data := .seq items n, slots := sl } ∧
      R (.ok (.ret (.ref (s.heap.push { cls := .type "tuple_iterator", data := .fields #[.ref l, .int 0 0] }).objs.size)))
        { s with heap := (s.heap.push { cls := .type "tuple_iterator", data := .fields #[.ref l, .int 0 0] }).push { cls := .type "enumerate", data := .fields #[.none, .bool false, .ref s.heap.objs.size, rawInt 0, .none, .none] } }) :=
  .of_wp fun prog w A R s h => by
    obtain ⟨hp, g, d, tk, os⟩ := s; obtain ⟨hl, h⟩ := h
    have hsub := sub_enumerate
    have hL : Heap.IsTuple (Shared.heap ⟨hp, g, d, tk, os⟩) l items := ⟨_, hl, rfl, n, rfl⟩
    wp_walk using AutoSeq1.wpAny_loadPart' hl
    refine wpAny_stack_any fun st => wpAny_pure ?_
    split
    · rename_i c _ _ _ _ _
      cases (c == Value.type "enumerate")
      · wp_walk using AutoSeq1.wpAny_loadPart' hl, wpAny_pyIter_tuple hL
        exact ⟨_, rfl, h⟩
      · wp_walk using AutoSeq1.wpAny_loadPart' hl, wpAny_pyIter_tuple hL
        exact ⟨_, rfl, h⟩
    · wp_walk using AutoSeq1.wpAny_loadPart' hl, wpAny_pyIter_tuple hL
      exact ⟨_, rfl, h⟩
theorem call_enumerate_tuple {prog : Program} {w : World} {A : Around} {E : Value → Shared → Prop} {s : Shared} {l : Addr} {items : Array Value} {Q : Value → Shared → Prop} (hL : s.heap.IsTuple l items)
    (h : ∀ h', IsEnum h' (s.heap.objs.size + 1) s.heap.objs.size 0 .none → h'.IsTupleIter s.heap.objs.size l 0 → h'.objs.size = s.heap.objs.size + 2 →
      (∀ b o, s.heap.get? b = some o → h'.get? b = some o) → Q (.ref (s.heap.objs.size + 1)) { s with heap := h' }) :
    wpAny (model prog w) A (call (.type "enumerate") [.ref l]) Q E s := by
  obtain ⟨⟨c, dct, dt, sl⟩, hl, hc, n, hd⟩ := hL
  replace hc : c = .type "tuple" := hc
  replace hd : dt = .seq items n := hd
  subst hc hd
  refine callType_new PySem.F.called_enumerate (by decide) (PySem.F.typeCall_enumerate_1 _) (PySem.F.newCall_enumerate_1 _) (fun obj => PySem.F.args_object_init_2 obj _) PySem.F.entry_enumerate_new
    (meets_enumerate_newT l items n dct sl) ⟨hl, ?_⟩
  have hz : (s.heap.push { cls := .type "tuple_iterator", data := .fields #[.ref l, .int 0 0] }).objs.size = s.heap.objs.size + 1 := Heap.size_push ..
  show _ ∧ _
  rw [hz]
  have he : IsEnum ((s.heap.push { cls := .type "tuple_iterator", data := .fields #[.ref l, .int 0 0] }).push
      { cls := .type "enumerate", data := .fields #[.none, .bool false, .ref s.heap.objs.size, rawInt 0, .none, .none] }) (s.heap.objs.size + 1) s.heap.objs.size 0 .none := by
    have := Heap.get?_push_size (s.heap.push { cls := .type "tuple_iterator", data := .fields #[.ref l, .int 0 0] })
      (o := { cls := .type "enumerate", data := .fields #[.none, .bool false, .ref s.heap.objs.size, rawInt 0, .none, .none] }) rfl
    rw [hz] at this; exact this
  refine ⟨⟨_, he, rfl⟩, h _ he ⟨_, Heap.get?_push_of_some _ (Heap.get?_push_size _ rfl), rfl, rfl⟩ (by rw [Heap.size_push, hz]) fun b o x => Heap.get?_push_of_some _ (Heap.get?_push_of_some _ x)⟩
def IteT (K : PySem.W.Frag) (a : Addr) : It :=
  ⟨fun i H => ∃ (xs : List V) (x : V), SqT K H a xs ∧ xs[i]? = some x, fun i H v H' => ∃ T x, v = .ref T ∧ H T = none ∧ H' = upd H T (.tup [.int (i : Nat), x]) ∧ ∀ xs, SqT K H a xs → xs[i]? = some x, fun i H => ∃ xs : List V, SqT K H a xs ∧ xs.length ≤ i⟩
theorem turn_enumT {P : Program} {w : World} {K : PySem.W.Frag} {elts : List Expr} {kk : Nat} {tpos : Pos} (a e it : Addr) :
    Turn P w K (.Tuple elts kk tpos) (IteT K a) [e, it] e (fun i h => (∃ old, IsEnum h e it ((i : Nat) : Int) old) ∧ h.IsTupleIter it a i ∧ e ≠ it) where
  mem := by simp
  obj := fun i h st b hb => by
    obtain ⟨⟨old, he⟩, ⟨o, ho, hc, hd⟩, _⟩ := st
    have e' : b = e ∨ b = it := by simpa using hb
    rcases e' with z | z
    · rw [z]; exact ⟨_, he, fun v q => nomatch q⟩
    · rw [z]; exact ⟨o, ho, fun v q => by rw [hd] at q; cases q⟩
  keep := fun i h h' st k => let ⟨⟨old, he⟩, hi, hne⟩ := st; ⟨⟨old, k e (by simp) _ he⟩, hi.at fun o q => k it (by simp) o q, hne⟩
  item := by
    intro X hP hw hK hc i pins s σ H E I hf st hg
    subst hP hw hK
    obtain ⟨⟨old, he⟩, hit, hne⟩ := st
    obtain ⟨xs, x, hq, hx⟩ := hg
    obtain ⟨its, rv, p, hz⟩ := I.tuple hq
    obtain ⟨u, hu, ru⟩ := rv.get hx
    have hel : e < s.heap.objs.size := Heap.lt_size he
    have hil : it < s.heap.objs.size := by obtain ⟨_, q, _⟩ := hit; exact Heap.lt_size q
    have hT : s.heap.IsTuple a its.toArray := p
    have hai : a ≠ it := fun z => by
      obtain ⟨o1, h1, c1, _⟩ := hT
      obtain ⟨o2, h2, c2, _⟩ := hit
      rw [z, h2] at h1
      cases h1
      rw [c2] at c1
      exact absurd c1 (by decide)
    have hae : e ≠ a := fun z => by
      obtain ⟨o1, h1, c1, _⟩ := hT
      rw [← z, he] at h1
      cases h1
      exact absurd (show Value.type "enumerate" = Value.type "tuple" from c1) (by decide)
    have D := Draws.tuple (prog := X.prog) (w := X.w) (A := X.A.in1) (I.ok.hd hc) it a hai its.toArray
    have hl := rv.length
    have hlt : i < its.toArray.size := by
      have := (List.getElem?_eq_some_iff.mp hu).1
      simpa using this
    refine wpAny_pyNext_enum_itemD D he ⟨hit, hT⟩ hlt hne (by simp [hne, hae]) fun x' h' tk hP ho hit' hT' hsz hk => ?_
    obtain rfl : x' = u := by
      have z : its.toArray[i]? = some u := by simpa using hu
      exact Option.some.inj (hP.symm.trans z)
    refine ⟨_, rfl, wpAny_letOwnedTupleGo_enum (s := { s with heap := h', toks := tk + 1 }) ho fun h'' he' sb => ?_⟩
    have hT2 : h''.get? s.heap.objs.size = some { cls := .type "tuple", data := .seq #[.int i tk, x'] } := (sb.2 _ (Nat.ne_of_gt hel)).trans hT'
    have new : ObjOk X.prog X.w (upd H s.heap.objs.size (.tup [.int (i : Nat), x])) h'' s.heap.objs.size (.tup [.int (i : Nat), x]) :=
      ⟨by show 2 ≤ sizeLine; decide, [.int i tk, x'], .cons ⟨_, rfl⟩ (.cons ru .nil), ⟨_, hT2, rfl, _, rfl⟩⟩
    have I1 : Inv X pins σ (upd H s.heap.objs.size (.tup [.int (i : Nat), x])) { s with heap := h'', toks := tk + 1 } :=
      I.turnedNew (ch := [e, it]) (fun b ob hb q => (sb.2 b (fun z => hb (by simp [z]))).trans (hk b ob (fun z => hb (by simp [z])) (fun z => hb (by simp [z])) q)) hf (Nat.le_refl _) new
    refine ⟨.ref s.heap.objs.size, _, I1, rfl, ⟨_, x, rfl, I.hok.fresh (Nat.le_refl _), rfl, fun ys hy => by rw [I.tuple_inj hy hq]; exact hx⟩, ⟨⟨x', ?_⟩, hit'.1.at fun o q => (sb.2 it (Ne.symm hne)).trans q, hne⟩, fun b hb => ?_⟩
    · have e1 : ((i + 1 : Nat) : Int) = (i : Int) + 1 := by omega
      rw [e1]; exact he'
    · have hb' : b < s.heap.objs.size := by
        have e' : b = e ∨ b = it := by simpa using hb
        rcases e' with z | z
        · rw [z]; exact hel
        · rw [z]; exact hil
      rw [upd_ne (Nat.ne_of_lt hb')]
      exact (hf b hb).1
  done := by
    intro X hP hw hK hc i pins s σ H E I hf st hg
    subst hP hw hK
    obtain ⟨⟨old, he⟩, hit, hne⟩ := st
    obtain ⟨xs, hq, hx⟩ := hg
    obtain ⟨its, rv, p, hz⟩ := I.tuple hq
    have hT : s.heap.IsTuple a its.toArray := p
    obtain ⟨f0, f1, f2, f3, f4, f5⟩ := hf it (by simp)
    have hl := rv.length
    have hT2 : s.TypeIs (.ref e) "enumerate" := ⟨_, he, rfl⟩
    unfold pyNext
    refine wpAny_bind (wpAny_attempt (wpAny_callSpecial?_slot (name := Str.ofString "__next__") hT2 PySem.F.slot_enumerate_next
      (wpAny_call_entry PySem.F.slot_enumerate_next hT2 PySem.F.entry_enumerate_next ?_ (PySem.F.args_enumerate_next_1 _))))
    show wpAny _ _ (field (.ref e) 2 >>= _) _ _ _
    refine wpAny_bind (wpAny_field he rfl (x := .ref it) rfl ?_)
    refine wpAny_bind (wpAny_nextOf_tuple_end (I.ok.hd hc) hit hT (by simp; omega) fun h' x he' hx' => ?_)
    obtain ⟨o, ho, hc⟩ := hx'
    refine wpAny_bind (wpAny_isInstance (T := "StopIteration") (b := true) ⟨o, ho, hc⟩ isSubtype_stop ?_)
    exact wpAny_pure ⟨rfl, I.turned (t' := s.toks) (fun b o hb q => he' b o hb q) f0 f1 f3 f4 f5⟩
  self := fun A i s Q E st h => let ⟨⟨_, he⟩, _⟩ := st; wpAny_pyIter_enum he h
def iEnumT (K : PySem.W.Frag) (ta : TA) : TI := fun σ H R => ta σ H fun vs H1 => ∃ a xs, vs = [.ref a] ∧ SqT K H1 a xs ∧ R (IteT K a) H1
theorem pi_enumT {X : Cx} {e : Expr} {ta : TA} {p pos tpos : Pos} {elts : List Expr} {kk : Nat} (hg : Gl X "enumerate") (hm : X.mg "enumerate" = none) (ha : PA X [e] ta) (hs : starEach [e] X.env = [(false, eval e X.env)] := by rfl) :
    PI X (.Tuple elts kk tpos) (.Call (.Name "enumerate" p) [e] [] pos) (iEnumT X.K ta) := by
  refine ⟨fun pins s σ H R I h => ?_⟩
  refine Call_ (ld_blt I hg hm boot_enumerate (PyProof.Rows.callWith_type1 (thn (ha.run pos pins s σ H _ I h) fun us s1 ⟨vs, H1, I1, r1, q1⟩ => ?_) hs rfl))
  obtain ⟨a, xs, ex, hq, q⟩ := q1
  subst ex
  cases r1 with
  | cons r rr =>
    cases rr
    cases r
    obtain ⟨its, rv, p', hz⟩ := I1.tuple hq
    refine call_enumerate_tuple (show s1.heap.IsTuple a its.toArray from p') fun h' he hit hsz hk => wpAny_pyIter_enum he ?_
    have I2 : Inv X pins σ H1 { s1 with heap := h' } := I1.kept (t' := s1.toks) hk
    refine ⟨s1.heap.objs.size + 1, [s1.heap.objs.size + 1, s1.heap.objs.size], _, _, H1, rfl, I2, turn_enumT a (s1.heap.objs.size + 1) s1.heap.objs.size, ⟨⟨.none, he⟩, hit, Nat.succ_ne_self _⟩, fun b hb => ?_, q⟩
    have e' : b = s1.heap.objs.size + 1 ∨ b = s1.heap.objs.size := by simpa using hb
    have hle : s1.heap.objs.size ≤ b := by
      rcases e' with z | z
      · rw [z]; exact Nat.le_add_right _ _
      · rw [z]; exact Nat.le_refl _
    exact I1.fpOk hle (I1.hok.fresh hle)
/-- for i, x in enumerate(tuple) -/
theorem for_enumT {K : PySem.W.Frag} {a : Addr} {xs : List V} {g : TG} {tb : TS} {D : Ends} {σ : L2.St} {H : Hp} (Pv : Nat → L2.St → Hp → Prop) (h0 : Pv 0 σ H) (hl : ∀ i σ H, i ≤ xs.length → Pv i σ H → SqT K H a xs)
    (hs : ∀ i x σ H T, xs[i]? = some x → Pv i σ H → H T = none → g (.ref T) σ (upd H T (.tup [.int (i : Nat), x])) fun σ2 H2 => tb { D with nx := Pv (i + 1), ct := Pv (i + 1), bk := D.nx } σ2 H2) (hd : ∀ σ H, Pv xs.length σ H → D.nx σ H) :
    ∃ W : Nat → Nat → L2.St → Hp → Prop, (∃ m, W 0 m σ H) ∧ ∀ i m σ H, W i m σ H →
      ((IteT K a).stop i H ∧ D.nx σ H) ∨ ((IteT K a).go i H ∧ ∃ N : L2.St → Hp → Prop, (∀ σ' H', N σ' H' → ∃ m', m' < m ∧ W (i + 1) m' σ' H') ∧ ∀ x H', (IteT K a).yld i H x H' → g x σ H' fun σ2 H2 => tb { D with nx := N, ct := N, bk := D.nx } σ2 H2) := by
  refine ⟨fun i m σ H => m = xs.length - i ∧ i ≤ xs.length ∧ Pv i σ H, ⟨xs.length, by simp, Nat.zero_le _, h0⟩, ?_⟩
  rintro i m σ H ⟨rfl, hi, p⟩
  have q := hl i σ H hi p
  by_cases hlt : i < xs.length
  · refine .inr ⟨⟨xs, xs[i], q, by simp [hlt]⟩, Pv (i + 1), fun σ' H' p' => ⟨xs.length - (i + 1), by omega, rfl, hlt, p'⟩, fun x H' y => ?_⟩
    obtain ⟨T, x, rfl, hT, rfl, y⟩ := y
    exact hs i x σ H T (y xs q) p hT
  · have e : i = xs.length := by omega
    subst e
    exact .inl ⟨⟨xs, q, Nat.le_refl _⟩, hd σ H p⟩
end My
set_option Elab.async false
set_option linter.all false
set_option maxRecDepth 100000
set_option maxHeartbeats 4000000
namespace My
open PySem PySem.Spec PyProof.Rows L2
section
variable {X : Cx} {CX : CXT} {k : Nat} {f C : Addr} {fd : FuncData} {ps ks : List Str} {sp : Sp} {E : XK} {m : Str} {p pos apos : Pos} {e o fe : Expr} {es : List Expr} {kws : List Keyword} {te ta tf : TE} {t tk : TA}
variable {g : List Value → List Value → List Value} {gV : List V → List V → List V} {pl : Sem Bool} {mc : Value}
def tMethK (C : Addr) (m : Str) (sp : Sp) (gV : List V → List V → List V) (E : XK) (ta : TE) (tk : TA) : TE := fun σ H Q => ta σ H fun x H1 => ∃ a dx fs, x = .ref a ∧ H1 a = some (.ins C dx fs) ∧ fs.lookup m = none ∧ tk σ H1 fun zs H2 => sp (gV [.ref a] zs) H2 Q E
theorem pe_methK (he : PE X o ta) (c : Cls X.K C) (hm : Meth X.K C m f) (F : FnOk X.prog X.w X.K X.mg X.base CX k f fd ps sp) (hr : Room k X.A) (hb : KBinds X.K fd ps ks g gV) (hx : Passes CX X E) (hkw : PK X kws tk)
    (hall : (backToKw pos (keywordEach kws X.env)).all (·.1.isSome) = true := by rfl) (hks : (backToKw pos (keywordEach kws X.env)).filterMap (·.1) = ks := by rfl)
    (hpl : ((backTo pos (starEach [] X.env)).any (·.1) || (backToKw pos (keywordEach kws X.env)).any (·.1.isNone)) = false := by rfl)
    (ht : eval (.Call (.Attribute o m apos) [] kws pos) X.env = (do
      let z ← eval o X.env
      standAt apos.atName
      let (fn, fst) ← holding [z] (getMethod z m pl)
      callWith pos fn fst (backTo pos (starEach [] X.env)) (backToKw pos (keywordEach kws X.env))) := by rfl) :
    PE X (.Call (.Attribute o m apos) [] kws pos) (tMethK C m sp gV E ta tk) := by
  refine ⟨fun pins s σ H Q I h => ?_⟩
  refine PySem.W.methodCall_KW (pl := pl) (thn (he.run pins s σ H _ I h) fun u s1 ⟨x, H1, I1, rx, a, dx, fs, ex, ea, l, q⟩ => ?_) ht
  subst ex
  obtain rfl : u = Value.ref a := rx
  refine getmeth_ok I1 ea c hm l ?_
  refine PySem.W.callWith_KW0 (first := [.ref a]) (h₀ := X.base) I.ok.mod.kin hm.kp hall (thn (hkw.run pos pins s1 σ H1 _ I1 q) fun ws s2 ⟨zs, H2, I2, rz, q2⟩ => ⟨I2.kIn, ?_⟩) hpl
  rw [hks]
  exact run_fnk (us := [.ref a]) (vs := [.ref a]) F hr hb hx I2 (.cons rfl .nil) rz q2
end
end My
set_option Elab.async false
set_option linter.all false
set_option maxRecDepth 100000
set_option maxHeartbeats 4000000
namespace My
open PySem PySem.Spec PyProof.Rows L2
structure FnG (P : Program) (w : World) (K : PySem.W.Frag) (mg : Str → Option Value) (base : Heap) (CX : CXT) (k : Nat) (f : Addr) (fd : FuncData) (ps : List Str) (sp : Sp) : Prop where
  len : ∀ vs H Q E, sp vs H Q E → vs.length = ps.length
  run : ∀ (A : Around) (outer : List Env) (s : Shared) (H : Hp) (args : Args) (us : List Value) (vs : List V) (Q : VK) (E : XK), A.guards = some [] → Room k A → Env0 P w K mg base A outer s H → BindsTo s fd args (ps.zip us) → Vals vs us → sp vs H Q E →
    codeAny (model P w) A (.call (.ref f) args) (CR CX outer P w H s Q E) s
theorem okG {P : Program} {w : World} {K : PySem.W.Frag} {mg : Str → Option Value} {base : Heap} {x qual : Str} {st : Stmt} {f : Addr} {fd : FuncData} {N ps : List Str} {k : Nat} {sp : Sp} (F : Fun K x qual st f fd) (S : FnScope N ps (defScope st)) (len : ∀ vs H Q E, sp vs H Q E → vs.length = ps.length)
    (body : ∀ (cdv : Value) (A : Around) (outer : List Env) (s : Shared) (H : Hp) (vs : List V) (Q : VK) (E : XK), A.guards = some [] → Room k (A.deeper (envOfC qual (defScope st) s.heap.objs.size f cdv)) → sp vs H Q E →
      ∃ t, PSs (cxOf CX0 P w K mg base N qual (defScope st) f cdv A outer s H E).nox (defBody st) t ∧ t { nx := fun _ H' => Q .non H', rt := Q } (start N vs) H) : FnG P w K mg base CX0 (k + 1) f fd ps sp := by
  obtain ⟨oc, od, kV, doc, pm, an, cdv, ct, osl, rfl, lk, hcd⟩ := F.ex
  refine ⟨len, fun A outer s H args us vs Q E gd room e0 bnd rv hs => ?_⟩
  have n := len _ _ _ _ hs
  have inK : K.In s.heap := e0.mod.kin.keeps fun b o e => (e0.bs b o e).1
  have nol : s.heap.NoLimit := e0.mod.nolimit.keeps fun b o e => (e0.bs b o e).1
  have kinds : ∀ y ∈ ps.zip us, (defScope st).names.lookup y.1 = some .local ∨ ((defScope st).names.lookup y.1 = some .cell ∧ ((cellsFrom (s.heap.objs.size + 1) (defScope st).names []).lookup y.1).isSome = true) := by
    rintro ⟨y, v⟩ hy
    exact (S.par y (List.of_mem_zip hy).1).elim .inl fun q => .inr ⟨q, PySem.W.cellsFrom_some _ _ _ (.inl q)⟩
  refine codeAny_call_function room.depth (inK _ _ lk) rfl S.co S.gen rfl (PySem.W.codeRec_of inK hcd) (bnd _ _ _ _ (wpAny_newFunctionEnv_cells S.kind kinds fun env he s1 x => ?_))
  subst he
  refine ⟨nol.keeps x.toInCall.keep, codeAny_func ?_⟩
  obtain ⟨t, ht, hq⟩ := body cdv A outer s H vs Q E gd (room.deeper _) hs
  refine wpAny_mono (ht.nox.run [] s1 (start N vs) H _ (inv_start S room.hd e0 n rv x) hq) (fun fl s' z => ?_) fun e s' z => z
  match fl, z with
  | .ret u, ⟨v, σ', H', J, ru, q⟩ => exact ⟨v, H', J.os, J.bare, J.base, J.hok, ru, q⟩
  | .next, ⟨σ', H', J, q⟩ => exact ⟨V.non, H', J.os, J.bare, J.base, J.hok, rfl, q⟩
  | .brk, ⟨_, _, _, q⟩ => exact q.elim
  | .cont, ⟨_, _, _, q⟩ => exact q.elim
theorem int_shown {i : Int} (h : i.natAbs < 10 ^ 70) : (PyData.shown (.int i)).length ≤ 71 := by
  show (Str.ofString (toString i)).length ≤ 71
  rw [PySem.ofString_length]
  exact int_text_length_le10 (k := 70) (by decide) h
theorem from_le {B : Nat} : ∀ (ts : List Str) (k : Nat) (acc : Str), (∀ t ∈ ts, t.length ≤ B) → (textFrom k acc ts).length ≤ acc.length + ts.length * (B + 2)
  | [], k, acc, _ => by simp [textFrom]
  | t :: r, k, acc, h => by
    have h1 := h t (by simp)
    have h2 := from_le r (k + 1) (acc ++ (if k > 0 then ", " else "" : String) ++ t) fun u hu => h u (by simp [hu])
    have h3 : (Str.ofString (if k > 0 then ", " else "" : String)).length ≤ 2 := by split <;> decide
    rw [strLen_append, strLen_append] at h2
    rw [List.length_cons, Nat.add_mul]
    show (textFrom (k + 1) _ r).length ≤ _
    omega
theorem shownAll_map : ∀ xs : List Int, PyData.shownAll (xs.map PyData.int) = xs.map fun i => PyData.shown (.int i)
  | [] => by simp [PyData.shownAll]
  | x :: r => by simp [PyData.shownAll, shownAll_map r]
theorem showAll_ints : ∀ xs : List Int, (∀ i ∈ xs, i.natAbs < 10 ^ 70) → PyData.showableAll (xs.map PyData.int) = true
  | [], _ => by simp [PyData.showableAll]
  | x :: r, h => by
    have e : (10 : Nat) ^ 70 ≤ 2 ^ 240 := by decide
    have h1 := Nat.lt_of_lt_of_le (h x (by simp)) e
    have h2 : x.natAbs.log2 < 1920 := Nat.lt_trans (PySem.Flt.log2_lt_of (k := 240) (by decide) h1) (by decide)
    simp only [List.map_cons, PyData.showableAll, PyData.showable, Bool.and_eq_true, decide_eq_true_eq]
    exact ⟨h2, showAll_ints r fun i hi => h i (by simp [hi])⟩
theorem noDict_ints : ∀ xs : List Int, PyData.hasDictAll (xs.map PyData.int) = false
  | [] => by simp [PyData.hasDictAll]
  | x :: r => by simp [PyData.hasDictAll, PyData.hasDict, noDict_ints r]
end My
set_option Elab.async false
set_option linter.all false
set_option maxRecDepth 100000
set_option maxHeartbeats 4000000
namespace My
open PySem PySem.Spec PyProof.Rows L2
/-- an error's object: of which class it is, where its own dict lies -/
def ErrO (a : Addr) (cls : Value) (d : Option Addr) : HO := .ext fun h => ∃ oe vs, h.get? a = some oe ∧ Zc cls d oe ∧ oe.data = .fields vs
section
variable {X : Cx} {pins : List (Addr × Obj)} {σ : L2.St} {H : Hp} {s : Shared}
/-- an error that no one tracked is tracked from now on -/
theorem inv_err {a : Addr} {cls : Value} {d : Option Addr} {oe : Obj} {vs : Array Value} (I : Inv X ((a, oe) :: pins) σ H s) (hz : Zc cls d oe) (hd : oe.data = .fields vs) (n0 : ∀ o, X.s_0.heap.get? a ≠ some o)
    (np : ∀ p ∈ X.pn ++ pins, p.1 ≠ a) : H a = none ∧ Inv X pins σ (upd H a (ErrO a cls d)) s := by
  obtain ⟨ga, na, nL, nF, ncell⟩ := I.pin (a, oe) (List.mem_append_right _ List.mem_cons_self)
  have old : ∀ b o, X.s_0.heap.get? b = some o → b ≠ a := fun b o e z => n0 o (z ▸ e)
  have free' : ∀ b, b ≠ a → H b = none → upd H a (ErrO a cls d) b = none := fun b z e => (upd_ne z).trans e
  have some' : ∀ b u, H b = some u → upd H a (ErrO a cls d) b = some u := fun b u e => (upd_ne (ne_of_none e na)).trans e
  refine ⟨na, I.ok, I.os, I.bare, ⟨I.base.keep, I.base.slot, ?_, I.base.there, ?_, ?_, ?_⟩, I.loc, I.cell, free' _ (Ne.symm nL) I.free, ?_, ?_, ?_, I.len⟩
  · exact fun b o e n x => free' b (old b o e) (I.base.free b o e n x)
  · exact fun b xs e => some' b _ (I.base.tups b xs e)
  · exact fun b o u e => some' b _ (I.base.frzs b o u e)
  · intro b ps e
    obtain ⟨more, e1⟩ := I.base.tbls b ps e
    exact ⟨more, some' b _ e1⟩
  · intro y c e
    refine free' c (fun z => ?_) (I.freeC y c e)
    obtain ⟨v, o, ho, hc⟩ := I.cell y c e
    rw [z] at ho
    exact ncell v ((Option.some.inj (ho.symm.trans ga)) ▸ hc)
  · intro p hp
    have hp' : p ∈ X.pn ++ (a, oe) :: pins := (List.mem_append.mp hp).elim (fun z => List.mem_append_left _ z) fun z => List.mem_append_right _ (List.mem_cons_of_mem _ z)
    obtain ⟨k1, k2, k3⟩ := I.pin p hp'
    exact ⟨k1, free' _ (np p hp) k2, k3⟩
  · intro b u e
    by_cases z : b = a
    · subst z
      rw [upd_same] at e
      cases e
      refine ⟨⟨oe, vs, ga, hz, hd⟩, ⟨oe, ga⟩, fun h1 h2 ⟨o, ws, q1, q2, q3⟩ st => ⟨o, ws, st _ q1, q2, q3⟩⟩
    · rw [upd_ne z] at e
      exact (I.hok b u e).stay (fun _ _ _ q => q) (fun c q => some' c _ q) fun c xs q => some' c _ q
/-- out of the clause: the error is pinned, no more the clause's -/
theorem inv_out {a : Addr} {oe : Obj} (I : Inv (X.suite a ((a, oe) :: (X.pn ++ pins))) [] σ H s) (ok : X.Ok) : Inv X ((a, oe) :: pins) σ H s := by
  refine ⟨ok, I.os, I.bare, I.base, I.loc, I.cell, I.free, I.freeC, fun p hp => I.pin p ?_, I.hok, I.len⟩
  rw [List.append_nil]
  rcases List.mem_append.mp hp with z | z
  · exact List.mem_cons_of_mem _ (List.mem_append_left _ z)
  · rcases List.mem_cons.mp z with z | z
    · exact z ▸ List.mem_cons_self
    · exact List.mem_cons_of_mem _ (List.mem_append_right _ z)
/-- what the clause wishes of an error: it is one of the clause's, and the clause goes on to what follows, the error known behind it -/
def wKeep (K : PySem.W.Frag) (c : Value) (i : Nat) (ts : Addr → Value → Option Addr → TS) (D : Ends) : WX := fun cls d σ H =>
  PySem.W.exmOne K cls c = some true ∧ ∀ a, H a = none → ts a cls d { nx := fun σ' H' => H' a = none → D.nx (σ'.set i none) (upd H' a (ErrO a cls d)), rt := fun _ _ => False, bk := fun _ _ => False, ct := fun _ _ => False } (σ.set i (some (.ref a))) H
end
section
variable {X : Cx} {x n : Str} {c : Value} {i : Nat} {body suite : List Stmt} {b₀ : Stmt} {np pos pos' : Pos} {tb : WX → TS} {ts : Addr → Value → Option Addr → TS}
/-- the clause, entered with an error in the air -/
theorem clause_keep (hs : X.stack = X.env :: X.outer) (hf : X.env.frame = some X.env.locals) (hex : X.ex = []) (hN : X.N.Nodup) (hi : X.N[i]? = some n) (hln : X.env.kindOf n = some .local) (hc : Names X x c)
    (hsu : ∀ (a : Addr) (oe : Obj) (cls : Value) (d : Option Addr) (pn : List (Addr × Obj)), Zc cls d oe → (∃ vs, oe.data = .fields vs) → PSs (X.suite a ((a, oe) :: pn)) (b₀ :: suite) (ts a cls d))
    {pins : List (Addr × Obj)} {D : Ends} {xe : Value → Shared → Prop} {u : Value} {s' : Shared} (ok : X.Ok) (air : XE (X.tr (X.pn ++ pins) xe) (wKeep X.K c i ts D) u s') :
    wpAny (model X.prog X.w) X.A (noteFrame u X.env) (fun _ s₂ => wpAny (model X.prog X.w) X.A (setFlight u none) (fun _ s₃ =>
      wpAny (model X.prog X.w) X.A (handleBy u X.env [.ExceptHandler (some (.Name x np)) (some n) (b₀ :: suite) pos']) (SP X pins D) X.xe s₃) X.xe s₂) X.xe s' := by
  obtain ⟨a, B, sI, pins', σ', H', cls, d, rfl, J', nb, up, sky, na, os, ag, hb1, yes⟩ := air
  have J : Inv X pins σ' H' sI := J'.ofTry ok
  have hfr : X.A.frames = some (X.env :: X.outer) := by rw [ok.frames, hs]
  have inFr : ∀ b, b ∈ frs (X.env :: X.outer) → b ∈ frs X.stack := fun b z => by rw [hs]; exact z
  have frIn : ∀ b, b ∈ frs X.stack → b ∈ frs (X.env :: X.outer) := fun b z => by rw [hs] at z; exact z
  have fInS : ∀ b, b ∈ X.fs → b ∈ frs X.stack := fun b z => inFr b (by
    obtain ⟨e, he, q⟩ := List.mem_filterMap.mp z
    exact List.mem_filterMap.mpr ⟨e, List.mem_cons_of_mem _ he, q⟩)
  have lInS : X.env.locals ∈ frs X.stack := inFr _ (List.mem_filterMap.mpr ⟨X.env, List.mem_cons_self, hf⟩)
  refine Sky.land Zc.steady hfr hf (show Sky B (X.env :: X.outer) a (Zc cls d) X.env.locals s'.heap by rw [← hs]; exact sky) fun h3 fl3 up3 => ?_
  obtain ⟨hB3, hBa, hFF3, oe3, vs3, T3, oT3, ts3, he3, hz3, hd3, _⟩ := id fl3
  -- the error is no frame
  have nfr : a ∉ frs X.stack := fun hm => by
    obtain ⟨_, o', e', hnf⟩ := hFF3.mem (frIn a hm)
    rw [he3] at e'
    cases e'
    exact hnf _ hd3
  have nL : a ≠ X.env.locals := fun z => nfr (z ▸ lInS)
  have nF : a ∉ X.fs := fun z => nfr (fInS a z)
  -- it is new: neither pinned nor there when the def began
  have notB : ∀ b o, B.get? b = some o → b ≠ a := fun b o e z => by
    rw [z, hBa] at e
    cases e
  have n0 : ∀ o, X.s_0.heap.get? a ≠ some o := fun o e => by
    obtain ⟨o', e1⟩ := J.base.there a o e (by rw [hex]; simp)
    exact notB a o' (nb a o' e1 nfr) rfl
  have npn : ∀ p ∈ X.pn ++ pins, p.1 ≠ a := fun p hp => by
    have hp' : p ∈ (X.tr (X.pn ++ pins) xe).pn ++ pins' := List.mem_append_left _ hp
    obtain ⟨k1, _, k3, k4, _⟩ := J'.pin p hp'
    exact notB _ _ (nb p.1 p.2 k1 fun hm => by
      rcases List.mem_cons.mp (J.stkSub _ hm) with z | z
      · exact k3 z
      · exact k4 z)
  have Jp : Inv X pins σ' H' sI := J'.ofTry ok
  have J3 : Inv X pins σ' H' { s' with heap := h3 } := Jp.landed nb fl3.1 (up.trans up3) os ag
  have S3 := J3.suite he3 hd3 na nL nF
  refine wpAny_handleBy_cons (codeAny_handlers_test ?_) (by intro q; cases q)
  have LT : PySem.W.Looks (model X.prog X.w) h3 (typeOf (.ref a)) cls := fun A Q E s k q => wpAny_typeOf_ref (k _ _ he3) (by rw [hz3.1]; exact q)
  have LM := PySem.W.exm_one (M := model X.prog X.w) J3.kIn LT hb1
  have named : ∀ {Q : Value → Shared → Prop} {E : Value → Shared → Prop}, Q c { s' with heap := h3 } → wpAny (model X.prog X.w) (X.A.mark (some (.ref a))) (eval (.Name x np) X.env) Q E { s' with heap := h3 } := fun {Q E} q => by
    obtain ⟨hg, hdbg, hm⟩ := hc
    rcases hm with hm | ⟨hm, hv, hnn⟩
    · exact ld_glob (X := X.suite a ((a, oe3) :: (X.pn ++ pins))) S3 hg hm q hdbg
    · exact ld_blt (X := X.suite a ((a, oe3) :: (X.pn ++ pins))) S3 hg hm hv q hnn hdbg
  refine named (LM.here (codeAny_handlers_suite_as (HandSPX.lands_againZ fl3 fun h4 fl4 up4 => ?_)))
  obtain ⟨_, _, _, oe4, vs4, _, _, _, he4, hz4, hd4, _⟩ := id fl4
  have J4 : Inv X pins σ' H' { s' with heap := h4 } := Jp.landed nb fl4.1 ((up.trans up3).trans up4) os ag
  have S4 := J4.suite he4 hd4 na nL nF
  refine store_ok (X := X.suite a ((a, oe4) :: (X.pn ++ pins))) (v := .ref a) S4 hN hi (.inl hln) rfl (fun s5 S5 => ?_) (.inr hln)
  refine wpAny_mono ((hsu a oe4 cls d (X.pn ++ pins) hz4 ⟨_, hd4⟩).run [] s5 _ H' _ S5 (yes a na)) (fun f s6 hsp => ?_) (fun _ _ z => False.elim z)
  cases f with
  | next =>
    obtain ⟨σ6, H6, S6, q6⟩ := hsp
    refine gone_ok (inv_out S6 ok) hN hi hln fun s7 J7 => ?_
    obtain ⟨na6, J8⟩ := inv_err J7 hz4 hd4 n0 npn
    exact ⟨_, _, J8, q6 na6⟩
  | brk =>
    obtain ⟨_, _, _, q6⟩ := hsp
    exact q6.elim
  | cont =>
    obtain ⟨_, _, _, q6⟩ := hsp
    exact q6.elim
  | ret u =>
    obtain ⟨_, _, _, _, _, q6⟩ := hsp
    exact q6.elim
/-- try: body / except x as n: suite, the error known behind the clause -/
theorem ps_try_keep (hs : X.stack = X.env :: X.outer) (hf : X.env.frame = some X.env.locals) (hex : X.ex = []) (hN : X.N.Nodup) (hi : X.N[i]? = some n) (hln : X.env.kindOf n = some .local) (hc : Names X x c)
    (hb : ∀ (W : WX) (pn : List (Addr × Obj)) (xe : Value → Shared → Prop), Takes (X.tr pn xe) W → PassesOwn (model X.prog X.w) X.A X.env xe → PSs (X.tr pn xe) body (tb W))
    (hsu : ∀ (a : Addr) (oe : Obj) (cls : Value) (d : Option Addr) (pn : List (Addr × Obj)), Zc cls d oe → (∃ vs, oe.data = .fields vs) → PSs (X.suite a ((a, oe) :: pn)) (b₀ :: suite) (ts a cls d)) :
    PS X (.Try body [.ExceptHandler (some (.Name x np)) (some n) (b₀ :: suite) pos'] [] [] pos) (fun D σ H => tb (wKeep X.K c i ts D) D σ H) := by
  refine ⟨fun pins s σ H D I h => wpAny_Try_except ?_⟩
  have run := (hb (wKeep X.K c i ts D) (X.pn ++ pins) _ (fun u s' air => clause_keep (pos' := pos') (np := np) hs hf hex hN hi hln hc hsu I.ok air) PassesOwn.looking).run [] s σ H D (I.toTry _) h
  refine wpAny_mono run (fun f s1 hsp => ?_) fun _ _ he => he
  cases f with
  | ret u =>
    obtain ⟨v, σ1, H1, J, r, q⟩ := hsp
    exact ⟨v, σ1, H1, J.ofTry I.ok, r, q⟩
  | brk =>
    obtain ⟨σ1, H1, J, q⟩ := hsp
    exact ⟨σ1, H1, J.ofTry I.ok, q⟩
  | cont =>
    obtain ⟨σ1, H1, J, q⟩ := hsp
    exact ⟨σ1, H1, J.ofTry I.ok, q⟩
  | next =>
    obtain ⟨σ1, H1, J, q⟩ := hsp
    exact wpAny_execs_nil ⟨σ1, H1, J.ofTry I.ok, q⟩
end
end My
set_option Elab.async false
set_option linter.all false
set_option maxRecDepth 100000
set_option maxHeartbeats 4000000
namespace My
open PySem PySem.Spec PyProof.Rows L2
/-- a kept error of the class at C, its own dict at d with these fields -/
structure Kept (H : Hp) (a C d : Addr) (fs : List (Str × V)) : Prop where
  er : H a = some (ErrO a (.ref C) (some d))
  di : H d = some (.xd fs)
theorem Kept.same {H H' : Hp} {a C d : Addr} {fs : List (Str × V)} (k : Kept H a C d fs) (s : Same H H') : Kept H' a C d fs := ⟨s _ _ k.er, s _ _ k.di⟩
section
variable {X : Cx} {pins : List (Addr × Obj)} {σ : L2.St} {H : Hp} {s : Shared} {a C d : Addr} {fs : List (Str × V)}
theorem Kept.inst (k : Kept H a C d fs) (I : Inv X pins σ H s) : ∃ oe od mA, PySem.W.InstAt s.heap a oe C (some od) ∧ (∀ n, RelO (fs.lookup n) (mA n)) ∧ s.heap.Ns1 d mA ∧ (∀ n : Str, PySem.W.lookIn n od = some (mA n)) := by
  obtain ⟨⟨oe, vs, ga, hz, hd⟩, _, _⟩ := I.hok a _ k.er
  obtain ⟨mA, hns, hr⟩ := (show ObjOk X.prog X.w H s.heap d (.xd fs) from I.hok d _ k.di)
  obtain ⟨od, ho, hl⟩ := lookIn_ns hns
  exact ⟨oe, od, mA, ⟨ga, hz.1, by unfold PySem.W.notCls; rw [hd] <;> rfl, by rw [hz.2]; exact ho⟩, hr, hns, fun n => hl n⟩
end
theorem kitx_err {K : PySem.W.Frag} {a D : Addr} (Z : ExcC K D) : PySem.W.KitX K (.ref a) (.ref D) (fun h => ∃ ox od, PySem.W.InstAt h a ox D od) where
  ty := fun _ _ _ ⟨_, _, I⟩ => I.type
  it := fun _ _ X _ A Q E s k q => by
    obtain ⟨cd, hc, _⟩ := PySem.W.any_some Z.hd
    unfold PySem.W.clsIn at hc
    split at hc
    · rename_i ho
      unfold isType loadHead
      exact wpAny_bind (wpAny_loadPart (k _ _ (X _ _ ho)) (wpAny_pure q))
    · cases hc
  ne := fun h tp dd its n sl X htp => Bool.eq_false_iff.mpr fun q => by
    obtain ⟨cd, hc, _⟩ := PySem.W.any_some Z.hd
    have e : D = tp := Value.ref.inj (beq_iff_eq.mp q)
    subst e
    unfold PySem.W.clsIn at hc
    split at hc
    · rename_i ho
      cases (X _ _ ho).symm.trans htp
    · cases hc
  ca := fun X ⟨_, _, I⟩ k => PySem.W.kx_classE X I Z.hg Z.hk Z.hs (PySem.W.findObj_dataE (by obtain ⟨cd, hc, _⟩ := PySem.W.any_some Z.hd; rw [hc]; rfl) Z.ha Z.hn Z.ht) Z.hm k
section
variable {X : Cx}
/-- isinstance(e, c), e a kept error -/
def rIsK (K : PySem.W.Frag) : List V → Hp → VK → Prop := fun xs H Q => ∃ (a C d : Addr) (fs : List (Str × V)) (c : V) (cv : Value) (b : Bool), xs = [.ref a, c] ∧ Kept H a C d fs ∧ ExcC K C ∧ (∀ u, RelV c u → u = cv) ∧ PySem.W.kitOne K (.ref C) cv = some b ∧ Q (.bl b) H
theorem call_isK : CallR X (.builtin "isinstance") (rIsK X.K) := by
  intro pins s σ H xs us Q I r h
  obtain ⟨a, C, d, fs, c, cv, b, rfl, ke, Z, hcv, e, q⟩ := h
  cases r with
  | cons rx rr =>
    cases rr with
    | cons rt rr =>
      cases rr
      cases rx
      have ec := hcv _ rt
      subst ec
      obtain ⟨oe, od, _, J, _⟩ := ke.inst I
      exact PySem.W.kia_one (kitx_err Z) I.kIn ⟨oe, some od, J⟩ e (fun z => nomatch z) fun tk => ⟨.bl b, H, I.kept (t' := tk) fun _ _ z => z, rfl, q⟩
/-- e.f, e a kept error -/
def tKf (K : PySem.W.Frag) (f : Str) (te : TE) : TE := fun σ H Q => te σ H fun x H1 => ∃ (a C d : Addr) (fs : List (Str × V)) (v : V), x = .ref a ∧ Kept H1 a C d fs ∧ XfC K C ∧ PySem.W.findIn K (.ref C) f = some none ∧ fs.lookup f = some v ∧ Q v H1
theorem pe_kf {e : Expr} {te : TE} {pos : Pos} {n : Str} (he : PE X e te) (hb : attributeBase e n X.env (eval e X.env) = eval e X.env := by rfl) : PE X (.Attribute e n pos) (tKf X.K n te) := by
  refine ⟨fun pins s σ H Q I h => ?_⟩
  refine attr_of hb (thn (he.run pins s σ H _ I h) fun u s1 hh => ?_)
  obtain ⟨x, H1, I1, rx, a, C, d, fs, v, ex, ke, T, hno, l, q⟩ := hh
  subst ex
  obtain rfl : u = Value.ref a := rx
  obtain ⟨oe, od, mA, J, hr, _, hl⟩ := ke.inst I1
  obtain ⟨u, hu, ru⟩ := RelO.some_of (v := v) (o := mA n) (by rw [← l]; exact hr n)
  exact HandSPX.exc_get I1.kIn J T.ga T.gg T.exC (PySem.W.findObj_own T.hdC hno rfl (by rw [hl, hu])) (handed_of ru) ⟨v, H1, I1.tok _, ru, q⟩
end
end My
set_option Elab.async false
set_option linter.all false
set_option maxRecDepth 100000
set_option maxHeartbeats 4000000
namespace My
open PySem PySem.Spec PyProof.Rows L2
/-- what the value holds, as data -/
def DpO (K : PySem.W.Frag) (H : Hp) (v : V) (d : PyData) : Prop := (Dp K H v d ∧ d.hasDict = false) ∨ ∃ a : Addr, v = .ref a ∧ H a = some (.dK []) ∧ d = .dict []
section
variable {X : Cx} {pins : List (Addr × Obj)} {σ : L2.St} {H : Hp} {s : Shared}
theorem empty_reads {a : Addr} (I : Inv X pins σ H s) (h : H a = some (.dK [])) : Reads s.heap (.ref a) (.dict []) [a] ∧ a ≠ sysModules := by
  obtain ⟨_, ns, vs, kv, o, es, ep, ho, hx, hd, _, hp, _⟩ := (show ObjOk X.prog X.w H s.heap a (.dK []) from I.hok a _ h)
  cases kv
  have e0 : es.toList = [] := by
    cases q : es.toList with
    | nil => rfl
    | cons y r =>
      rw [q] at hp
      cases hp
  refine ⟨?_, fun z => by rw [z] at ns; exact absurd ns (by decide)⟩
  have k : ReadsAll s.heap (es.toList.map (·.key)) (([] : List (PyData × PyData)).map (·.1)) [] := by rw [e0]; exact .nil
  have v : ReadsAll s.heap (es.toList.map (·.val)) (([] : List (PyData × PyData)).map (·.2)) [] := by rw [e0]; exact .nil
  exact Reads.dict ho hx.1 hd k v
def rReprO (K : PySem.W.Frag) : List V → Hp → VK → Prop := fun xs H Q => ∃ (x : V) (d : PyData), xs = [x] ∧ DpO K H x d ∧ d.showable = true ∧ d.depth ≤ 64 ∧ d.shown.length ≤ sizeLine ∧ Q (.str d.shown) H
theorem cr_reprO (gd : X.A.guards = some []) (hu : X.A.units + 70 < cLine) : CallR X (.builtin "repr") (rReprO X.K) := by
  intro pins s σ H xs us Q I r h
  obtain ⟨x, d, rfl, dp, sh, dep, sz, q⟩ := h
  obtain ⟨u, rfl, ru⟩ := r.one
  have fin : ∀ (a : Addr) (as : List Addr), Reads s.heap (.ref a) d as → (d.hasDict = true → sysModules ∉ as) → wpAny (model X.prog X.w) X.A (call (.builtin "repr") [.ref a]) (fun v s' => ∃ z H', Inv X pins σ H' s' ∧ RelV z v ∧ Q z H') X.xe s := fun a as rd hm =>
    repr_of_reads' rd sh hm gd (by omega) (fun _ _ e => e) (fun h' u tk hk => ⟨.str _, H, I.kept hk, ⟨_, rfl⟩, q⟩) sz
  rcases dp with ⟨dp, nd⟩ | ⟨a, rfl, ha, rfl⟩
  · obtain ⟨as, rd⟩ := Dp.reads I d x u dp ru
    cases dp with
    | non =>
      cases (show u = Value.none from ru)
      exact P.repr_of_none ⟨.str _, H, I.tok _, ⟨_, rfl⟩, q⟩
    | bl b =>
      cases (show u = Value.bool b from ru)
      refine P.repr_of_bool ⟨.str _, H, I.tok _, ⟨_, rfl⟩, ?_⟩
      cases b <;> exact q
    | int i =>
      obtain ⟨t, rfl⟩ := ru
      refine P.repr_of_int (by simpa only [PyData.showable, decide_eq_true_eq] using sh) ⟨.str _, H, I.tok _, ⟨_, rfl⟩, q⟩
    | str z =>
      obtain ⟨t, rfl⟩ := ru
      refine P.repr_of_str ⟨.str _, H, I.tok _, ⟨_, rfl⟩, ?_⟩ ?_
      · simpa only [PyData.shown] using q
      · simpa only [PyData.shown] using sz
    | lst h1 h2 =>
      cases (show u = Value.ref _ from ru)
      exact fin _ as rd (PyData.noDict_hsm nd)
    | tup h1 h2 =>
      cases (show u = Value.ref _ from ru)
      exact fin _ as rd (PyData.noDict_hsm nd)
  · cases (show u = Value.ref a from ru)
    obtain ⟨rd, na⟩ := empty_reads I ha
    exact fin a [a] rd fun _ hm => na (List.mem_singleton.mp hm).symm
end
end My
set_option Elab.async false
set_option linter.all false
set_option maxRecDepth 100000
set_option maxHeartbeats 4000000
namespace My
open PySem PySem.Spec PyProof.Rows L2
theorem nofill_of {T n : String} (a : typeLookup (.type T) (PySem.dunder n) = pure none) (b : typeLookup (.type T) (PySem.dunderR n) = pure none) : fillsNumberSlot (.type T) n = pure false := by
  unfold fillsNumberSlot
  simp [a, b]
theorem nf_none_mod : fillsNumberSlot (.type "NoneType") "mod" = pure false := nofill_of (by rw [typeLookup_type, builtinLookup_eq_fast]; kernel_rfl) (by rw [typeLookup_type, builtinLookup_eq_fast]; kernel_rfl)
theorem nf_none_fd : fillsNumberSlot (.type "NoneType") "floordiv" = pure false := nofill_of (by rw [typeLookup_type, builtinLookup_eq_fast]; kernel_rfl) (by rw [typeLookup_type, builtinLookup_eq_fast]; kernel_rfl)
theorem nf_list_mod : fillsNumberSlot (.type "list") "mod" = pure false := nofill_of (by rw [typeLookup_type, builtinLookup_eq_fast]; kernel_rfl) (by rw [typeLookup_type, builtinLookup_eq_fast]; kernel_rfl)
theorem nf_list_fd : fillsNumberSlot (.type "list") "floordiv" = pure false := nofill_of (by rw [typeLookup_type, builtinLookup_eq_fast]; kernel_rfl) (by rw [typeLookup_type, builtinLookup_eq_fast]; kernel_rfl)
theorem nf_tup_mod : fillsNumberSlot (.type "tuple") "mod" = pure false := nofill_of (by rw [typeLookup_type, builtinLookup_eq_fast]; kernel_rfl) (by rw [typeLookup_type, builtinLookup_eq_fast]; kernel_rfl)
theorem nf_tup_fd : fillsNumberSlot (.type "tuple") "floordiv" = pure false := nofill_of (by rw [typeLookup_type, builtinLookup_eq_fast]; kernel_rfl) (by rw [typeLookup_type, builtinLookup_eq_fast]; kernel_rfl)
theorem nf_dict_mod : fillsNumberSlot (.type "dict") "mod" = pure false := nofill_of (by rw [typeLookup_type, builtinLookup_eq_fast]; kernel_rfl) (by rw [typeLookup_type, builtinLookup_eq_fast]; kernel_rfl)
theorem nf_dict_fd : fillsNumberSlot (.type "dict") "floordiv" = pure false := nofill_of (by rw [typeLookup_type, builtinLookup_eq_fast]; kernel_rfl) (by rw [typeLookup_type, builtinLookup_eq_fast]; kernel_rfl)
section
variable {prog : Program} {w : World} {A : Around} {E : Value → Shared → Prop} {s : Shared} {K : PySem.W.Frag} {x C f f0 : Addr} {ox : Obj} {od : Option Obj} {v : Value} {T : String}
/-- the left one's type has no such operator -/
theorem rbin_zero {op : Operator} {Q : Value → Shared → Prop} (X : K.In s.heap) (I : PySem.W.InstAt s.heap x ox C od) (hc : PySem.W.selfFirst K C = true) (tv : s.TypeIs v T)
    (hs : PySem.W.findIn K (.ref C) (PySem.dunder op.info.2) = some (some (.ref f0))) (hr : PySem.W.findIn K (.ref C) (dunderR op.info.2) = some (some (.ref f))) (hf : PySem.W.isFn K (.ref f) = true) (fills : fillsNumberSlot (.type T) op.info.2 = pure false)
    (h : wpAny (model prog w) A (call (.ref f) [.ref x, v]) (PySem.W.CmpBack Q) E s) : wpAny (model prog w) A (binaryOp op v (.ref x)) Q E s := by
  obtain ⟨cd, rest, hcd, hm⟩ := PySem.W.ksp_first hc
  rcases hi : op.info with ⟨sym, nm'⟩
  rw [hi] at hs hr fills
  dsimp only at hs hr fills
  have one := PySem.W.ksp_try X I hr hf h
  have L2 : PySem.W.Looks (model prog w) s.heap (typeOf (.ref x)) (.ref C) := I.type
  have L3 : PySem.W.Looks (model prog w) s.heap (fillsNumberSlot (.ref C) nm') true := PySem.W.fills_K X hcd hm hs
  have hne : (Value.type T == Value.ref C) = false := Bool.eq_false_iff.mpr fun q => by cases beq_iff_eq.mp q
  simp only [binaryOp, hi]
  refine wpAny_holding (wpAny_bind ?_)
  unfold binaryOp1
  refine wpAny_bind (wpAny_typeOf tv (wpAny_bind (L2.here (wpAny_bind (wpAny_of_eq fills ?_)))))
  simp only [hne, Bool.false_eq_true, if_false]
  refine wpAny_bind (L3.here ?_)
  simp only [Bool.false_and, Bool.false_eq_true, if_false, pure_bind, Bool.not_false, Bool.and_self, Bool.and_true, if_true]
  refine wpAny_bind (wpAny_mono one (fun r s' hr' => ?_) fun _ _ e => e)
  obtain ⟨u, rfl, hq⟩ := hr'
  exact wpAny_bind (wpAny_rule (wpAny_pure (wpAny_pure hq)))
/-- the left one's type has the operator, and it declines -/
theorem rbin_num {op : Operator} {idl : String} {B : Builtin} {Q : Value → Shared → Prop} (X : K.In s.heap) (I : PySem.W.InstAt s.heap x ox C od) (hc : PySem.W.selfFirst K C = true) (tv : s.TypeIs v T)
    (hs : PySem.W.findIn K (.ref C) (PySem.dunder op.info.2) = some (some (.ref f0))) (hr : PySem.W.findIn K (.ref C) (dunderR op.info.2) = some (some (.ref f))) (hf : PySem.W.isFn K (.ref f) = true)
    (hsub : PySem.W.subIn K (.ref C) (.type T) = some false) (slot : Slot T (dunder op.info.2) idl) (fills : fillsNumberSlot (.type T) op.info.2 = pure true) (entry : entryFor table idl = some B) (args : argsOk idl ⟨[v, .ref x], []⟩)
    (body : ∀ {Q' : Fin → Shared → Prop} {E' : Value → Shared → Prop} {A' : Around}, Q' (.done (.ret .notImplemented)) s → wpAny (model prog w) A' (B ⟨[v, .ref x], []⟩) Q' E' s)
    (h : wpAny (model prog w) A (call (.ref f) [.ref x, v]) (PySem.W.CmpBack Q) E s) : wpAny (model prog w) A (binaryOp op v (.ref x)) Q E s := by
  obtain ⟨cd, rest, hcd, hm⟩ := PySem.W.ksp_first hc
  rcases hi : op.info with ⟨sym, nm'⟩
  rw [hi] at hs hr slot fills
  dsimp only at hs hr slot fills
  have one := PySem.W.ksp_try X I hr hf h
  have two : ∀ {Q' : Option Value → Shared → Prop}, Q' none s → wpAny (model prog w) A (tryMethod v (dunder nm') (.ref x)) Q' E s := fun q =>
    wpAny_tryMethod_declines tv slot (wpAny_call_entry slot tv entry (body ⟨_, rfl, rfl, q⟩) args)
  have L2 : PySem.W.Looks (model prog w) s.heap (typeOf (.ref x)) (.ref C) := I.type
  have L3 : PySem.W.Looks (model prog w) s.heap (fillsNumberSlot (.ref C) nm') true := PySem.W.fills_K X hcd hm hs
  have L5 : PySem.W.Looks (model prog w) s.heap (isSubtype (.ref C) (.type T)) false := PySem.W.looks_subIn X hsub
  have hne : (Value.type T == Value.ref C) = false := Bool.eq_false_iff.mpr fun q => by cases beq_iff_eq.mp q
  simp only [binaryOp, hi]
  refine wpAny_holding (wpAny_bind ?_)
  unfold binaryOp1
  refine wpAny_bind (wpAny_typeOf tv (wpAny_bind (L2.here (wpAny_bind (wpAny_of_eq fills ?_)))))
  simp only [hne, Bool.false_eq_true, if_false]
  refine wpAny_bind (L3.here ?_)
  simp only [Bool.and_self, if_true]
  refine wpAny_bind (L5.here ?_)
  have hpy : numberSlotInPython (.type T) nm' = pure false := rfl
  simp only [Bool.false_eq_true, if_false, pure_bind, Bool.not_false, Bool.and_self, if_true, hpy]
  refine wpAny_bind (two ?_)
  refine wpAny_bind (wpAny_mono one (fun r s' hr' => ?_) fun _ _ e => e)
  obtain ⟨u, rfl, hq⟩ := hr'
  exact wpAny_bind (wpAny_rule (wpAny_pure (wpAny_pure hq)))
theorem bool_mod_ref {M : Model} {b : Bool} {Q : Fin → Shared → Prop} (hx : s.heap.get? x = some ox) (hd : ox.data = .plain) (h : Q (.done (.ret .notImplemented)) s) :
    wpAny M A (Builtin.«int.__mod__» ⟨[.bool b, .ref x], []⟩) Q E s := by
  obtain ⟨hp, gg, d, tk, os⟩ := s
  have q1 : ∀ {A' : Around} {E' : Value → Shared → Prop} {Q' : Option Int → Shared → Prop}, Q' none ⟨hp, gg, d, tk, os⟩ → wpAny M A' (asInt? (.ref x)) Q' E' ⟨hp, gg, d, tk, os⟩ := fun q => asInt_inst hx hd q
  wp_walk using q1
  rw [hd]
  wp_walk
  exact h
theorem bool_fdiv_ref {M : Model} {b : Bool} {Q : Fin → Shared → Prop} (hx : s.heap.get? x = some ox) (hd : ox.data = .plain) (h : Q (.done (.ret .notImplemented)) s) :
    wpAny M A (Builtin.«int.__floordiv__» ⟨[.bool b, .ref x], []⟩) Q E s := by
  obtain ⟨hp, gg, d, tk, os⟩ := s
  have q1 : ∀ {A' : Around} {E' : Value → Shared → Prop} {Q' : Option Int → Shared → Prop}, Q' none ⟨hp, gg, d, tk, os⟩ → wpAny M A' (asInt? (.ref x)) Q' E' ⟨hp, gg, d, tk, os⟩ := fun q => asInt_inst hx hd q
  wp_walk using q1
  rw [hd]
  wp_walk
  exact h
end
/-- what may stand on the left -/
inductive LeftOk (H : Hp) : V → Prop where
  | non : LeftOk H .non
  | bl (b : Bool) : LeftOk H (.bl b)
  | int (i : Int) : LeftOk H (.int i)
  | lst {a : Addr} {xs : List V} (h : H a = some (.lst xs)) : LeftOk H (.ref a)
  | tup {a : Addr} {xs : List V} (h : H a = some (.tup xs)) : LeftOk H (.ref a)
  | dct {a : Addr} {kvs : List (Key × V)} (h : H a = some (.dK kvs)) : LeftOk H (.ref a)
section
variable {X : Cx} {CX : CXT} {n : Nat} {C g g0 : Addr} {sp : Sp} {E : XK}
def rRopA (C : Addr) (sp : Sp) (E : XK) : R2 := fun x y H Q => ∃ a dx fs, y = .ref a ∧ LeftOk H x ∧ H a = some (.ins C dx fs) ∧ sp [y, x] H Q E
theorem op_rmodA (R : ROp X.K C .Mod g0 g) (hsb : PySem.W.subIn X.K (.ref C) (.type "bool") = some false) (F : FnR X.prog X.w X.K X.mg X.base CX n g sp) (hr : Room n X.A) (hx : Passes CX X E) : OpR X (binaryOp .Mod) (rRopA C sp E) := by
  intro pins s σ H x y v u Q I rx ry h
  obtain ⟨a, dx, fs, rfl, lo, ha, q⟩ := h
  cases (show u = Value.ref a from ry)
  obtain ⟨mA, O, _⟩ := ins_get I.hok ha
  obtain ⟨od, J, _⟩ := O.look
  have back : wpAny (model X.prog X.w) X.A (call (.ref g) [.ref a, v]) (PySem.W.CmpBack fun z s' => ∃ z' H', Inv X pins σ H' s' ∧ RelV z' z ∧ Q z' H') X.xe s :=
    wpAny_mono (wpAny_call (run_fnR (us := [.ref a, v]) (vs := [.ref a, x]) F hr hx I (.cons rfl (.cons rx .nil)) q)) (fun w s' ⟨z', H', I', rz, qz⟩ => SlX.cmpback rz ⟨z', H', I', rz, qz⟩) fun _ _ e => e
  cases lo with
  | non =>
    cases (show v = Value.none from rx)
    exact rbin_zero (op := .Mod) I.kIn J R.sf (typeIs_none s) R.own R.ref R.fn nf_none_mod back
  | bl b =>
    cases (show v = Value.bool b from rx)
    exact rbin_num (op := .Mod) I.kIn J R.sf (PySem.typeIs_bool s b) R.own R.ref R.fn hsb PySem.F.slot_bool_mod PySem.F.fills_bool_mod PySem.F.entry_int_mod (PySem.F.args_int_mod_2 _ _) (fun q => bool_mod_ref J.at_ rfl q) back
  | int i =>
    obtain ⟨t, rfl⟩ := rx
    exact rbin_num (op := .Mod) I.kIn J R.sf (typeIs_int s i t) R.own R.ref R.fn R.sub PySem.F.slot_int_mod PySem.F.fills_int_mod PySem.F.entry_int_mod (PySem.F.args_int_mod_2 _ _) (fun q => int_mod_ref J.at_ rfl q) back
  | @lst b xs hb =>
    cases (show v = Value.ref b from rx)
    obtain ⟨_, its, k, _, e⟩ := (show ObjOk X.prog X.w H s.heap b (.lst xs) from I.hok b _ hb)
    exact rbin_zero (op := .Mod) I.kIn J R.sf ⟨_, e, rfl⟩ R.own R.ref R.fn nf_list_mod back
  | @tup b xs hb =>
    cases (show v = Value.ref b from rx)
    obtain ⟨_, its, _, o, h1, h2, _⟩ := (show ObjOk X.prog X.w H s.heap b (.tup xs) from I.hok b _ hb)
    exact rbin_zero (op := .Mod) I.kIn J R.sf ⟨_, h1, h2⟩ R.own R.ref R.fn nf_tup_mod back
  | @dct b kvs hb =>
    cases (show v = Value.ref b from rx)
    obtain ⟨_, _, vs, _, o, es, ep, h1, h2, _⟩ := (show ObjOk X.prog X.w H s.heap b (.dK kvs) from I.hok b _ hb)
    exact rbin_zero (op := .Mod) I.kIn J R.sf ⟨_, h1, h2.1⟩ R.own R.ref R.fn nf_dict_mod back
theorem op_rfdivA (R : ROp X.K C .FloorDiv g0 g) (hsb : PySem.W.subIn X.K (.ref C) (.type "bool") = some false) (F : FnR X.prog X.w X.K X.mg X.base CX n g sp) (hr : Room n X.A) (hx : Passes CX X E) : OpR X (binaryOp .FloorDiv) (rRopA C sp E) := by
  intro pins s σ H x y v u Q I rx ry h
  obtain ⟨a, dx, fs, rfl, lo, ha, q⟩ := h
  cases (show u = Value.ref a from ry)
  obtain ⟨mA, O, _⟩ := ins_get I.hok ha
  obtain ⟨od, J, _⟩ := O.look
  have back : wpAny (model X.prog X.w) X.A (call (.ref g) [.ref a, v]) (PySem.W.CmpBack fun z s' => ∃ z' H', Inv X pins σ H' s' ∧ RelV z' z ∧ Q z' H') X.xe s :=
    wpAny_mono (wpAny_call (run_fnR (us := [.ref a, v]) (vs := [.ref a, x]) F hr hx I (.cons rfl (.cons rx .nil)) q)) (fun w s' ⟨z', H', I', rz, qz⟩ => SlX.cmpback rz ⟨z', H', I', rz, qz⟩) fun _ _ e => e
  cases lo with
  | non =>
    cases (show v = Value.none from rx)
    exact rbin_zero (op := .FloorDiv) I.kIn J R.sf (typeIs_none s) R.own R.ref R.fn nf_none_fd back
  | bl b =>
    cases (show v = Value.bool b from rx)
    exact rbin_num (op := .FloorDiv) I.kIn J R.sf (PySem.typeIs_bool s b) R.own R.ref R.fn hsb PySem.F.slot_bool_floordiv PySem.F.fills_bool_floordiv PySem.F.entry_int_floordiv (PySem.F.args_int_floordiv_2 _ _) (fun q => bool_fdiv_ref J.at_ rfl q) back
  | int i =>
    obtain ⟨t, rfl⟩ := rx
    exact rbin_num (op := .FloorDiv) I.kIn J R.sf (typeIs_int s i t) R.own R.ref R.fn R.sub PySem.F.slot_int_floordiv PySem.F.fills_int_floordiv PySem.F.entry_int_floordiv (PySem.F.args_int_floordiv_2 _ _) (fun q => int_fdiv_ref J.at_ rfl q) back
  | @lst b xs hb =>
    cases (show v = Value.ref b from rx)
    obtain ⟨_, its, k, _, e⟩ := (show ObjOk X.prog X.w H s.heap b (.lst xs) from I.hok b _ hb)
    exact rbin_zero (op := .FloorDiv) I.kIn J R.sf ⟨_, e, rfl⟩ R.own R.ref R.fn nf_list_fd back
  | @tup b xs hb =>
    cases (show v = Value.ref b from rx)
    obtain ⟨_, its, _, o, h1, h2, _⟩ := (show ObjOk X.prog X.w H s.heap b (.tup xs) from I.hok b _ hb)
    exact rbin_zero (op := .FloorDiv) I.kIn J R.sf ⟨_, h1, h2⟩ R.own R.ref R.fn nf_tup_fd back
  | @dct b kvs hb =>
    cases (show v = Value.ref b from rx)
    obtain ⟨_, _, vs, _, o, es, ep, h1, h2, _⟩ := (show ObjOk X.prog X.w H s.heap b (.dK kvs) from I.hok b _ hb)
    exact rbin_zero (op := .FloorDiv) I.kIn J R.sf ⟨_, h1, h2.1⟩ R.own R.ref R.fn nf_dict_fd back
end
end My
set_option Elab.async false
set_option linter.all false
set_option maxRecDepth 100000
set_option maxHeartbeats 4000000
namespace My
open PySem PySem.Spec PyProof.Rows L2
abbrev tab0 : Obj := { cls := .none, data := .fields #[] }
/-- where the maker's code object lies, its table, which is empty -/
structure Maker (K : PySem.W.Frag) (h : Heap) (c P : Addr) : Prop where
  tab : h.get? P = some tab0
  out : K.lookup P = none
  code : PySem.W.CodeHd h c P
theorem callT {P : Program} {w : World} {K : PySem.W.Frag} {mg mb : Str → Option Value} {k : Nat} {fa a c Pt : Addr} {fd : FuncData} {x : Str} {sp : Sp} {s1 : Shared} {us : List Value} {ns : List Int}
    (inK : K.In s1.heap) (gl : s1.heap.Ns mainGlobals mg) (bi : s1.heap.Ns builtinsNs mb) (bb : ∀ x : Str, x ≠ "__name__" → mb x = bootBuiltins x) (nol : s1.heap.NoLimit) (gens : s1.gens = #[]) (mk : Maker K s1.heap c Pt)
    (bmod : ∃ (bm : Addr) (ob : Obj), mg "__builtins__" = some (.ref bm) ∧ bm ≠ builtinsNs ∧ s1.heap.get? bm = some ob ∧ ob.cls = .type "module" ∧ ob.dict = some builtinsNs ∧ ob.data = .plain)
    (scr : s1.heap.get? a = some { cls := .type "list", data := .seq us.toArray }) (iv : IntsAre us ns) (few : ns.length ≤ sizeLine) (room : Room k callerA)
    (F : ∀ base : Heap, K.In base → base.Ns mainGlobals mg → LamX.TabB base mg c Pt → FnG P w K mg base CX0 k fa fd [x] sp) (bnd : ∀ (s : Shared) (u : Value), BindsTo s fd ⟨[u], []⟩ [(x, u)])
    (hsp : ∀ H : Hp, H Pt = some (.tbl #[]) → SqL K H a (ns.map V.int) → sp [.ref a] H (fun v _ => v = .bl true) fun _ _ _ => False) :
    codeAny (model P w) callerA (.call (.ref fa) ⟨[.ref a], []⟩) (fun r s' => r = .ok (.ret (.bool true)) ∧ OldK s1.heap s'.heap ∧ s'.os = s1.os ∧ AllBare s'.gens) s1 := by
  have rv := vals_ints iv
  have cnt := iv.length
  have aP : a ≠ Pt := fun z => by
    have e := mk.tab
    rw [← z, scr] at e
    have d : Data.seq us.toArray 0 = Data.fields #[] := congrArg Obj.data (Option.some.inj e)
    cases d
  have main : ∀ H : Hp, H Pt = some (.tbl #[]) → (∀ b, H b = none ∨ b = Pt ∨ (b = a ∧ ∃ ob xs, H b = some (.frz ob (.lst xs)))) → SqL K H a (ns.map V.int) → HOk P w H s1.heap → (H a ≠ none → K.lookup a = none) →
      codeAny (model P w) callerA (.call (.ref fa) ⟨[.ref a], []⟩) (fun r s' => r = .ok (.ret (.bool true)) ∧ OldK s1.heap s'.heap ∧ s'.os = s1.os ∧ AllBare s'.gens) s1 := by
    intro H hP only seq ok off
    have free : ∀ {b : Addr}, b ≠ Pt → (b = a → H b = none) → H b = none := fun {b} n1 n2 => by
      rcases only b with z | z | ⟨z, _⟩
      · exact z
      · exact absurd z n1
      · exact n2 z
    have noSeq : ∀ {b : Addr} {o : Obj}, s1.heap.get? b = some o → (∀ xs n, o.data ≠ .seq xs n) → b ≠ Pt → H b = none := fun {b o} e d n => free n fun z => by
      rw [z, scr] at e
      cases e
      exact absurd rfl (d us.toArray 0)
    have noTab : ∀ {b : Addr} {o : Obj}, s1.heap.get? b = some o → o.data ≠ .fields #[] → b ≠ Pt := fun {b o} e d z => by
      rw [z, mk.tab] at e
      cases e
      exact d rfl
    have dict : ∀ {b : Addr} {o : Obj} {es : Array DictEntry} {ep : Nat}, s1.heap.get? b = some o → o.data = .dict es ep → H b = none := fun {b o es ep} e d =>
      noSeq e (fun xs n z => by rw [d] at z; cases z) (noTab e fun z => by rw [d] at z; cases z)
    have get : ∀ {b : Addr} {o : Obj}, s1.heap.get? b = some o → H b = none → (hidT s1.heap H).get? b = some o := fun e z => hidT_get e z
    have names : ∀ {b : Addr} {m : Str → Option Value}, s1.heap.Ns b m → (hidT s1.heap H).Ns b m := fun ⟨o, es, ep, e, d, q⟩ => ⟨o, es, ep, get e (dict e d), d, q⟩
    have inB : K.In (hidT s1.heap H) := fun b o e => get (inK b o e) (free (fun z => by rw [z, mk.out] at e; cases e) fun z => by
      subst z
      refine Classical.byContradiction fun y => ?_
      rw [off y] at e
      cases e)
    have md : Mod K mg (hidT s1.heap H) := ⟨inB, names gl, ⟨mb, names bi, bb⟩, let ⟨mc, q1, q2⟩ := nol; ⟨mc, names q1, q2⟩⟩
    have env : Env0 P w K mg (hidT s1.heap H) callerA [] s1 H := ⟨rfl, md, fun b o e => of_hidT e, Nat.le_of_eq (hidT_size _ _), trivial, fun b hb => absurd (show b ∈ ([] : List Addr) from hb) (by simp), ok, .of_eq gens⟩
    have TB : LamX.TabB (hidT s1.heap H) mg c Pt := by
      obtain ⟨og, eg, pg, g1, g2, _⟩ := id gl
      have gP : mainGlobals ≠ Pt := noTab g1 fun z => by rw [g2] at z; cases z
      refine ⟨?_, ?_, gP⟩
      · obtain ⟨oc, vs, file, tf, flags, tg, inF, text, tt, e1, e2, e3, e4, rest⟩ := mk.code
        have ne : oc.data ≠ .fields #[] := fun z => by
          rw [e3] at z
          cases z
          simp at e4
        exact ⟨oc, vs, file, tf, flags, tg, inF, text, tt, get e1 (noSeq e1 (fun xs n z => by rw [e3] at z; cases z) (noTab e1 ne)), e2, e3, e4, rest⟩
      · obtain ⟨bm, ob, b1, b2, b3, b4, b5, b6⟩ := bmod
        have n1 : bm ≠ Pt := noTab b3 fun z => by rw [b6] at z; cases z
        have n2 : bm ≠ mainGlobals := fun z => by
          rw [z, g1] at b3
          cases b3
          rw [g2] at b6
          cases b6
        exact ⟨bm, ob, b1, b2, n2, n1, get b3 (noSeq b3 (fun xs n z => by rw [b6] at z; cases z) n1), b4, b5, b6⟩
    have run := (F _ inB (names gl) TB).run callerA [] s1 H ⟨[.ref a], []⟩ [.ref a] [.ref a] _ _ rfl room env (bnd s1 (.ref a)) (.cons rfl .nil) (hsp H hP seq)
    refine codeAny_mono run fun r s' h => ?_
    match r, h with
    | .error e, h => exact h.elim
    | .ok .next, h => exact h.elim
    | .ok .brk, h => exact h.elim
    | .ok .cont, h => exact h.elim
    | .ok (.ret u), ⟨v, H', os, bare, un, ok', ru, q⟩ =>
      cases (show v = V.bl true from q)
      cases (show u = Value.bool true from ru)
      obtain ⟨more, g⟩ := un.tbls Pt #[] hP
      have grown : s'.heap.get? Pt = some { cls := .none, data := .fields (#[] ++ more) } := ok' Pt _ g
      have same : ∀ b o, b ≠ Pt → s1.heap.get? b = some o → s'.heap.get? b = some o := fun b o nb e => by
        rcases only b with z | z | ⟨_, ob, xs, z⟩
        · exact un.keep b o e z (by intro y; exact absurd (show b ∈ ([] : List Addr) from y) (by simp)) (by simp)
        · exact absurd z nb
        · obtain ⟨g1, _⟩ := ok b _ z
          obtain ⟨g2, _⟩ := ok' b _ (un.frzs b ob _ z)
          rw [e] at g1
          cases g1
          exact g2
      refine ⟨rfl, ⟨fun b o e => ?_, fun b o e => ?_⟩, os, bare⟩
      · by_cases z : b = Pt
        · subst z
          cases mk.tab.symm.trans e
          exact .inr (.inl ⟨(mk.code.tab mk.tab).isCodeTable, rfl, #[], more, rfl, grown⟩)
        · exact .inl (same b o z e)
      · by_cases z : b = Pt
        · subst z
          exact ⟨_, grown⟩
        · exact ⟨o, same b o z e⟩
  cases own : K.lookup a with
  | some o =>
    have e := inK a o own
    rw [scr] at e
    cases e
    refine main (fun b => if b = Pt then some (.tbl #[]) else none) (if_pos rfl) (fun b => ?_) (.inr ⟨_, us.toArray, _, own, rfl, rfl, rfl, by rw [List.size_toArray, cnt]; exact few, by simpa using rv⟩) (fun b u z => ?_) fun z => absurd (if_neg aP) z
    · by_cases y : b = Pt
      · exact .inr (.inl y)
      · exact .inl (if_neg y)
    · by_cases y : b = Pt
      · cases (if_pos y).symm.trans z
        subst y
        exact mk.tab
      · cases (if_neg y).symm.trans z
  | none =>
    refine main (fun b => if b = Pt then some (.tbl #[]) else if b = a then some (.frz { cls := .type "list", data := .seq us.toArray } (.lst (ns.map V.int))) else none) (if_pos rfl) (fun b => ?_) (.inl (.inr ⟨_, (if_neg aP).trans (if_pos rfl)⟩)) (fun b u z => ?_) fun _ => own
    · by_cases y : b = Pt
      · exact .inr (.inl y)
      · by_cases y2 : b = a
        · exact .inr (.inr ⟨y2, _, _, (if_neg y).trans (if_pos y2)⟩)
        · exact .inl ((if_neg y).trans (if_neg y2))
    · by_cases y : b = Pt
      · cases (if_pos y).symm.trans z
        subst y
        exact mk.tab
      · by_cases y2 : b = a
        · cases ((if_neg y).trans (if_pos y2)).symm.trans z
          subst y2
          exact ⟨scr, by rw [List.length_map]; exact few, us, _, rv, scr⟩
        · cases ((if_neg y).trans (if_neg y2)).symm.trans z
/-- the def x of the top's text: its code object, its table -/
def OwnT (K : PySem.W.Frag) (mg : Str → Option Value) (h : Heap) (x : Str) : Prop := ∀ (f c P : Addr) (o : Obj) (fd : FuncData) (e : Value) (dd : Option Addr) (vs : Array Value) (sl : Array (Option Value)), mg x = some (.ref f) → K.lookup f = some o → o.data = .func fd → fd.code = .ref c →
  K.lookup c = some ⟨e, dd, .fields vs, sl⟩ → vs[11]? = some (.ref P) → h.get? P = some tab0 ∧ PySem.W.CodeHd h c P
theorem walkT {l : PySem.W.OpenLaw} {n k : Nat} {q : Program} {loose : List Str} {XP : (Str → Option Value) → Heap → Prop} {YP : World → Heap → Prop} {d : DefRec} {K : Params → PySem.W.Frag} {sp : World → Addr → Sp} {x y : Str}
    (hn : l.most = some n) (few : n ≤ sizeLine) (hdf : d.params.defaults = []) (room : Room k callerA) (hY : ∀ (w : World) (h : Heap), YP w h → (K w.params).In h) (rec : ((recsOf q).any fun e => e.name == y) = true)
    (F : ∀ (w : World) (mg : Str → Option Value) (fa : Addr) (h : Heap), (K w.params).In h → h.Ns mainGlobals mg → mg d.name = some (.ref fa) → OwnT (K w.params) mg h y →
      ∃ (fd : FuncData) (c Pt : Addr), (∀ (s : Shared) (u : Value), BindsTo s fd ⟨[u], []⟩ [(x, u)]) ∧ Maker (K w.params) h c Pt ∧ ∀ base : Heap, (K w.params).In base → base.Ns mainGlobals mg → LamX.TabB base mg c Pt → FnG l.prog w (K w.params) mg base CX0 k fa fd [x] (sp w Pt))
    (hsp : ∀ (w : World) (H : Hp) (a Pt : Addr) (ns : List Int), ns.length ≤ n → (∀ z ∈ ns, Builtin.Int.intBits z ≤ 1048576) → H Pt = some (.tbl #[]) → SqL (K w.params) H a (ns.map V.int) → sp w Pt [.ref a] H (fun v _ => v = .bl true) fun _ _ _ => False) :
    PySem.W.WalkO q loose XP YP l.row.toRowW d [] (fun f vs => PySem.call f vs) := by
  refine Att.attach_callB hn hdf fun w s0 s1 mg mb fa o pm cd doc a us ns G Y ho hd hcd hmg obj iv len bits gens => ?_
  have inK := hY w _ Y
  have own : OwnT (K w.params) mg s1.heap y := fun f c P o1 fd1 e dd vs sl k0 k1 k2 k3 k4 k5 => by
    obtain ⟨dL, hm, hq⟩ := List.any_eq_true.mp rec
    obtain ⟨a', o', fd', c', P', h1, h2, h3, h4, h5, h6⟩ := G.T.tab dL hm
    rw [beq_iff_eq.mp hq, k0] at h1
    cases h1
    rw [inK _ _ k1] at h2
    cases h2
    rw [k2] at h3
    cases h3
    rw [k3] at h4
    cases h4
    have hd := PySem.W.CodeHd.of h5 h6
    obtain ⟨⟨oc, vc, e1, _, e3, e4⟩, hP⟩ := h6
    rw [inK _ _ k4] at e1
    cases e1
    cases e3
    rw [k5] at e4
    cases e4
    exact ⟨hP, hd⟩
  obtain ⟨fd, c, Pt, bnd, mk, hF⟩ := F w mg fa _ inK G.T.g hmg own
  exact callT inK G.T.g G.T.b G.T.builtins G.T.nolimit gens mk G.T.bmain obj iv (Nat.le_trans len few) room hF bnd fun H hP seq => hsp w H a Pt ns len bits hP seq
end My
set_option linter.all false
namespace My
structure OkL (ls : List Int) : Prop where
  ne : 0 < ls.length
  pos : ∀ l ∈ ls, 1 ≤ l
def spotN : List Int → Int → Nat
  | [], _ => 0
  | l :: r, p => if l ≤ p then spotN r (p - l) + 1 else 0
def ixD (ls : List Int) (d : Int) : Nat := spotN ls (d % ls.sum)
def plcD (ls : List Int) (d : Int) : Int := d % ls.sum - (ls.take (ixD ls d)).sum
def blkD (ls : List Int) (d : Int) : Int := d / ls.sum * ls.length + ixD ls d
def lenD (ls : List Int) (d : Int) : Int := ls.getD (ixD ls d) 0
def fstD (ls : List Int) (d : Int) : Int := d - plcD ls d
/-- the block with the number b, first day f, length l, has the day d -/
def At (ls : List Int) (d b f l : Int) : Prop := f ≤ d ∧ d < f + l ∧ ∃ (k : Int) (i : Nat), b = k * ls.length + i ∧ ls[i]? = some l ∧ f = k * ls.sum + (ls.take i).sum
theorem sum_pos {ls : List Int} (h : ∀ l ∈ ls, 1 ≤ l) : (ls.length : Int) ≤ ls.sum := by
  induction ls with
  | nil => simp
  | cons a r ih =>
    have h1 := h a (by simp)
    have h2 := ih fun l hl => h l (by simp [hl])
    rw [List.sum_cons, List.length_cons]
    omega
theorem OkL.sum {ls : List Int} (o : OkL ls) : 0 < ls.sum := by
  have := sum_pos o.pos
  have := o.ne
  omega
theorem spot_run {ls : List Int} (h : ∀ l ∈ ls, 1 ≤ l) : ∀ p : Int, 0 ≤ p → p < ls.sum → ∃ l, ls[spotN ls p]? = some l ∧ (ls.take (spotN ls p)).sum ≤ p ∧ p < (ls.take (spotN ls p)).sum + l := by
  induction ls with
  | nil => intro p h0 h1; simp at h1; omega
  | cons a r ih =>
    intro p h0 h1
    unfold spotN
    by_cases c : a ≤ p
    · rw [if_pos c]
      rw [List.sum_cons] at h1
      obtain ⟨l, e, q1, q2⟩ := ih (fun l hl => h l (by simp [hl])) (p - a) (by omega) (by omega)
      refine ⟨l, by simpa using e, ?_, ?_⟩
      · rw [List.take_succ_cons, List.sum_cons]; omega
      · rw [List.take_succ_cons, List.sum_cons]; omega
    · rw [if_neg c]
      have := h a (by simp)
      exact ⟨a, by simp, by simp; omega, by simp; omega⟩
theorem take_next {ls : List Int} {i : Nat} {l : Int} (e : ls[i]? = some l) : (ls.take (i + 1)).sum = (ls.take i).sum + l := by
  rw [List.take_add_one, e]
  simp
theorem take_le {ls : List Int} (h : ∀ l ∈ ls, 1 ≤ l) {i j : Nat} (hij : i ≤ j) : (ls.take i).sum ≤ (ls.take j).sum := by
  have e : ls.take j = ls.take i ++ (ls.drop i).take (j - i) := by
    rw [← List.take_add]
    congr 1
    omega
  rw [e, List.sum_append]
  have := sum_pos (ls := (ls.drop i).take (j - i)) fun l hl => h l (List.mem_of_mem_drop (List.mem_of_mem_take hl))
  omega
theorem lt_of_idx {ls : List Int} {i : Nat} {l : Int} (e : ls[i]? = some l) : i < ls.length := (List.getElem?_eq_some_iff.mp e).1
theorem at_day {ls : List Int} (o : OkL ls) (d : Int) : At ls d (blkD ls d) (fstD ls d) (lenD ls d) := by
  have T := o.sum
  obtain ⟨l, e, q1, q2⟩ := spot_run o.pos (d % ls.sum) (Int.emod_nonneg _ (by omega)) (Int.emod_lt_of_pos _ T)
  have hl : lenD ls d = l := by
    unfold lenD ixD
    rw [List.getD_eq_getElem?_getD, e]
    rfl
  have hd : d = d / ls.sum * ls.sum + d % ls.sum := by
    have := Int.mul_ediv_add_emod d ls.sum
    rw [Int.mul_comm] at this
    omega
  unfold At
  rw [hl]
  unfold fstD plcD ixD
  refine ⟨by omega, by omega, d / ls.sum, spotN ls (d % ls.sum), rfl, e, by omega⟩
theorem day_range {ls : List Int} (o : OkL ls) (d : Int) : fstD ls d ≤ d ∧ d < fstD ls d + lenD ls d := ⟨(at_day o d).1, (at_day o d).2.1⟩
theorem rest_turns (ls : List Int) (d : Int) : d / ls.sum * ls.sum + d % ls.sum = d := by
  have := Int.mul_ediv_add_emod d ls.sum
  rw [Int.mul_comm] at this
  exact this
/-- the walk through the lengths -/
theorem spot_step {ls : List Int} (o : OkL ls) {d : Int} {i : Nat} {l : Int} (hi : i ≤ ixD ls d) (e : ls[i]? = some l) : (l ≤ d % ls.sum - (ls.take i).sum ↔ i < ixD ls d) := by
  have T := o.sum
  obtain ⟨m, em, q1, q2⟩ := spot_run o.pos (d % ls.sum) (Int.emod_nonneg _ (by omega)) (Int.emod_lt_of_pos _ T)
  constructor
  · intro h
    rcases Nat.lt_or_ge i (ixD ls d) with c | c
    · exact c
    · have z : i = ixD ls d := by omega
      rw [z] at e h
      have em' : ls[ixD ls d]? = some m := em
      rw [e] at em'
      cases em'
      have q2' : d % ls.sum < (ls.take (ixD ls d)).sum + l := q2
      omega
  · intro h
    have h1 := take_le o.pos (i := i + 1) (j := ixD ls d) h
    rw [take_next e] at h1
    have q1' : (ls.take (ixD ls d)).sum ≤ d % ls.sum := q1
    omega
theorem ix_lt {ls : List Int} (o : OkL ls) (d : Int) : ixD ls d < ls.length ∧ ls[ixD ls d]? = some (lenD ls d) := by
  have T := o.sum
  obtain ⟨m, em, q1, q2⟩ := spot_run o.pos (d % ls.sum) (Int.emod_nonneg _ (by omega)) (Int.emod_lt_of_pos _ T)
  have em' : ls[ixD ls d]? = some m := em
  have hl : lenD ls d = m := by
    unfold lenD
    rw [List.getD_eq_getElem?_getD, em']
    rfl
  exact ⟨lt_of_idx em', by rw [hl]; exact em'⟩
end My
set_option Elab.async false
set_option linter.all false
set_option maxRecDepth 100000
set_option maxHeartbeats 4000000
namespace My
open PySem PySem.Spec PyProof.Rows L2
def top (i : Nat) : Stmt := PySem.Challenge.pw_remadedays_k14_blocks_of_days.main.body.getD i (.Pass ⟨0, 0, 0, 0⟩)
abbrev sWhole : Stmt := top 9
abbrev sBetw : Stmt := top 10
abbrev sDay : Stmt := top 11
abbrev sChk : Stmt := top 20
abbrev sCyc : Stmt := top 19
abbrev sInit : Stmt := inClass sCyc 0
abbrev sOf : Stmt := inClass sCyc 1
abbrev sLengths : Stmt := inClass sCyc 3
abbrev sBlock : Stmt := inClass sCyc 9
abbrev sFirst : Stmt := inClass sCyc 10
abbrev sLast : Stmt := inClass sCyc 11
abbrev sPlace : Stmt := inClass sCyc 12
abbrev sLength : Stmt := inClass sCyc 13
abbrev sRmod : Stmt := inClass sCyc 14
abbrev sRfdiv : Stmt := inClass sCyc 15
abbrev sSpot : Stmt := inClass sCyc 18
abbrev sEnds : Stmt := inClass sCyc 19
theorem lt_ne : ¬ (("_lengths" : Str) = "_total") := by decide +kernel
def flds (t : Addr) (n : Int) : List (Str × V) := putF "_total" (.int n) (putF "_lengths" (.ref t) [])
theorem flds_l (t : Addr) (n : Int) : (flds t n).lookup ("_lengths" : Str) = some (.ref t) := by
  unfold flds
  rw [lookup_putF, if_neg lt_ne, lookup_putF, if_pos rfl]
theorem flds_t (t : Addr) (n : Int) : (flds t n).lookup ("_total" : Str) = some (.int n) := by
  unfold flds
  rw [lookup_putF, if_pos rfl]
theorem flds_no (t : Addr) (n : Int) {m : Str} (h1 : ¬ m = "_total") (h2 : ¬ m = "_lengths") : (flds t n).lookup m = none := by
  unfold flds
  rw [lookup_putF, if_neg h1, lookup_putF, if_neg h2]
  all_goals rfl
/-- lengths that a cycle may have -/
structure Good (ls : List Int) : Prop where
  pos : ∀ l ∈ ls, 1 ≤ l ∧ l ≤ 60
  ne : 0 < ls.length
  few : ls.length ≤ 12
  sum : ls.sum ≤ 60
theorem Good.ok {ls : List Int} (g : Good ls) : OkL ls := ⟨g.ne, fun l hl => (g.pos l hl).1⟩
/-- a Cycle of these lengths stands at p -/
structure CycAt (C : Addr) (H : Hp) (p : Addr) (ls : List Int) : Prop where
  ob : ∃ dx t, H p = some (.ins C dx (flds t ls.sum)) ∧ H t = some (.tup (ls.map V.int))
  ok : Good ls
theorem CycAt.same {C : Addr} {H H' : Hp} {p : Addr} {ls : List Int} (c : CycAt C H p ls) (s : Same H H') : CycAt C H' p ls :=
  ⟨let ⟨dx, t, h1, h2⟩ := c.ob; ⟨dx, t, s _ _ h1, s _ _ h2⟩, c.ok⟩
/-- all that was tracked but the list at p is as it was -/
def SameBut (p : Addr) (H H' : Hp) : Prop := ∀ b o, b ≠ p → H b = some o → H' b = some o
theorem Same.but {p : Addr} {H H' : Hp} (s : Same H H') : SameBut p H H' := fun b o _ e => s b o e
theorem SameBut.trans {p : Addr} {H H1 H2 : Hp} (a : SameBut p H H1) (b : SameBut p H1 H2) : SameBut p H H2 := fun c o n e => b c o n (a c o n e)
theorem SameBut.refl (p : Addr) (H : Hp) : SameBut p H H := fun _ _ _ e => e
theorem CycAt.but {C : Addr} {H H' : Hp} {p q : Addr} {ls : List Int} (c : CycAt C H p ls) (s : SameBut q H H') {xs : List V} (hq : H q = some (.lst xs)) : CycAt C H' p ls :=
  ⟨let ⟨dx, t, h1, h2⟩ := c.ob; ⟨dx, t, s _ _ (ne_of h1 hq (by intro z; cases z)) h1, s _ _ (ne_of h2 hq (by intro z; cases z)) h2⟩, c.ok⟩
theorem same_new {H : Hp} {p : Addr} {o : HO} (h : H p = none) : Same H (upd H p o) := fun b q e => by
  rw [upd_ne (ne_of_none e h)]
  exact e
structure Txt (K : PySem.W.Frag) (mg : Str → Option Value) (C fWhole fBetw fDay fChk : Addr) : Prop where
  cl : Cls K C
  nL : NoAttr K C "_lengths"
  nT : NoAttr K C "_total"
  gCyc : mg "Cycle" = some (.ref C)
  gWhole : mg "is_whole" = some (.ref fWhole)
  gBetw : mg "is_between" = some (.ref fBetw)
  gDay : mg "is_day" = some (.ref fDay)
  gChk : mg "check_lengths" = some (.ref fChk)
  gBey : ∃ t, mg "BEYOND" = some (.int (10 ^ 60) t)
  gMB : ∃ t, mg "MOST_BLOCKS" = some (.int 12 t)
  gMT : ∃ t, mg "MOST_TOTAL" = some (.int 60 t)
  zIsi : mg "isinstance" = none
  zInt : mg "int" = none
  zBool : mg "bool" = none
  zEnum : mg "enumerate" = none
  zLen : mg "len" = none
  zSum : mg "sum" = none
  zList : mg "list" = none
  zTuple : mg "tuple" = none
  zRange : mg "range" = none
  zAbs : mg "abs" = none
section
variable {P : Program} {w : World} {K : PySem.W.Frag} {mg : Str → Option Value} {base : Heap} {C fWhole fBetw fDay fChk : Addr}
def spWhole (K : PySem.W.Frag) : Sp := fun vs H Q _ => ∃ (x : V) (t : String) (b1 b2 : Bool), vs = [x] ∧ TyX K H x (.type t) ∧ kitB t "int" = some b1 ∧ kitB t "bool" = some b2 ∧ Q (.bl (b1 && !b2)) H
theorem scWhole : FnScope ["value"] ["value"] (defScope sWhole) := ⟨rfl, rfl, rfl, by decide +kernel, rfl, by decide +kernel, by decide +kernel⟩
theorem ok_whole {f : Addr} {fd : FuncData} (F : Fun K "is_whole" "is_whole" sWhole f fd) (T : Txt K mg C fWhole fBetw fDay fChk) : FnOk P w K mg base CX0 1 f fd ["value"] (spWhole K) := by
  refine F.ok scWhole (fun vs H Q E h => ?_) (fun cdv A outer s H vs Q E hr h => ?_)
  · obtain ⟨x, t, b1, b2, rfl, _⟩ := h
    rfl
  · obtain ⟨x, t, b1, b2, rfl, ty, h1, h2, k⟩ := h
    refine ⟨_, pss_one (ps_ret (pe_and (pe_callB call_isi (by rfl) T.zIsi (by decide +kernel) (pa_cons (pv 0) (pa_cons (pe_bltn (v := .ty "int") (by rfl) T.zInt (by decide +kernel) rfl) pa_nil)))
      (pe_one (pe_not (pe_callB call_isi (by rfl) T.zIsi (by decide +kernel) (pa_cons (pv 0) (pa_cons (pe_bltn (v := .ty "bool") (by rfl) T.zBool (by decide +kernel) rfl) pa_nil))))))), ?_⟩
    refine ⟨_, rfl, x, .ty "int", _, _, b1, rfl, .ty "int", ty, kit_ty h1, b1, rfl, ?_⟩
    cases b1 with
    | true => exact iteT ⟨_, rfl, x, .ty "bool", _, _, b2, rfl, .ty "bool", ty, kit_ty h2, b2, rfl, k⟩
    | false => exact iteF k
/-- value, low, high: low and high ints -/
def spBetw (K : PySem.W.Frag) : Sp := fun vs H Q _ => ∃ (x : V) (t : String) (b1 b2 : Bool) (lo hi : Int), vs = [x, .int lo, .int hi] ∧ TyX K H x (.type t) ∧ kitB t "int" = some b1 ∧ kitB t "bool" = some b2 ∧
  ((b1 && !b2) = false → Q (.bl false) H) ∧ ((b1 && !b2) = true → ∃ i, x = .int i ∧ Q (.bl (decide (lo ≤ i) && decide (i ≤ hi))) H)
theorem scBetw : FnScope ["value", "low", "high"] ["value", "low", "high"] (defScope sBetw) := ⟨rfl, rfl, rfl, by decide +kernel, rfl, by decide +kernel, by decide +kernel⟩
theorem ok_betw {f : Addr} {fd fdW : FuncData} (F : Fun K "is_between" "is_between" sBetw f fd) (T : Txt K mg C fWhole fBetw fDay fChk) (FW : Fun K "is_whole" "is_whole" sWhole fWhole fdW) (bW : Binds K fdW ["value"] []) :
    FnOk P w K mg base CX0 2 f fd ["value", "low", "high"] (spBetw K) := by
  have GW : FnOk P w K mg base CX0 1 fWhole fdW ["value"] (spWhole K) := ok_whole FW T
  refine F.ok scBetw (fun vs H Q E h => ?_) (fun cdv A outer s H vs Q E hr h => ?_)
  · obtain ⟨x, t, b1, b2, lo, hi, rfl, _⟩ := h
    rfl
  · obtain ⟨x, t, b1, b2, lo, hi, rfl, ty, h1, h2, k0, k1⟩ := h
    refine ⟨_, pss_one (ps_ret (pe_and (pe_call GW hr rfl T.gWhole FW.kp bW .nil pass0 (pa_cons (pv 0) pa_nil)) (pe_one (pe_chain op_le op_le (pv 1) (pv 0) (pv 2))))), ?_⟩
    refine ⟨_, rfl, x, t, b1, b2, rfl, ty, h1, h2, _, rfl, ?_⟩
    cases e : (b1 && !b2) with
    | false => exact iteF (k0 e)
    | true =>
      obtain ⟨i, rfl, k⟩ := k1 e
      refine iteT ⟨_, rfl, _, rfl, _, _, rfl, rfl, _, rfl, ?_⟩
      by_cases c : lo ≤ i
      · rw [decide_eq_true c] at k ⊢
        exact iteT ⟨_, rfl, _, _, rfl, rfl, k⟩
      · rw [decide_eq_false c] at k ⊢
        exact iteF k
/-- whether an int is a day -/
def dayB (i : Int) : Bool := decide (1 - 10 ^ 60 ≤ i) && decide (i ≤ 10 ^ 60 - 1)
def spDay (K : PySem.W.Frag) : Sp := fun vs H Q _ => ∃ (x : V) (t : String) (b1 b2 : Bool), vs = [x] ∧ TyX K H x (.type t) ∧ kitB t "int" = some b1 ∧ kitB t "bool" = some b2 ∧
  ((b1 && !b2) = false → Q (.bl false) H) ∧ ((b1 && !b2) = true → ∃ i, x = .int i ∧ Q (.bl (dayB i)) H)
theorem scDay : FnScope ["value"] ["value"] (defScope sDay) := ⟨rfl, rfl, rfl, by decide +kernel, rfl, by decide +kernel, by decide +kernel⟩
theorem ok_day {f : Addr} {fd fdW fdB : FuncData} (F : Fun K "is_day" "is_day" sDay f fd) (T : Txt K mg C fWhole fBetw fDay fChk) (FW : Fun K "is_whole" "is_whole" sWhole fWhole fdW) (bW : Binds K fdW ["value"] [])
    (FB : Fun K "is_between" "is_between" sBetw fBetw fdB) (bB : Binds K fdB ["value", "low", "high"] []) : FnOk P w K mg base CX0 3 f fd ["value"] (spDay K) := by
  have GB : FnOk P w K mg base CX0 2 fBetw fdB ["value", "low", "high"] (spBetw K) := ok_betw FB T FW bW
  obtain ⟨tb, gb⟩ := T.gBey
  refine F.ok scDay (fun vs H Q E h => ?_) (fun cdv A outer s H vs Q E hr h => ?_)
  · obtain ⟨x, t, b1, b2, rfl, _⟩ := h
    rfl
  · obtain ⟨x, t, b1, b2, rfl, ty, h1, h2, k0, k1⟩ := h
    refine ⟨_, pss_one (ps_ret (pe_call GB hr rfl T.gBetw FB.kp bB .nil pass0 (pa_cons (pv 0) (pa_cons (pe_op op_sub pe_int (pe_glob (v := .int (10 ^ 60)) rfl gb ⟨_, rfl⟩)) (pa_cons (pe_op op_sub (pe_glob (v := .int (10 ^ 60)) rfl gb ⟨_, rfl⟩) pe_int) pa_nil))))), ?_⟩
    exact ⟨_, rfl, _, _, rfl, rfl, _, _, rfl, rfl, x, t, b1, b2, _, _, rfl, ty, h1, h2, k0, k1⟩
theorem kii : kitB "int" "int" = some true := by decide +kernel
theorem kib : kitB "int" "bool" = some false := by decide +kernel
theorem tnf0 {A : Prop} (h : (true && !false) = false) : A := by cases h
def spChk : Sp := fun vs H Q _ => ∃ (t : Addr) (ls : List Int), vs = [.ref t] ∧ H t = some (.tup (ls.map V.int)) ∧ Good ls ∧ ∀ H', Same H H' → Q .non H'
theorem scChk : FnScope ["lengths", "at", "length"] ["lengths"] (defScope sChk) := ⟨rfl, rfl, rfl, by decide +kernel, rfl, by decide +kernel, by decide +kernel⟩
theorem ok_chk {f : Addr} {fd fdW fdB : FuncData} (F : Fun K "check_lengths" "check_lengths" sChk f fd) (T : Txt K mg C fWhole fBetw fDay fChk) (FW : Fun K "is_whole" "is_whole" sWhole fWhole fdW) (bW : Binds K fdW ["value"] [])
    (FB : Fun K "is_between" "is_between" sBetw fBetw fdB) (bB : Binds K fdB ["value", "low", "high"] []) : FnOk P w K mg base CX0 3 f fd ["lengths"] spChk := by
  have GB : FnOk P w K mg base CX0 2 fBetw fdB ["value", "low", "high"] (spBetw K) := ok_betw FB T FW bW
  obtain ⟨tb, gb⟩ := T.gMB
  obtain ⟨tt, gt⟩ := T.gMT
  refine F.ok scChk (fun vs H Q E h => ?_) (fun cdv A outer s H vs Q E hr h => ?_)
  · obtain ⟨t, ls, rfl, _⟩ := h
    rfl
  · obtain ⟨t, ls, rfl, ht, g, k⟩ := h
    refine ⟨_, pss_cons (ps_for PassesOwn.never rfl (pi_enumT (by rfl) T.zEnum (pa_cons (pv 0) pa_nil)) (pg_tup rfl (pgs_cons (pg_name (i := 1) scChk.nd rfl (.inl rfl)) (pgs_cons (pg_name (i := 2) scChk.nd rfl (.inl rfl)) pgs_nil)))
        (pss_one (ps_if (pt_not (pt_val (pe_call GB hr rfl T.gBetw FB.kp bB .nil pass0 (pa_cons (pv 2) (pa_cons pe_int (pa_cons (pe_glob (v := .int 60) rfl gt ⟨_, rfl⟩) pa_nil)))))) pss_never pss_nil)))
      (pss_cons (ps_if (pt_not (pt_truth (pv 0) (by intro _; rfl))) pss_never pss_nil)
      (pss_cons (ps_if (pt_cmpR op_gt (pe_callB call_len_seq (by rfl) T.zLen PySem.boot_len (pa_cons (pv 0) pa_nil)) (pe_glob (v := .int 12) rfl gb ⟨_, rfl⟩) (nomark _)) pss_never pss_nil)
      (pss_one (ps_if (pt_cmpR op_gt (pe_callB (cr_sumT rfl) (by rfl) T.zSum (by decide +kernel) (pa_cons (pv 0) pa_nil)) (pe_glob (v := .int 60) rfl gt ⟨_, rfl⟩) (nomark _)) pss_never pss_nil)))), ?_⟩
    refine ⟨_, rfl, t, ls.map V.int, rfl, SqT.of ht, for_enumT (K := K) (a := t) (xs := ls.map V.int) (fun i σ H' => ∃ (u v : Option V), σ = [some (.ref t), u, v] ∧ Same H H')
      ⟨none, none, rfl, Same.refl H⟩ (fun i σ H' _ ⟨_, _, _, s1⟩ => SqT.of (s1 _ _ ht)) ?_ ?_⟩
    · rintro i x σ H' Tn hi ⟨u, v, rfl, s1⟩ hT
      obtain ⟨z, hz, rfl⟩ : ∃ z, ls[i]? = some z ∧ x = V.int z := by
        rw [List.getElem?_map] at hi
        cases e : ls[i]? with
        | none => rw [e] at hi; cases hi
        | some z => rw [e] at hi; exact ⟨z, rfl, (Option.some.inj hi).symm⟩
      have hg := g.pos z (List.mem_of_getElem? hz)
      refine ⟨Tn, _, rfl, SqT.of upd_same, rfl, _, _, rfl, _, _, rfl, rfl, ?_⟩
      refine ⟨_, rfl, V.int z, "int", true, false, 1, 60, rfl, .base (.int z), kii, kib, (fun q => tnf0 q), fun _ => ⟨z, rfl, ?_⟩⟩
      refine ⟨_, rfl, ?_⟩
      rw [decide_eq_true hg.1, decide_eq_true hg.2]
      exact iteF ⟨_, _, rfl, s1.trans (same_new hT)⟩
    · rintro σ H' ⟨u, v, rfl, s1⟩
      have ht' := s1 _ _ ht
      refine ⟨_, rfl, _, .inr (.inl ⟨_, SqT.of ht', rfl⟩), ?_⟩
      have e1 : (ls.map V.int).isEmpty = false := by
        have := g.ne
        cases ls with
        | nil => simp at this
        | cons a r => rfl
      rw [e1]
      refine iteF ?_
      refine ⟨_, rfl, t, _, rfl, .inr (SqT.of ht'), _, _, rfl, rfl, _, rfl, ?_⟩
      rw [List.length_map, decide_eq_false (by have := g.few; omega)]
      refine iteF ?_
      refine ⟨_, rfl, t, ls, rfl, SqT.of ht', _, _, rfl, rfl, _, rfl, ?_⟩
      rw [decide_eq_false (by have := g.sum; omega)]
      exact iteF (k _ s1)
end
end My
namespace My
open PySem PySem.Spec PyProof.Rows L2
section
variable {P : Program} {w : World} {K : PySem.W.Frag} {mg : Str → Option Value} {base : Heap} {C fWhole fBetw fDay fChk : Addr}
def spInitB (C : Addr) : Sp := fun vs H Q _ => ∃ (p t dx : Addr) (ls : List Int), vs = [.ref p, .ref t] ∧ H p = some (.ins C dx []) ∧ H t = some (.tup (ls.map V.int)) ∧ Good ls ∧
  ∀ H', (∀ b o, H b = some o → b ≠ p → H' b = some o) → H' p = some (.ins C dx (flds t ls.sum)) → Q .non H'
theorem scInit : FnScope ["self", "lengths"] ((["self"] : List Str) ++ (["lengths"] : List Str)) (defScope sInit) := ⟨rfl, rfl, rfl, by decide +kernel, rfl, by decide +kernel, by decide +kernel⟩
theorem ok_init {f : Addr} {fd fdW fdB fdC : FuncData} (F : Fun K "__init__" "Cycle.__init__" sInit f fd) (T : Txt K mg C fWhole fBetw fDay fChk) (FW : Fun K "is_whole" "is_whole" sWhole fWhole fdW) (bW : Binds K fdW ["value"] [])
    (FB : Fun K "is_between" "is_between" sBetw fBetw fdB) (bB : Binds K fdB ["value", "low", "high"] []) (FC : Fun K "check_lengths" "check_lengths" sChk fChk fdC) (bC : Binds K fdC ["lengths"] []) :
    FnR P w K mg base CX0 4 f (fun vs H Q E => ∃ ws rest, vs = ws ++ rest ∧ ws.length = (["self"] : List Str).length ∧ rest.length ≤ sizeLine ∧ ∀ p, H p = none → spInitB C (ws ++ [V.ref p]) (upd H p (.tup rest)) Q E) := by
  have GC : FnOk P w K mg base CX0 3 fChk fdC ["lengths"] spChk := ok_chk FC T FW bW FB bB
  obtain ⟨oc, od, kV, doc, pm, an, cdv, ct, osl, rfl, lk, hcd⟩ := F.ex
  refine StX.fn_star lk hcd scInit StX.cxUp_none (StX.bind_star1 (B := fun us => bindArgs (PySem.W.fnOf "__init__" "Cycle.__init__" (defArgs sInit) (defBody sInit) (defScope sInit) .none kV doc pm an cdv ct) ⟨us, []⟩) (p1 := "self") (pv := "lengths") (fun a => by rfl) fun a r rs => by rfl) fun A outer s H vs Q E hr h => ?_
  obtain ⟨p, t, dx, ls, rfl, hp, ht, g, k⟩ := h
  have nt : t ≠ p := ne_of ht hp (by intro z; cases z)
  refine ⟨_, PSs.nox (pss_cons (ps_expr (pe_call GC hr rfl T.gChk FC.kp bC .nil pass0 (pa_cons (pv 1) pa_nil))) (pss_cons (ps_fld (pv 0) (pv 1) rfl)
    (pss_one (ps_fld (pv 0) (pe_callB (cr_sumT rfl) (by rfl) T.zSum (by decide +kernel) (pa_cons (pv 1) pa_nil)) rfl)))), ?_⟩
  refine ⟨_, rfl, t, ls, rfl, ht, g, fun H1 s1 => ?_⟩
  refine ⟨_, rfl, _, rfl, p, C, dx, _, rfl, s1 _ _ hp, T.cl, T.nL, (by show 0 < 1000; decide), ?_⟩
  refine ⟨_, rfl, t, ls, rfl, SqT.of (by rw [upd_ne nt]; exact s1 _ _ ht), _, rfl, p, C, dx, _, rfl, upd_same, T.cl, T.nT, (by show 1 < 1000; decide), ?_⟩
  refine k _ (fun b o e hb => ?_) upd_same
  rw [upd_ne hb, upd_ne hb]
  exact s1 _ _ e
theorem ty_list {K : PySem.W.Frag} {H : Hp} {a : Addr} {xs : List V} (h : SqL K H a xs) : TyX K H (.ref a) (.type "list") := by
  rcases h with (h | ⟨o, h⟩) | ⟨o, its, n, hk, hc, _⟩
  · exact .base (.lst h)
  · exact .base (.frz h)
  · exact .kList hk hc
/-- Cycle.of(lengths) -/
def spOf (K : PySem.W.Frag) (C : Addr) : Sp := fun vs H Q _ => ∃ (a : Addr) (ls : List Int), vs = [.ref C, .ref a] ∧ SqL K H a (ls.map V.int) ∧ Good ls ∧ ∀ x H', Same H H' → H x = none → CycAt C H' x ls → Q (.ref x) H'
theorem scOf : FnScope ["cls", "lengths"] ["cls", "lengths"] (defScope sOf) := ⟨rfl, rfl, rfl, by decide +kernel, rfl, by decide +kernel, by decide +kernel⟩
theorem ok_of {f fI : Addr} {fd fdI fdW fdB fdC : FuncData} (F : Fun K "of" "Cycle.of" sOf f fd) (T : Txt K mg C fWhole fBetw fDay fChk) (M : Mk K C fI) (FI : Fun K "__init__" "Cycle.__init__" sInit fI fdI) (FW : Fun K "is_whole" "is_whole" sWhole fWhole fdW) (bW : Binds K fdW ["value"] [])
    (FB : Fun K "is_between" "is_between" sBetw fBetw fdB) (bB : Binds K fdB ["value", "low", "high"] []) (FC : Fun K "check_lengths" "check_lengths" sChk fChk fdC) (bC : Binds K fdC ["lengths"] []) : FnOk P w K mg base CX0 6 f fd ["cls", "lengths"] (spOf K C) := by
  have GI : FnR P w K mg base CX0 4 fI _ := ok_init (C := C) FI T FW bW FB bB FC bC
  refine F.ok scOf (fun vs H Q E h => ?_) (fun cdv A outer s H vs Q E hr h => ?_)
  · obtain ⟨a, ls, rfl, _⟩ := h
    rfl
  · obtain ⟨a, ls, rfl, ha, g, k⟩ := h
    refine ⟨_, pss_cons (ps_if (pt_not (pt_val (pe_callB call_isiT (by rfl) T.zIsi (by decide +kernel) (pa_cons (pv 1) (pa_cons (pe_tup (pa_cons (pe_bltn (v := .ty "list") (by rfl) T.zList (by decide +kernel) rfl) (pa_cons (pe_bltn (v := .ty "tuple") (by rfl) T.zTuple (by decide +kernel) rfl) pa_nil))) pa_nil))))) pss_never pss_nil)
      (pss_one (ps_ret (pe_makeStar (i := 0) M GI hr rfl (.inl rfl) pass0 (pv 1)))), ?_⟩
    refine ⟨_, rfl, (by show 2 ≤ sizeLine; decide), fun tp htp => ?_⟩
    have s0 : Same H (upd H tp (.tup [.ty "list", .ty "tuple"])) := same_new htp
    refine ⟨_, tp, _, _, [.type "list", .type "tuple"], true, rfl, upd_same, .cons (.ty _) (.cons (.ty _) .nil), ty_list (s0.seq ha), kitAny_cons (b := true) (kit_ty (by decide +kernel)) (fun q => nomatch q) (fun _ => rfl), _, rfl, ?_⟩
    refine iteF ?_
    refine ⟨rfl, _, rfl, a, _, rfl, .inr (s0.seq ha), fun x dx nx ndx nex => ?_⟩
    refine ⟨[.ref x], ls.map V.int, rfl, rfl, ?_, fun t nt => ?_⟩
    · rw [List.length_map]
      have := g.few
      exact Nat.le_trans this (by decide)
    have nxt : x ≠ t := fun z => by
      rw [← z, upd_same] at nt
      cases nt
    have ndt : dx ≠ t := fun z => by
      rw [← z, upd_ne nex, upd_same] at nt
      cases nt
    have s1 : Same (upd H tp (.tup [.ty "list", .ty "tuple"])) (upd (upd (upd H tp (.tup [.ty "list", .ty "tuple"])) dx (.own x)) x (.ins C dx [])) := fun b o e => by
      rw [upd_ne (ne_of_none e nx), upd_ne (ne_of_none e ndx)]
      exact e
    have hx : (upd (upd (upd (upd H tp (.tup [.ty "list", .ty "tuple"])) dx (.own x)) x (.ins C dx [])) t (.tup (ls.map V.int))) x = some (.ins C dx []) := by
      rw [upd_ne nxt, upd_same]
    refine ⟨x, t, dx, ls, rfl, hx, upd_same, g, fun H' keep hx' => ⟨rfl, ?_⟩⟩
    refine k x H' (fun b o e => ?_) (s0.free nx) ⟨⟨dx, t, hx', keep _ _ upd_same (Ne.symm nxt)⟩, g⟩
    have e1 := s1 _ _ (s0 _ _ e)
    exact keep _ _ ((same_new nt) _ _ e1) (ne_of_none (s0 _ _ e) nx)
def spGetL (C : Addr) : Sp := fun vs H Q _ => ∃ (p : Addr) (ls : List Int), vs = [.ref p] ∧ CycAt C H p ls ∧ ∀ t, H t = some (.tup (ls.map V.int)) → Q (.ref t) H
theorem scLengths : FnScope ["self"] ["self"] (defScope sLengths) := ⟨rfl, rfl, rfl, by decide +kernel, rfl, by decide +kernel, by decide +kernel⟩
theorem ok_lengths {f : Addr} {fd : FuncData} (F : Fun K "lengths" "Cycle.lengths" sLengths f fd) (T : Txt K mg C fWhole fBetw fDay fChk) : FnOk P w K mg base CX0 1 f fd ["self"] (spGetL C) := by
  refine F.ok scLengths (fun vs H Q E h => ?_) (fun cdv A outer s H vs Q E hr h => ?_)
  · obtain ⟨p, ls, rfl, _⟩ := h
    rfl
  · obtain ⟨p, ls, rfl, ⟨⟨dx, t, h1, h2⟩, g⟩, k⟩ := h
    refine ⟨_, pss_one (ps_ret (pe_fld (pv 0) rfl)), ?_⟩
    exact ⟨_, rfl, p, C, dx, _, _, rfl, h1, T.cl, T.nL, flds_l _ _, k t h2⟩
def spSpot (C : Addr) : Sp := fun vs H Q _ => ∃ (p : Addr) (ls : List Int) (d : Int), vs = [.ref p, .int d] ∧ CycAt C H p ls ∧ ∀ t H', Same H H' → H' t = some (.tup [.int (ixD ls d), .int (plcD ls d)]) → Q (.ref t) H'
theorem scSpot : FnScope ["self", "day", "place", "index"] ["self", "day"] (defScope sSpot) := ⟨rfl, rfl, rfl, by decide +kernel, rfl, by decide +kernel, by decide +kernel⟩
theorem ok_spot {f : Addr} {fd : FuncData} (F : Fun K "spot" "Cycle.spot" sSpot f fd) (T : Txt K mg C fWhole fBetw fDay fChk) : FnOk P w K mg base CX0 1 f fd ["self", "day"] (spSpot C) := by
  refine F.ok scSpot (fun vs H Q E h => ?_) (fun cdv A outer s H vs Q E hr h => ?_)
  · obtain ⟨p, ls, d, rfl, _⟩ := h
    rfl
  · obtain ⟨p, ls, d, rfl, ⟨⟨dx, t, h1, h2⟩, g⟩, k⟩ := h
    have o := g.ok
    refine ⟨_, pss_cons (ps_set (i := 2) scSpot.nd rfl (Or.inl rfl) (pe_op op_mod (pv 1) (pe_fld (pv 0) rfl)))
      (pss_cons (ps_set (i := 3) scSpot.nd rfl (Or.inl rfl) pe_int)
      (pss_cons (ps_while PassesOwn.never (pt_cmpR op_ge (pv 2) (pe_ix ix_tup (pe_fld (pv 0) rfl) (pv 3) (fun _ _ => rfl)) (nomark _))
        (pss_cons (ps_set (i := 2) scSpot.nd rfl (Or.inl rfl) (pe_op op_sub (pv 2) (pe_ix ix_tup (pe_fld (pv 0) rfl) (pv 3) (fun _ _ => rfl))))
        (pss_one (ps_set (i := 3) scSpot.nd rfl (Or.inl rfl) (pe_op op_add (pv 3) pe_int)))))
      (pss_one (ps_ret (pe_tup (pa_cons (pv 3) (pa_cons (pv 2) pa_nil))))))), ?_⟩
    refine ⟨_, rfl, _, rfl, p, C, dx, _, _, rfl, h1, T.cl, T.nT, flds_t _ _, _, _, rfl, rfl, o.sum, ?_⟩
    refine while_by (fun σ H' => H' = H ∧ ∃ i : Nat, i ≤ ixD ls d ∧ σ = [some (.ref p), some (.int d), some (.int (d % ls.sum - (ls.take i).sum)), some (.int i)])
      (fun σ _ => match σ with | [_, _, _, some (.int i)] => (ixD ls d - i.toNat) | _ => 0) ⟨rfl, 0, Nat.zero_le _, by simp; rfl⟩ ?_ ?_
    · rintro σ H' ⟨rfl, i, hi, rfl⟩
      obtain ⟨x1, x2⟩ := ix_lt o d
      obtain ⟨l, e⟩ : ∃ l, ls[i]? = some l := ⟨_, List.getElem?_eq_getElem (by omega)⟩
      have em : (ls.map V.int)[i]? = some (V.int l) := by rw [List.getElem?_map, e]; rfl
      have st := spot_step o hi e
      refine ⟨_, rfl, _, rfl, p, C, dx, _, _, rfl, h1, T.cl, T.nL, flds_l _ _, _, rfl, t, _, _, _, rfl, rfl, SqT.of h2, atI_nat em, _, _, rfl, rfl, _, rfl, ?_⟩
      by_cases c : l ≤ d % ls.sum - (ls.take i).sum
      · have hlt := st.mp c
        rw [decide_eq_true c]
        refine iteT ?_
        refine ⟨_, rfl, _, rfl, p, C, dx, _, _, rfl, h1, T.cl, T.nL, flds_l _ _, _, rfl, t, _, _, _, rfl, rfl, SqT.of h2, atI_nat em, _, _, rfl, rfl, ?_⟩
        refine ⟨_, rfl, _, _, rfl, rfl, ⟨rfl, i + 1, hlt, ?_⟩, ?_⟩
        · rw [take_next e]
          have e1 : d % ls.sum - (ls.take i).sum - l = d % ls.sum - ((ls.take i).sum + l) := by omega
          have e2 : ((i + 1 : Nat) : Int) = (i : Int) + 1 := by omega
          rw [e2, ← e1]
          rfl
        · show ixD ls d - ((i : Int) + 1).toNat < ixD ls d - (i : Int).toNat
          omega
      · have hix : i = ixD ls d := by
          have : ¬ i < ixD ls d := fun z => c (st.mpr z)
          omega
        rw [decide_eq_false c]
        refine iteF ?_
        refine ⟨_, rfl, _, rfl, (by show 2 ≤ sizeLine; decide), fun q hq => ?_⟩
        refine k q _ (same_new hq) ?_
        rw [upd_same, hix]
        rfl
    · rintro σ H' Q1 Q2 m ⟨v2, e2, v0, e0, a, C', dx', fs, v', q1, q2, q3, q4, q5, v3, e3, pp, xs, ii, vv, r1, r2, r3, r4, x, y, z1, z2, kk, z3, z4⟩
      exact ⟨v2, e2, v0, e0, a, C', dx', fs, v', q1, q2, q3, q4, q5, v3, e3, pp, xs, ii, vv, r1, r2, r3, r4, x, y, z1, z2, kk, z3, m _ _ z4⟩
end
end My
namespace My
open PySem PySem.Spec PyProof.Rows L2
section
variable {P : Program} {w : World} {K : PySem.W.Frag} {mg : Str → Option Value} {base : Heap} {C fWhole fBetw fDay fChk fSpot fEnds : Addr} {fdS fdD : FuncData}
def spEnds (C : Addr) : Sp := fun vs H Q _ => ∃ (p : Addr) (ls : List Int) (d : Int), vs = [.ref p, .int d] ∧ CycAt C H p ls ∧ ∀ t H', Same H H' → H' t = some (.tup [.int (fstD ls d), .int (fstD ls d + lenD ls d - 1)]) → Q (.ref t) H'
theorem scEnds : FnScope ["self", "day", "index", "place"] ["self", "day"] (defScope sEnds) := ⟨rfl, rfl, rfl, by decide +kernel, rfl, by decide +kernel, by decide +kernel⟩
/-- what a method of Cycle needs of the others: spot is a method that keeps its promise -/
structure SpotM (P : Program) (w : World) (K : PySem.W.Frag) (mg : Str → Option Value) (base : Heap) (C fSpot : Addr) (fd : FuncData) : Prop where
  F : FnOk P w K mg base CX0 1 fSpot fd ["self", "day"] (spSpot C)
  b : Binds K fd ["self", "day"] []
  m : Meth K C "spot" fSpot
structure EndsM (P : Program) (w : World) (K : PySem.W.Frag) (mg : Str → Option Value) (base : Heap) (C fEnds : Addr) (fd : FuncData) : Prop where
  F : FnOk P w K mg base CX0 2 fEnds fd ["self", "day"] (spEnds C)
  b : Binds K fd ["self", "day"] []
  m : Meth K C "ends" fEnds
structure DayM (P : Program) (w : World) (K : PySem.W.Frag) (mg : Str → Option Value) (base : Heap) (fDay : Addr) (fd : FuncData) : Prop where
  F : FnOk P w K mg base CX0 3 fDay fd ["value"] (spDay K)
  b : Binds K fd ["value"] []
  kp : PySem.W.keepIn K (.ref fDay) = true
theorem ok_ends {f : Addr} {fd : FuncData} (F : Fun K "ends" "Cycle.ends" sEnds f fd) (T : Txt K mg C fWhole fBetw fDay fChk) (S : SpotM P w K mg base C fSpot fdS) : FnOk P w K mg base CX0 2 f fd ["self", "day"] (spEnds C) := by
  refine F.ok scEnds (fun vs H Q E h => ?_) (fun cdv A outer s H vs Q E hr h => ?_)
  · obtain ⟨p, ls, d, rfl, _⟩ := h
    rfl
  · obtain ⟨p, ls, d, rfl, c, k⟩ := h
    obtain ⟨dx, t, h1, h2⟩ := c.ob
    have o := c.ok.ok
    refine ⟨_, pss_cons (ps_asg (pe_meth (pv 0) T.cl S.m S.F hr S.b .nil pass0 (pa_cons (pv 1) pa_nil)) (pg_tup rfl (pgs_cons (pg_name (i := 2) scEnds.nd rfl (.inl rfl)) (pgs_cons (pg_name (i := 3) scEnds.nd rfl (.inl rfl)) pgs_nil))))
      (pss_one (ps_ret (pe_tup (pa_cons (pe_op op_sub (pv 1) (pv 3)) (pa_cons (pe_op op_sub (pe_op op_add (pe_op op_sub (pv 1) (pv 3)) (pe_ix ix_tup (pe_fld (pv 0) rfl) (pv 2) (fun _ _ => rfl))) pe_int) pa_nil))))), ?_⟩
    refine ⟨_, rfl, p, dx, _, rfl, h1, flds_no _ _ (by decide +kernel) (by decide +kernel), _, rfl, p, ls, d, rfl, c, fun q H1 s1 hq => ?_⟩
    refine ⟨q, _, rfl, SqT.of hq, rfl, _, _, rfl, _, _, rfl, rfl, ?_⟩
    obtain ⟨x1, x2⟩ := ix_lt o d
    have em : (ls.map V.int)[ixD ls d]? = some (V.int (lenD ls d)) := by rw [List.getElem?_map, x2]; rfl
    refine ⟨_, rfl, _, rfl, _, _, rfl, rfl, _, rfl, _, rfl, _, _, rfl, rfl, _, rfl, p, C, dx, _, _, rfl, s1 _ _ h1, T.cl, T.nL, flds_l _ _, _, rfl, t, _, _, _, rfl, rfl, SqT.of (s1 _ _ h2), atI_nat em, _, _, rfl, rfl, _, _, rfl, rfl, (by show 2 ≤ sizeLine; decide), fun r hr' => ?_⟩
    refine k r _ (s1.trans (same_new hr')) ?_
    rw [upd_same]
    rfl
/-- a method of a day: what it hands back of a cycle of these lengths -/
def spOfDay (C : Addr) (g : List Int → Int → Int) : Sp := fun vs H Q _ => ∃ (p : Addr) (ls : List Int) (d : Int), vs = [.ref p, .int d] ∧ CycAt C H p ls ∧ dayB d = true ∧ ∀ H', Same H H' → Q (.int (g ls d)) H'
theorem scBlock : FnScope ["self", "day"] ["self", "day"] (defScope sBlock) := ⟨rfl, rfl, rfl, by decide +kernel, rfl, by decide +kernel, by decide +kernel⟩
theorem ok_block {f : Addr} {fd : FuncData} (F : Fun K "block" "Cycle.block" sBlock f fd) (T : Txt K mg C fWhole fBetw fDay fChk) (S : SpotM P w K mg base C fSpot fdS) (D : DayM P w K mg base fDay fdD) : FnOk P w K mg base CX0 4 f fd ["self", "day"] (spOfDay C blkD) := by
  refine F.ok scBlock (fun vs H Q E h => ?_) (fun cdv A outer s H vs Q E hr h => ?_)
  · obtain ⟨p, ls, d, rfl, _⟩ := h
    rfl
  · obtain ⟨p, ls, d, rfl, c, hd, k⟩ := h
    obtain ⟨dx, t, h1, h2⟩ := c.ob
    have hr1 : Room 1 _ := hr.mono (by decide)
    refine ⟨_, pss_cons (ps_if (pt_not (pt_val (pe_call D.F hr rfl T.gDay D.kp D.b .nil pass0 (pa_cons (pv 1) pa_nil)))) pss_never pss_nil)
      (pss_one (ps_ret (pe_op op_add (pe_op op_mul (pe_op op_fdiv (pv 1) (pe_fld (pv 0) rfl)) (pe_callB call_len_seq (by rfl) T.zLen PySem.boot_len (pa_cons (pe_fld (pv 0) rfl) pa_nil)))
        (pe_ix ix_tup (pe_meth (pv 0) T.cl S.m S.F hr1 S.b .nil pass0 (pa_cons (pv 1) pa_nil)) pe_int (fun _ _ => rfl))))), ?_⟩
    refine ⟨_, rfl, V.int d, "int", true, false, rfl, .base (.int d), kii, kib, (fun q => tnf0 q), fun _ => ⟨d, rfl, _, rfl, ?_⟩⟩
    rw [hd]
    refine iteF ?_
    have T0 := c.ok.ok.sum
    have T1 := c.ok.sum
    refine ⟨_, rfl, _, rfl, p, C, dx, _, _, rfl, h1, T.cl, T.nT, flds_t _ _, _, _, rfl, rfl, ⟨T0, by omega⟩, _, rfl, p, C, dx, _, _, rfl, h1, T.cl, T.nL, flds_l _ _, t, _, rfl, .inr (SqT.of h2), _, _, rfl, rfl, .inr ⟨by omega, by rw [List.length_map]; have := c.ok.few; omega⟩, ?_⟩
    refine ⟨_, rfl, p, dx, _, rfl, h1, flds_no _ _ (by decide +kernel) (by decide +kernel), _, rfl, p, ls, d, rfl, c, fun q H1 s1 hq => ?_⟩
    refine ⟨q, _, _, _, rfl, rfl, SqT.of hq, atI_nat (j := 0) rfl, _, _, rfl, rfl, ?_⟩
    rw [List.length_map]
    exact k _ s1
theorem scFirst : FnScope ["self", "day"] ["self", "day"] (defScope sFirst) := ⟨rfl, rfl, rfl, by decide +kernel, rfl, by decide +kernel, by decide +kernel⟩
theorem ok_first {f : Addr} {fd : FuncData} (F : Fun K "first" "Cycle.first" sFirst f fd) (T : Txt K mg C fWhole fBetw fDay fChk) (S : EndsM P w K mg base C fEnds fdS) (D : DayM P w K mg base fDay fdD) : FnOk P w K mg base CX0 4 f fd ["self", "day"] (spOfDay C fstD) := by
  refine F.ok scFirst (fun vs H Q E h => ?_) (fun cdv A outer s H vs Q E hr h => ?_)
  · obtain ⟨p, ls, d, rfl, _⟩ := h
    rfl
  · obtain ⟨p, ls, d, rfl, c, hd, k⟩ := h
    obtain ⟨dx, t, h1, h2⟩ := c.ob
    have hr1 : Room 2 _ := hr.mono (by decide)
    refine ⟨_, pss_cons (ps_if (pt_not (pt_val (pe_call D.F hr rfl T.gDay D.kp D.b .nil pass0 (pa_cons (pv 1) pa_nil)))) pss_never pss_nil)
      (pss_one (ps_ret (pe_ix ix_tup (pe_meth (pv 0) T.cl S.m S.F hr1 S.b .nil pass0 (pa_cons (pv 1) pa_nil)) pe_int (fun _ _ => rfl)))), ?_⟩
    refine ⟨_, rfl, V.int d, "int", true, false, rfl, .base (.int d), kii, kib, (fun q => tnf0 q), fun _ => ⟨d, rfl, _, rfl, ?_⟩⟩
    rw [hd]
    refine iteF ?_
    refine ⟨_, rfl, p, dx, _, rfl, h1, flds_no _ _ (by decide +kernel) (by decide +kernel), _, rfl, p, ls, d, rfl, c, fun q H1 s1 hq => ?_⟩
    exact ⟨q, _, _, _, rfl, rfl, SqT.of hq, atI_nat (j := 0) rfl, k _ s1⟩
def lastD (ls : List Int) (d : Int) : Int := fstD ls d + lenD ls d - 1
theorem scLast : FnScope ["self", "day"] ["self", "day"] (defScope sLast) := ⟨rfl, rfl, rfl, by decide +kernel, rfl, by decide +kernel, by decide +kernel⟩
theorem ok_last {f : Addr} {fd : FuncData} (F : Fun K "last" "Cycle.last" sLast f fd) (T : Txt K mg C fWhole fBetw fDay fChk) (S : EndsM P w K mg base C fEnds fdS) (D : DayM P w K mg base fDay fdD) : FnOk P w K mg base CX0 4 f fd ["self", "day"] (spOfDay C lastD) := by
  refine F.ok scLast (fun vs H Q E h => ?_) (fun cdv A outer s H vs Q E hr h => ?_)
  · obtain ⟨p, ls, d, rfl, _⟩ := h
    rfl
  · obtain ⟨p, ls, d, rfl, c, hd, k⟩ := h
    obtain ⟨dx, t, h1, h2⟩ := c.ob
    have hr1 : Room 2 _ := hr.mono (by decide)
    refine ⟨_, pss_cons (ps_if (pt_not (pt_val (pe_call D.F hr rfl T.gDay D.kp D.b .nil pass0 (pa_cons (pv 1) pa_nil)))) pss_never pss_nil)
      (pss_one (ps_ret (pe_ix ix_tup (pe_meth (pv 0) T.cl S.m S.F hr1 S.b .nil pass0 (pa_cons (pv 1) pa_nil)) pe_int (fun _ _ => rfl)))), ?_⟩
    refine ⟨_, rfl, V.int d, "int", true, false, rfl, .base (.int d), kii, kib, (fun q => tnf0 q), fun _ => ⟨d, rfl, _, rfl, ?_⟩⟩
    rw [hd]
    refine iteF ?_
    refine ⟨_, rfl, p, dx, _, rfl, h1, flds_no _ _ (by decide +kernel) (by decide +kernel), _, rfl, p, ls, d, rfl, c, fun q H1 s1 hq => ?_⟩
    exact ⟨q, _, _, _, rfl, rfl, SqT.of hq, atI_nat (j := 1) rfl, k _ s1⟩
theorem scPlace : FnScope ["self", "day"] ["self", "day"] (defScope sPlace) := ⟨rfl, rfl, rfl, by decide +kernel, rfl, by decide +kernel, by decide +kernel⟩
theorem ok_place {f : Addr} {fd : FuncData} (F : Fun K "place" "Cycle.place" sPlace f fd) (T : Txt K mg C fWhole fBetw fDay fChk) (S : SpotM P w K mg base C fSpot fdS) (D : DayM P w K mg base fDay fdD) : FnOk P w K mg base CX0 4 f fd ["self", "day"] (spOfDay C plcD) := by
  refine F.ok scPlace (fun vs H Q E h => ?_) (fun cdv A outer s H vs Q E hr h => ?_)
  · obtain ⟨p, ls, d, rfl, _⟩ := h
    rfl
  · obtain ⟨p, ls, d, rfl, c, hd, k⟩ := h
    obtain ⟨dx, t, h1, h2⟩ := c.ob
    have hr1 : Room 1 _ := hr.mono (by decide)
    refine ⟨_, pss_cons (ps_if (pt_not (pt_val (pe_call D.F hr rfl T.gDay D.kp D.b .nil pass0 (pa_cons (pv 1) pa_nil)))) pss_never pss_nil)
      (pss_one (ps_ret (pe_ix ix_tup (pe_meth (pv 0) T.cl S.m S.F hr1 S.b .nil pass0 (pa_cons (pv 1) pa_nil)) pe_int (fun _ _ => rfl)))), ?_⟩
    refine ⟨_, rfl, V.int d, "int", true, false, rfl, .base (.int d), kii, kib, (fun q => tnf0 q), fun _ => ⟨d, rfl, _, rfl, ?_⟩⟩
    rw [hd]
    refine iteF ?_
    refine ⟨_, rfl, p, dx, _, rfl, h1, flds_no _ _ (by decide +kernel) (by decide +kernel), _, rfl, p, ls, d, rfl, c, fun q H1 s1 hq => ?_⟩
    exact ⟨q, _, _, _, rfl, rfl, SqT.of hq, atI_nat (j := 1) rfl, k _ s1⟩
theorem scLength : FnScope ["self", "day"] ["self", "day"] (defScope sLength) := ⟨rfl, rfl, rfl, by decide +kernel, rfl, by decide +kernel, by decide +kernel⟩
theorem ok_length {f : Addr} {fd : FuncData} (F : Fun K "length" "Cycle.length" sLength f fd) (T : Txt K mg C fWhole fBetw fDay fChk) (S : SpotM P w K mg base C fSpot fdS) (D : DayM P w K mg base fDay fdD) : FnOk P w K mg base CX0 4 f fd ["self", "day"] (spOfDay C lenD) := by
  refine F.ok scLength (fun vs H Q E h => ?_) (fun cdv A outer s H vs Q E hr h => ?_)
  · obtain ⟨p, ls, d, rfl, _⟩ := h
    rfl
  · obtain ⟨p, ls, d, rfl, c, hd, k⟩ := h
    obtain ⟨dx, t, h1, h2⟩ := c.ob
    have hr1 : Room 1 _ := hr.mono (by decide)
    refine ⟨_, pss_cons (ps_if (pt_not (pt_val (pe_call D.F hr rfl T.gDay D.kp D.b .nil pass0 (pa_cons (pv 1) pa_nil)))) pss_never pss_nil)
      (pss_one (ps_ret (pe_ix ix_tup (pe_fld (pv 0) rfl) (pe_ix ix_tup (pe_meth (pv 0) T.cl S.m S.F hr1 S.b .nil pass0 (pa_cons (pv 1) pa_nil)) pe_int (fun _ _ => rfl)) (fun _ _ => rfl)))), ?_⟩
    refine ⟨_, rfl, V.int d, "int", true, false, rfl, .base (.int d), kii, kib, (fun q => tnf0 q), fun _ => ⟨d, rfl, _, rfl, ?_⟩⟩
    rw [hd]
    refine iteF ?_
    obtain ⟨x1, x2⟩ := ix_lt c.ok.ok d
    have em : (ls.map V.int)[ixD ls d]? = some (V.int (lenD ls d)) := by rw [List.getElem?_map, x2]; rfl
    refine ⟨_, rfl, p, C, dx, _, _, rfl, h1, T.cl, T.nL, flds_l _ _, _, rfl, p, dx, _, rfl, h1, flds_no _ _ (by decide +kernel) (by decide +kernel), _, rfl, p, ls, d, rfl, c, fun q H1 s1 hq => ?_⟩
    exact ⟨q, _, _, _, rfl, rfl, SqT.of hq, atI_nat (j := 0) rfl, t, _, _, _, rfl, rfl, SqT.of (s1 _ _ h2), atI_nat em, k _ s1⟩
def remD (ls : List Int) (d : Int) : Int := d % ls.sum
def turnD (ls : List Int) (d : Int) : Int := d / ls.sum
theorem scRmod : FnScope ["self", "other"] ["self", "other"] (defScope sRmod) := ⟨rfl, rfl, rfl, by decide +kernel, rfl, by decide +kernel, by decide +kernel⟩
theorem ok_rmod {f : Addr} {fd : FuncData} (F : Fun K "__rmod__" "Cycle.__rmod__" sRmod f fd) (T : Txt K mg C fWhole fBetw fDay fChk) (D : DayM P w K mg base fDay fdD) : FnOk P w K mg base CX0 4 f fd ["self", "other"] (spOfDay C remD) := by
  refine F.ok scRmod (fun vs H Q E h => ?_) (fun cdv A outer s H vs Q E hr h => ?_)
  · obtain ⟨p, ls, d, rfl, _⟩ := h
    rfl
  · obtain ⟨p, ls, d, rfl, c, hd, k⟩ := h
    obtain ⟨dx, t, h1, h2⟩ := c.ob
    refine ⟨_, pss_cons (ps_if (pt_not (pt_val (pe_call D.F hr rfl T.gDay D.kp D.b .nil pass0 (pa_cons (pv 1) pa_nil)))) pss_never pss_nil)
      (pss_one (ps_ret (pe_op op_mod (pv 1) (pe_fld (pv 0) rfl)))), ?_⟩
    refine ⟨_, rfl, V.int d, "int", true, false, rfl, .base (.int d), kii, kib, (fun q => tnf0 q), fun _ => ⟨d, rfl, _, rfl, ?_⟩⟩
    rw [hd]
    refine iteF ?_
    exact ⟨_, rfl, _, rfl, p, C, dx, _, _, rfl, h1, T.cl, T.nT, flds_t _ _, _, _, rfl, rfl, c.ok.ok.sum, k _ (Same.refl _)⟩
theorem scRfdiv : FnScope ["self", "other"] ["self", "other"] (defScope sRfdiv) := ⟨rfl, rfl, rfl, by decide +kernel, rfl, by decide +kernel, by decide +kernel⟩
theorem ok_rfdiv {f : Addr} {fd : FuncData} (F : Fun K "__rfloordiv__" "Cycle.__rfloordiv__" sRfdiv f fd) (T : Txt K mg C fWhole fBetw fDay fChk) (D : DayM P w K mg base fDay fdD) : FnOk P w K mg base CX0 4 f fd ["self", "other"] (spOfDay C turnD) := by
  refine F.ok scRfdiv (fun vs H Q E h => ?_) (fun cdv A outer s H vs Q E hr h => ?_)
  · obtain ⟨p, ls, d, rfl, _⟩ := h
    rfl
  · obtain ⟨p, ls, d, rfl, c, hd, k⟩ := h
    obtain ⟨dx, t, h1, h2⟩ := c.ob
    have T1 := c.ok.sum
    refine ⟨_, pss_cons (ps_if (pt_not (pt_val (pe_call D.F hr rfl T.gDay D.kp D.b .nil pass0 (pa_cons (pv 1) pa_nil)))) pss_never pss_nil)
      (pss_one (ps_ret (pe_op op_fdiv (pv 1) (pe_fld (pv 0) rfl)))), ?_⟩
    refine ⟨_, rfl, V.int d, "int", true, false, rfl, .base (.int d), kii, kib, (fun q => tnf0 q), fun _ => ⟨d, rfl, _, rfl, ?_⟩⟩
    rw [hd]
    refine iteF ?_
    exact ⟨_, rfl, _, rfl, p, C, dx, _, _, rfl, h1, T.cl, T.nT, flds_t _ _, _, _, rfl, rfl, ⟨c.ok.ok.sum, by omega⟩, k _ (Same.refl _)⟩
end
end My
namespace My
open PySem PySem.Spec PyProof.Rows L2
abbrev sPen : Stmt := top 23
abbrev sDraw : Stmt := top 24
abbrev sPick : Stmt := top 25
structure PenAt (H : Hp) (p l : Addr) (N : Int) : Prop where
  ex : ∃ (ms : List Int) (n c : Int), H p = some (.lst [.ref l, .int n, .int c]) ∧ H l = some (.lst (ms.map V.int)) ∧ ms.length ≤ 63 ∧ 0 ≤ n ∧ n ≤ N ∧ 0 ≤ c
theorem PenAt.lst {H : Hp} {p l : Addr} {N : Int} (h : PenAt H p l N) : ∃ xs, H p = some (.lst xs) := let ⟨_, _, _, e, _⟩ := h.ex; ⟨_, e⟩
theorem PenAt.same {H H' : Hp} {p l : Addr} {N : Int} (h : PenAt H p l N) (s : Same H H') : PenAt H' p l N := by
  obtain ⟨ms, n, c, e1, e2, z⟩ := h.ex
  exact ⟨ms, n, c, s _ _ e1, s _ _ e2, z⟩
theorem PenAt.le {H : Hp} {p l : Addr} {N M : Int} (h : PenAt H p l N) (z : N ≤ M) : PenAt H p l M := by
  obtain ⟨ms, n, c, e1, e2, h1, h2, h3, h4⟩ := h.ex
  exact ⟨ms, n, c, e1, e2, h1, h2, by omega, h4⟩
/-- a store to another list that was not there when the pen stood -/
theorem PenAt.upd {H H0 : Hp} {p l q : Addr} {N M : Int} {o : HO} (h : PenAt H p l N) (h0 : PenAt H0 p l M) (hq : H0 q = none) : PenAt (upd H q o) p l N := by
  obtain ⟨ms, n, c, e1, e2, z⟩ := h.ex
  obtain ⟨_, _, _, f1, f2, _⟩ := h0.ex
  exact ⟨ms, n, c, by rw [upd_ne (ne_of_none f1 hq)]; exact e1, by rw [upd_ne (ne_of_none f2 hq)]; exact e2, z⟩
theorem pen_ne {H : Hp} {p l : Addr} {ms : List Int} {n c : Int} (h1 : H p = some (.lst [.ref l, .int n, .int c])) (h2 : H l = some (.lst (ms.map V.int))) : l ≠ p := fun z => by
  subst z
  rw [h1] at h2
  have e := HO.lst.inj (Option.some.inj h2)
  cases ms with
  | nil => cases e
  | cons a r => cases e
theorem dp_ints {K : PySem.W.Frag} {H : Hp} : ∀ ns : List Int, DpAll K H (ns.map V.int) (ns.map PyData.int)
  | [] => .nil
  | a :: r => .cons (.int a) (dp_ints r)
section
variable {P : Program} {w : World} {K : PySem.W.Frag} {mg : Str → Option Value} {base : Heap} {C fWhole fBetw fDay fChk fDraw : Addr} {fdD : FuncData}
def spPen (K : PySem.W.Frag) : Sp := fun vs H Q _ => ∃ (a : Addr) (ns : List Int), vs = [.ref a] ∧ SqL K H a (ns.map V.int) ∧ ns.length ≤ 63 ∧ ∀ p l H', Same H H' → PenAt H' p l 0 → Q (.ref p) H'
theorem scPen : FnScope ["_law_script"] ["_law_script"] (defScope sPen) := ⟨rfl, rfl, rfl, by decide +kernel, rfl, by decide +kernel, by decide +kernel⟩
theorem ok_pen {f : Addr} {fd : FuncData} (F : Fun K "_law_pen" "_law_pen" sPen f fd) (T : Txt K mg C fWhole fBetw fDay fChk) : FnOk P w K mg base CX0 1 f fd ["_law_script"] (spPen K) := by
  refine F.ok scPen (fun vs H Q E h => ?_) (fun cdv A outer s H vs Q E hr h => ?_)
  · obtain ⟨a, ns, rfl, _⟩ := h
    rfl
  · obtain ⟨a, ns, rfl, ha, hl, k⟩ := h
    refine ⟨_, pss_one (ps_ret (pe_lst (pa_cons (pe_callTy call_list_of (by rfl) T.zList (by decide +kernel) (pa_cons (pe_slice sl_list (pv 0) po_none (po_some pe_int)) pa_nil)) (pa_cons pe_int (pa_cons pe_int pa_nil))))), ?_⟩
    refine ⟨_, rfl, _, rfl, a, _, rfl, ha, fun q hq => ?_⟩
    refine ⟨q, _, rfl, .inl (SqL.of upd_same), fun l hl' => ⟨(by show 3 ≤ sizeLine; decide), fun p hp => ?_⟩⟩
    refine k p l _ ((same_new hq).trans ((same_new hl').trans (same_new hp))) ?_
    obtain ⟨x, y, e⟩ : ∃ x y, cutV (ns.map V.int) none (some 63) = ((ns.drop x).take y).map V.int := ⟨HT.sIx (ns.map V.int).length 0 none, HT.sIx (ns.map V.int).length (ns.map V.int).length (some 63) - HT.sIx (ns.map V.int).length 0 none, by unfold cutV; rw [List.map_take, List.map_drop]⟩
    refine ⟨(ns.drop x).take y, 0, 0, upd_same, ?_, ?_, by omega, by omega, by omega⟩
    · rw [upd_ne (ne_of_none upd_same hp), upd_same, e]
    · rw [List.length_take, List.length_drop]; omega
/-- a draw: an int below many -/
def spDraw : Sp := fun vs H Q _ => ∃ (p l : Addr) (N many : Int), vs = [.ref p, .int many] ∧ PenAt H p l N ∧ 0 < many ∧ many.natAbs.log2 < 9000 ∧ N ≤ 100000 ∧
  ∀ r H', 0 ≤ r → r < many → SameBut p H H' → PenAt H' p l (N + 1) → Q (.int r) H'
theorem scDraw : FnScope ["_law_pen_here", "_law_many", "_law_digit", "_law_at", "_law_cell", "_law_great", "_law_mixed"] ["_law_pen_here", "_law_many"] (defScope sDraw) := ⟨rfl, rfl, rfl, by decide +kernel, rfl, by decide +kernel, by decide +kernel⟩
theorem small_pow {z : Int} (h0 : 0 ≤ z) (h : z < 18446744073709551616) : CPow z 5 ∧ CPow z 3 := by
  have e : (2 : Nat) ^ 64 = 18446744073709551616 := by decide
  have hz : z.natAbs < 2 ^ 64 := by rw [e]; omega
  exact ⟨⟨by decide, by decide, hz⟩, ⟨by decide, by decide, hz⟩⟩
theorem small_mul {i j : Int} (h0 : -18446744073709551616 < i) (h : i < 18446744073709551616) : CMul i j := by
  have e : (2 : Int) ^ 64 = 18446744073709551616 := by decide
  exact .inl ⟨by rw [e]; exact h0, by rw [e]; exact h⟩
set_option maxHeartbeats 8000000 in
theorem ok_draw {f : Addr} {fd : FuncData} (F : Fun K "_law_draw" "_law_draw" sDraw f fd) (T : Txt K mg C fWhole fBetw fDay fChk) : FnOk P w K mg base CX0 1 f fd ["_law_pen_here", "_law_many"] spDraw := by
  refine F.ok scDraw (fun vs H Q E h => ?_) (fun cdv A outer s H vs Q E hr h => ?_)
  · obtain ⟨p, l, N, many, rfl, _⟩ := h
    rfl
  · obtain ⟨p, l, N, many, rfl, pen, hm, hlog, hN, k⟩ := h
    obtain ⟨ms, n, c, h1, h2, hms, hn0, hnN, hc⟩ := pen.ex
    have nlp := pen_ne h1 h2
    have z0 : ([V.ref l, V.int n, V.int c] : List V)[0]? = some (V.ref l) := rfl
    have z1 : ([V.ref l, V.int n, V.int c] : List V)[1]? = some (V.int n) := rfl
    have z2 : ([V.ref l, V.int n, V.int c] : List V)[2]? = some (V.int c) := rfl
    refine ⟨_, pss_cons (ps_if (pt_cmpR op_gt (pe_ix ix_list (pv 0) pe_int (fun _ _ => rfl)) pe_int (nomark _))
        (pss_cons (ps_set (i := 2) scDraw.nd rfl (Or.inl rfl) (pe_op op_mod (pe_callTy call_int1 (by rfl) T.zInt (by decide +kernel) (pa_cons (pe_ix ix_list (pv 0) pe_int (fun _ _ => rfl)) pa_nil)) (pv 1)))
        (pss_cons (ps_asg (pe_op op_fdivW (pe_callTy call_int1 (by rfl) T.zInt (by decide +kernel) (pa_cons (pe_ix ix_list (pv 0) pe_int (fun _ _ => rfl)) pa_nil)) (pv 1)) (pg_sub (pv 0) pe_int set_list))
        (pss_one (ps_ret (pv 2))))) pss_nil)
      (pss_cons (ps_set (i := 3) scDraw.nd rfl (Or.inl rfl) (pe_ix ix_list (pv 0) pe_int (fun _ _ => rfl)))
      (pss_cons (ps_asg (pe_op op_add (pv 3) pe_int) (pg_sub (pv 0) pe_int set_list))
      (pss_cons (ps_set (i := 4) scDraw.nd rfl (Or.inl rfl) (pe_op op_add (pe_op op_mul pe_int (pv 3)) pe_int))
      (pss_cons (ps_if (pt_cmpR (op_neD hr.units) (pe_ix ix_list (pv 0) pe_int (fun _ _ => rfl)) (pe_lst pa_nil) (nomark _))
        (pss_one (ps_set (i := 4) scDraw.nd rfl (Or.inl rfl) (pe_ix ix_list (pe_ix ix_list (pv 0) pe_int (fun _ _ => rfl))
          (pe_op op_mod (pe_callTy call_int1 (by rfl) T.zInt (by decide +kernel) (pa_cons (pv 3) pa_nil)) (pe_callB call_len_seq (by rfl) T.zLen PySem.boot_len (pa_cons (pe_ix ix_list (pv 0) pe_int (fun _ _ => rfl)) pa_nil))) (fun _ _ => rfl)))) pss_nil)
      (pss_cons (ps_if (PW.pt (pw_and (pt_cmpR op_lt (pv 3) (pe_callB call_len_seq (by rfl) T.zLen PySem.boot_len (pa_cons (pe_ix ix_list (pv 0) pe_int (fun _ _ => rfl)) pa_nil)) (nomark _))
          (pw_and1 (pt_cmpR op_ge (pe_callB call_abs (by rfl) T.zAbs (by decide +kernel) (pa_cons (pv 4) pa_nil)) (pe_op op_pow pe_int pe_int) (nomark _)))))
        (pss_cons (ps_set (i := 5) scDraw.nd rfl (Or.inl rfl) (pe_op op_add (pe_op op_mul pe_int (pe_op op_sub (pe_callB call_abs (by rfl) T.zAbs (by decide +kernel) (pa_cons (pv 4) pa_nil)) (pe_op op_pow pe_int pe_int)))
          (pe_callTy call_int1 (by rfl) T.zInt (by decide +kernel) (pa_cons (pe_cmpR op_lt (pv 4) pe_int (nomark _)) pa_nil))))
        (pss_cons (ps_asg (pe_op op_fdivW (pe_callTy call_int1 (by rfl) T.zInt (by decide +kernel) (pa_cons (pv 5) pa_nil)) (pv 1)) (pg_sub (pv 0) pe_int set_list))
        (pss_one (ps_ret (pe_op op_mod (pe_callTy call_int1 (by rfl) T.zInt (by decide +kernel) (pa_cons (pv 5) pa_nil)) (pv 1)))))) pss_nil)
      (pss_cons (ps_set (i := 6) scDraw.nd rfl (Or.inl rfl) (pe_op op_mod (pe_callTy call_int1 (by rfl) T.zInt (by decide +kernel) (pa_cons (pe_op op_pow (pe_op op_add (pe_op op_add (pe_op op_mod (pe_callTy call_int1 (by rfl) T.zInt (by decide +kernel) (pa_cons (pv 4) pa_nil)) pe_int) (pe_op op_mul pe_int (pv 3))) pe_int) pe_int) pa_nil)) pe_int))
      (pss_cons (ps_set (i := 6) scDraw.nd rfl (Or.inl rfl) (pe_op op_mod (pe_callTy call_int1 (by rfl) T.zInt (by decide +kernel) (pa_cons (pe_op op_pow (pe_op op_add (pe_op op_add (pe_op op_mul (pv 6) (pe_op op_add (pe_op op_mul pe_int (pv 3)) pe_int))
        (pe_op op_mul (pe_op op_mul pe_int (pv 3)) (pv 3))) pe_int) pe_int) pa_nil)) pe_int))
      (pss_one (ps_ret (pe_op op_mod (pe_callTy call_int1 (by rfl) T.zInt (by decide +kernel) (pa_cons (pe_op op_fdiv (pv 6) pe_int) pa_nil)) (pv 1)))))))))))
      , ?_⟩
    refine ⟨_, rfl, p, _, _, _, rfl, rfl, SqL.of h1, atI_nat (j := 2) z2, _, _, rfl, rfl, _, rfl, ?_⟩
    by_cases hcp : 0 < c
    · rw [decide_eq_true hcp]
      refine iteT ?_
      refine ⟨_, rfl, p, _, _, _, rfl, rfl, SqL.of h1, atI_nat (j := 2) z2, .inl ⟨_, rfl, _, rfl, _, _, rfl, rfl, hm, ?_⟩⟩
      refine ⟨_, rfl, p, _, _, _, rfl, rfl, SqL.of h1, atI_nat (j := 2) z2, .inl ⟨_, rfl, _, rfl, _, _, rfl, rfl, ⟨hm, hlog⟩, ?_⟩⟩
      refine ⟨_, rfl, p, _, _, 2, rfl, rfl, h1, rfl, _, rfl, ?_⟩
      refine k _ _ (Int.emod_nonneg _ (by omega)) (Int.emod_lt_of_pos _ hm) (fun b o nb e => by rw [upd_ne nb]; exact e) ⟨ms, n, c / many, upd_same, by rw [upd_ne nlp]; exact h2, hms, hn0, by omega, Int.ediv_nonneg hc (by omega)⟩
    · rw [decide_eq_false hcp]
      refine iteF ?_
      have hc0 : c = 0 := by omega
      subst hc0
      refine ⟨_, rfl, p, _, _, _, rfl, rfl, SqL.of h1, atI_nat (j := 1) z1, ?_⟩
      refine ⟨_, rfl, _, _, rfl, rfl, _, rfl, p, _, _, 1, rfl, rfl, h1, rfl, ?_⟩
      have g1 : (upd H p (.lst ([V.ref l, V.int n, V.int 0].set 1 (V.int (n + 1))))) p = some (.lst [V.ref l, V.int (n + 1), V.int 0]) := upd_same
      have g2 : (upd H p (.lst ([V.ref l, V.int n, V.int 0].set 1 (V.int (n + 1))))) l = some (.lst (ms.map V.int)) := by rw [upd_ne nlp]; exact h2
      have sb : SameBut p H (upd H p (.lst ([V.ref l, V.int n, V.int 0].set 1 (V.int (n + 1))))) := fun b o nb e => by rw [upd_ne nb]; exact e
      generalize (upd H p (.lst ([V.ref l, V.int n, V.int 0].set 1 (V.int (n + 1))))) = H1 at g1 g2 sb ⊢
      have y0 : ([V.ref l, V.int (n + 1), V.int 0] : List V)[0]? = some (V.ref l) := rfl
      refine ⟨_, rfl, _, _, rfl, rfl, small_mul (by omega) (by omega), _, _, rfl, rfl, ?_⟩
      refine ⟨_, rfl, p, _, _, _, rfl, rfl, SqL.of g1, atI_nat (j := 0) y0, Nat.zero_le _, fun q hq => ?_⟩
      have s2 : Same H1 (upd H1 q (.lst [])) := same_new hq
      refine ⟨_, _, .lst (SqL.of (s2 _ _ g2)) (dp_ints ms), .lst (SqL.of upd_same) .nil, PySem.W.shaped_ints ms, PySem.W.shaped_ints [], _, rfl, ?_⟩
      have sb2 : SameBut p H (upd H1 q (.lst [])) := sb.trans (Same.but s2)
      have k1 := s2 _ _ g1
      have k2 := s2 _ _ g2
      generalize upd H1 q (.lst []) = H2 at sb2 k1 k2 ⊢
      have dml : ∀ i : Int, 0 ≤ i → i < ms.length → ∃ z : Int, atI (ms.map V.int) i = some (V.int z) := fun i h0 h1 => by
        refine ⟨ms[i.toNat]'(by omega), at_of (j := i.toNat) (by omega) ?_⟩
        rw [List.getElem?_map, List.getElem?_eq_getElem (by omega)]
        rfl
      refine ite2 (fun hk => ?_) (fun hk => ?_)
      have hne : 0 < ms.length := by
        cases ms with
        | nil => exact absurd hk (by decide)
        | cons a r => simp
      have i0 : 0 ≤ n % (ms.length : Int) := Int.emod_nonneg _ (by omega)
      have i1 : n % (ms.length : Int) < ms.length := Int.emod_lt_of_pos _ (by omega)
      obtain ⟨z, hz⟩ := dml _ i0 i1
      have hz' : atI (ms.map V.int) (n % ((ms.map V.int).length : Int)) = some (V.int z) := by rw [List.length_map]; exact hz
      have hp' : (0 : Int) < ((ms.map V.int).length : Int) := by rw [List.length_map]; omega
      refine ⟨_, rfl, p, _, _, _, rfl, rfl, SqL.of k1, atI_nat (j := 0) y0, _, rfl, .inl ⟨_, rfl, _, rfl, p, _, _, _, rfl, rfl, SqL.of k1, atI_nat (j := 0) y0, l, _, rfl, .inl (SqL.of k2), _, _, rfl, rfl, hp', l, _, _, _, rfl, rfl, SqL.of k2, hz', ?_⟩⟩
      clear hz hz'
      rotate_left
      dsimp only
      generalize 92834 * n + 2734 = z
      all_goals
        -- at < len(cells) and abs(cell) >= 10 ** 18
        refine ⟨_, rfl, _, rfl, p, _, _, _, rfl, rfl, SqL.of k1, atI_nat (j := 0) y0, l, _, rfl, .inl (SqL.of k2), _, _, rfl, rfl, _, rfl, ?_⟩
        refine ite2 (fun h6 => ?_) (fun h6 => ?_)
        refine ⟨_, rfl, _, rfl, _, _, rfl, rfl, ⟨by decide, by decide, by decide⟩, _, _, rfl, rfl, _, rfl, ?_⟩
        refine ite2 (fun h7 => ?_) (fun h7 => ?_)
        have h8 := of_decide_eq_true h7
        have e18 : (10 : Int) ^ (18 : Int).toNat = 1000000000000000000 := by decide
        rw [e18] at h8
        refine ⟨_, rfl, _, rfl, _, _, rfl, rfl, ⟨by decide, by decide, by decide⟩, _, _, rfl, rfl, _, _, rfl, rfl, small_mul (by decide) (by decide), _, rfl, _, _, rfl, rfl, .inr ⟨_, rfl, _, _, rfl, rfl, ?_⟩⟩
        rw [e18]
        have hg : 0 ≤ 2 * ((if z < 0 then -z else z) - 1000000000000000000) + (if decide (z < 0) = true then 1 else 0) := by
          split <;> omega
        refine ⟨_, rfl, .inl ⟨_, rfl, _, rfl, _, _, rfl, rfl, ⟨hm, hlog⟩, _, rfl, p, _, _, 2, rfl, rfl, k1, rfl, ?_⟩⟩
        refine ⟨_, rfl, .inl ⟨_, rfl, _, rfl, _, _, rfl, rfl, hm, ?_⟩⟩
        exact k _ _ (Int.emod_nonneg _ (by omega)) (Int.emod_lt_of_pos _ hm) (sb2.trans fun b o nb e => by rw [upd_ne nb]; exact e) ⟨ms, n + 1, _, upd_same, by rw [upd_ne nlp]; exact k2, hms, by omega, by omega, Int.ediv_nonneg hg (by omega)⟩
        all_goals
          have pen2 : PenAt H2 p l (N + 1) := ⟨ms, n + 1, 0, k1, k2, hms, by omega, by omega, by omega⟩
          have q1 : 0 ≤ z % 2147483549 := Int.emod_nonneg _ (by decide)
          have q2 : z % 2147483549 < 2147483549 := Int.emod_lt_of_pos _ (by decide)
          refine ⟨_, rfl, .inl ⟨_, rfl, _, _, rfl, rfl, (by show (0 : Int) < 2147483549; decide), _, rfl, _, _, rfl, rfl, small_mul (by decide) (by decide), _, _, rfl, rfl, _, _, rfl, rfl, _, _, rfl, rfl, (small_pow (by omega) (by omega)).1, .inl ⟨_, rfl, _, _, rfl, rfl, (by show (0 : Int) < 2147483629; decide), ?_⟩⟩⟩
          have q3 : 0 ≤ (z % 2147483549 + 85758 * n + 2734) ^ (5 : Int).toNat % 2147483629 := Int.emod_nonneg _ (by decide)
          have q4 : (z % 2147483549 + 85758 * n + 2734) ^ (5 : Int).toNat % 2147483629 < 2147483629 := Int.emod_lt_of_pos _ (by decide)
          dsimp only
          generalize (z % 2147483549 + 85758 * n + 2734) ^ (5 : Int).toNat % 2147483629 = m1 at q3 q4
          have b1 : m1 * (2 * n + 729) ≤ 2147483648 * (2 * 100000 + 729) := Int.mul_le_mul (by omega) (by omega) (by omega) (by omega)
          have b2 : 0 ≤ m1 * (2 * n + 729) := Int.mul_nonneg q3 (by omega)
          have b3 : 76534 * n * n ≤ 76534 * 100000 * 100000 := Int.mul_le_mul (by omega) (by omega) (by omega) (by omega)
          have b4 : 0 ≤ 76534 * n * n := Int.mul_nonneg (by omega) (by omega)
          refine ⟨_, rfl, _, rfl, _, _, rfl, rfl, small_mul (by decide) (by decide), _, _, rfl, rfl, _, _, rfl, rfl, small_mul (by omega) (by omega), _, rfl, _, _, rfl, rfl, small_mul (by decide) (by decide), _, rfl, _, _, rfl, rfl, small_mul (by omega) (by omega), _, _, rfl, rfl, _, _, rfl, rfl, _, _, rfl, rfl, (small_pow (by omega) (by omega)).2, .inl ⟨_, rfl, _, _, rfl, rfl, (by show (0 : Int) < 2147483587; decide), ?_⟩⟩
          refine ⟨_, rfl, _, _, rfl, rfl, ⟨by decide, by decide⟩, .inl ⟨_, rfl, _, rfl, _, _, rfl, rfl, hm, ?_⟩⟩
          exact k _ _ (Int.emod_nonneg _ (by omega)) (Int.emod_lt_of_pos _ hm) sb2 pen2
end
end My
namespace My
open PySem PySem.Spec PyProof.Rows L2
abbrev sLens : Stmt := top 27
section
variable {P : Program} {w : World} {K : PySem.W.Frag} {mg : Str → Option Value} {base : Heap} {C fWhole fBetw fDay fChk fDraw fPick : Addr} {fdD fdP : FuncData}
/-- a def of the module that keeps its promise -/
structure Df (P : Program) (w : World) (K : PySem.W.Frag) (mg : Str → Option Value) (base : Heap) (x : Str) (k : Nat) (f : Addr) (fd : FuncData) (ps : List Str) (sp : Sp) : Prop where
  F : FnOk P w K mg base CX0 k f fd ps sp
  b : Binds K fd ps []
  kp : PySem.W.keepIn K (.ref f) = true
  g : mg x = some (.ref f)
theorem log_small {n : Int} (h0 : 0 ≤ n) (h : n < 2 ^ 64) : n.natAbs.log2 < 9000 := by
  have e : (2 : Int) ^ 64 = 18446744073709551616 := by decide
  have e2 : (2 : Nat) ^ 64 = 18446744073709551616 := by decide
  exact Nat.lt_trans (PySem.Flt.log2_lt_of (k := 64) (by decide) (by rw [e2]; omega)) (by decide)
/-- one of a list's items -/
def spPick : Sp := fun vs H Q _ => ∃ (p l a : Addr) (N : Int) (xs : List V), vs = [.ref p, .ref a] ∧ PenAt H p l N ∧ N ≤ 100000 ∧ H a = some (.lst xs) ∧ a ≠ p ∧ 0 < xs.length ∧ xs.length ≤ 1000 ∧
  ∀ (i : Nat) (v : V) (H' : Hp), xs[i]? = some v → SameBut p H H' → PenAt H' p l (N + 1) → Q v H'
theorem scPick : FnScope ["_law_pen_here", "_law_some"] ["_law_pen_here", "_law_some"] (defScope sPick) := ⟨rfl, rfl, rfl, by decide +kernel, rfl, by decide +kernel, by decide +kernel⟩
theorem ok_pick {f : Addr} {fd : FuncData} (F : Fun K "_law_pick" "_law_pick" sPick f fd) (T : Txt K mg C fWhole fBetw fDay fChk) (D : Df P w K mg base "_law_draw" 1 fDraw fdD ["_law_pen_here", "_law_many"] spDraw) : FnOk P w K mg base CX0 2 f fd ["_law_pen_here", "_law_some"] spPick := by
  refine F.ok scPick (fun vs H Q E h => ?_) (fun cdv A outer s H vs Q E hr h => ?_)
  · obtain ⟨p, l, a, N, xs, rfl, _⟩ := h
    rfl
  · obtain ⟨p, l, a, N, xs, rfl, pen, hN, ha, nap, h0, h1, k⟩ := h
    refine ⟨_, pss_one (ps_ret (pe_ix ix_list (pv 1) (pe_call D.F hr rfl D.g D.kp D.b .nil pass0 (pa_cons (pv 0) (pa_cons (pe_callB call_len_seq (by rfl) T.zLen PySem.boot_len (pa_cons (pv 1) pa_nil)) pa_nil))) (fun _ _ => rfl))), ?_⟩
    refine ⟨_, rfl, _, rfl, _, rfl, a, _, rfl, .inl (SqL.of ha), p, l, N, _, rfl, pen, by omega, log_small (by omega) (by omega), hN, fun r H' r0 r1 sb pen' => ?_⟩
    have hv : xs[r.toNat]? = some (xs[r.toNat]'(by omega)) := List.getElem?_eq_getElem (by omega)
    exact ⟨a, _, _, _, rfl, rfl, SqL.of (sb _ _ nap ha), at_of (j := r.toNat) (by omega) hv, k _ _ _ hv sb pen'⟩
theorem good_of {ls : List Int} (h : (decide (∀ l ∈ ls, 1 ≤ l ∧ l ≤ 60) && decide (0 < ls.length) && decide (ls.length ≤ 12) && decide (ls.sum ≤ 60)) = true) : Good ls := by
  simp only [Bool.and_eq_true, decide_eq_true_eq] at h
  exact ⟨h.1.1.1, h.1.1.2, h.1.2, h.2⟩
theorem sum_five : ∀ {ls : List Int}, (∀ l ∈ ls, 1 ≤ l ∧ l ≤ 5) → ls.sum ≤ 5 * ls.length
  | [], _ => by simp
  | a :: r, h => by
    have h1 := (h a (by simp)).2
    have h2 := sum_five (ls := r) fun l hl => h l (by simp [hl])
    rw [List.sum_cons, List.length_cons]
    push_cast
    omega
/-- drawn lengths -/
def spLens : Sp := fun vs H Q _ => ∃ (p l : Addr) (N : Int), vs = [.ref p] ∧ PenAt H p l N ∧ N ≤ 50000 ∧ ∀ a ls H', SameBut p H H' → PenAt H' p l (N + 20) → H' a = some (.lst (ls.map V.int)) → a ≠ p → Good ls → Q (.ref a) H'
theorem scLens : FnScope ["_law_pen_here", "_law_some", "_law_k"] ["_law_pen_here"] (defScope sLens) := ⟨rfl, rfl, rfl, by decide +kernel, rfl, by decide +kernel, by decide +kernel⟩
theorem ok_lens {f : Addr} {fd : FuncData} (F : Fun K "_law_lengths" "_law_lengths" sLens f fd) (T : Txt K mg C fWhole fBetw fDay fChk) (D : Df P w K mg base "_law_draw" 1 fDraw fdD ["_law_pen_here", "_law_many"] spDraw)
    (G : Df P w K mg base "_law_pick" 2 fPick fdP ["_law_pen_here", "_law_some"] spPick) : FnOk P w K mg base CX0 3 f fd ["_law_pen_here"] spLens := by
  refine F.ok scLens (fun vs H Q E h => ?_) (fun cdv A outer s H vs Q E hr h => ?_)
  · obtain ⟨p, l, N, rfl, _⟩ := h
    rfl
  · obtain ⟨p, l, N, rfl, pen, hN, k⟩ := h
    have hr1 : Room 1 _ := hr.mono (by decide)
    refine ⟨_, pss_cons (ps_set (i := 1) scLens.nd rfl (Or.inl rfl) (pe_lst (pa_cons (pe_lst (pa_cons pe_int pa_nil)) (pa_cons (pe_lst (pa_cons pe_int (pa_cons pe_int pa_nil))) (pa_cons (pe_lst (pa_cons pe_int pa_nil)) (pa_cons (pe_lst (pa_cons pe_int (pa_cons pe_int (pa_cons pe_int pa_nil))))
        (pa_cons (pe_lst (pa_cons pe_int (pa_cons pe_int pa_nil))) (pa_cons (pe_lst (pa_cons pe_int pa_nil)) (pa_cons (pe_lst (pa_cons pe_int (pa_cons pe_int (pa_cons pe_int pa_nil)))) (pa_cons (pe_lst (pa_cons pe_int (pa_cons pe_int pa_nil)))
        (pa_cons (pe_lst (pa_cons pe_int (pa_cons pe_int (pa_cons pe_int pa_nil)))) (pa_cons (pe_lst (pa_cons pe_int (pa_cons pe_int (pa_cons pe_int (pa_cons pe_int pa_nil))))) pa_nil))))))))))))
      (pss_cons (ps_if (pt_cmpR op_gt (pe_call D.F hr1 rfl D.g D.kp D.b .nil pass0 (pa_cons (pv 0) (pa_cons pe_int pa_nil))) pe_int (nomark _))
        (pss_one (ps_ret (pe_call G.F hr rfl G.g G.kp G.b .nil pass0 (pa_cons (pv 0) (pa_cons (pv 1) pa_nil))))) pss_nil)
      (pss_one (ps_ret (pe_lc (own := [("_law_k", 2)]) (g := gName 2) (tt := tYes) rfl scLens.nd (pi_range1 rfl T.zRange (pa_cons (pe_op op_add pe_int (pe_call D.F hr1 rfl D.g D.kp D.b .nil pass0 (pa_cons (pv 0) (pa_cons pe_int pa_nil)))) pa_nil))
        (blkOk_by (N := ["_law_pen_here", "_law_some", "_law_k"]) (sc := defScope sLens) (by decide +kernel)) (fun _ _ _ _ _ => pg_name (i := 2) scLens.nd rfl (Or.inl rfl)) (fun _ _ _ _ _ => pts_nil)
        (fun _ _ _ _ _ => pe_op op_add pe_int (pe_call D.F hr1 (by rfl) D.g D.kp D.b .nil pass0 (pa_cons (pv 0) (pa_cons pe_int pa_nil)))))))), ?_⟩
    refine ⟨by decide, fun a0 n0 => ⟨by decide, fun a1 n1 => ⟨by decide, fun a2 n2 => ⟨by decide, fun a3 n3 => ⟨by decide, fun a4 n4 => ⟨by decide, fun a5 n5 => ⟨by decide, fun a6 n6 => ⟨by decide, fun a7 n7 => ⟨by decide, fun a8 n8 => ⟨by decide, fun a9 n9 => ⟨by show 10 ≤ sizeLine; decide, fun b nb => ?_⟩⟩⟩⟩⟩⟩⟩⟩⟩⟩⟩
    obtain ⟨px, hp⟩ := pen.lst
    have u0 : Same H H := Same.refl H
    have m0 := ne_of_none (u0 _ _ hp) n0
    have u1 := u0.trans (same_new (o := (HO.lst [V.int 7])) n0)
    have m1 := ne_of_none (u1 _ _ hp) n1
    have u2 := u1.trans (same_new (o := (HO.lst [V.int 2, V.int 3])) n1)
    have m2 := ne_of_none (u2 _ _ hp) n2
    have u3 := u2.trans (same_new (o := (HO.lst [V.int 1])) n2)
    have m3 := ne_of_none (u3 _ _ hp) n3
    have u4 := u3.trans (same_new (o := (HO.lst [V.int 4, V.int 4, V.int 5])) n3)
    have m4 := ne_of_none (u4 _ _ hp) n4
    have u5 := u4.trans (same_new (o := (HO.lst [V.int 1, V.int 2])) n4)
    have m5 := ne_of_none (u5 _ _ hp) n5
    have u6 := u5.trans (same_new (o := (HO.lst [V.int 60])) n5)
    have m6 := ne_of_none (u6 _ _ hp) n6
    have u7 := u6.trans (same_new (o := (HO.lst [V.int 5, V.int 1, V.int 1])) n6)
    have m7 := ne_of_none (u7 _ _ hp) n7
    have u8 := u7.trans (same_new (o := (HO.lst [V.int 3, V.int 3])) n7)
    have m8 := ne_of_none (u8 _ _ hp) n8
    have u9 := u8.trans (same_new (o := (HO.lst [V.int 28, V.int 28, V.int 4])) n8)
    have m9 := ne_of_none (u9 _ _ hp) n9
    have u10 := u9.trans (same_new (o := (HO.lst [V.int 2, V.int 1, V.int 2, V.int 1])) n9)
    have mb := ne_of_none (u10 _ _ hp) nb
    have t10 := same_new (o := (HO.lst [V.ref a0, V.ref a1, V.ref a2, V.ref a3, V.ref a4, V.ref a5, V.ref a6, V.ref a7, V.ref a8, V.ref a9])) nb
    have L9 := t10 _ _ (upd_same (a := a9) (o := (HO.lst [V.int 2, V.int 1, V.int 2, V.int 1])))
    have t9 := (same_new (o := (HO.lst [V.int 2, V.int 1, V.int 2, V.int 1])) n9).trans t10
    have L8 := t9 _ _ (upd_same (a := a8) (o := (HO.lst [V.int 28, V.int 28, V.int 4])))
    have t8 := (same_new (o := (HO.lst [V.int 28, V.int 28, V.int 4])) n8).trans t9
    have L7 := t8 _ _ (upd_same (a := a7) (o := (HO.lst [V.int 3, V.int 3])))
    have t7 := (same_new (o := (HO.lst [V.int 3, V.int 3])) n7).trans t8
    have L6 := t7 _ _ (upd_same (a := a6) (o := (HO.lst [V.int 5, V.int 1, V.int 1])))
    have t6 := (same_new (o := (HO.lst [V.int 5, V.int 1, V.int 1])) n6).trans t7
    have L5 := t6 _ _ (upd_same (a := a5) (o := (HO.lst [V.int 60])))
    have t5 := (same_new (o := (HO.lst [V.int 60])) n5).trans t6
    have L4 := t5 _ _ (upd_same (a := a4) (o := (HO.lst [V.int 1, V.int 2])))
    have t4 := (same_new (o := (HO.lst [V.int 1, V.int 2])) n4).trans t5
    have L3 := t4 _ _ (upd_same (a := a3) (o := (HO.lst [V.int 4, V.int 4, V.int 5])))
    have t3 := (same_new (o := (HO.lst [V.int 4, V.int 4, V.int 5])) n3).trans t4
    have L2 := t3 _ _ (upd_same (a := a2) (o := (HO.lst [V.int 1])))
    have t2 := (same_new (o := (HO.lst [V.int 1])) n2).trans t3
    have L1 := t2 _ _ (upd_same (a := a1) (o := (HO.lst [V.int 2, V.int 3])))
    have t1 := (same_new (o := (HO.lst [V.int 2, V.int 3])) n1).trans t2
    have L0 := t1 _ _ (upd_same (a := a0) (o := (HO.lst [V.int 7])))
    have t0 := (same_new (o := (HO.lst [V.int 7])) n0).trans t1
    have Lb := upd_same (H := upd (upd (upd (upd (upd (upd (upd (upd (upd (upd H a0 (HO.lst [V.int 7])) a1 (HO.lst [V.int 2, V.int 3])) a2 (HO.lst [V.int 1])) a3 (HO.lst [V.int 4, V.int 4, V.int 5])) a4 (HO.lst [V.int 1, V.int 2])) a5 (HO.lst [V.int 60])) a6 (HO.lst [V.int 5, V.int 1, V.int 1])) a7 (HO.lst [V.int 3, V.int 3])) a8 (HO.lst [V.int 28, V.int 28, V.int 4])) a9 (HO.lst [V.int 2, V.int 1, V.int 2, V.int 1])) (a := b) (o := (HO.lst [V.ref a0, V.ref a1, V.ref a2, V.ref a3, V.ref a4, V.ref a5, V.ref a6, V.ref a7, V.ref a8, V.ref a9]))
    generalize upd (upd (upd (upd (upd (upd (upd (upd (upd (upd (upd H a0 (HO.lst [V.int 7])) a1 (HO.lst [V.int 2, V.int 3])) a2 (HO.lst [V.int 1])) a3 (HO.lst [V.int 4, V.int 4, V.int 5])) a4 (HO.lst [V.int 1, V.int 2])) a5 (HO.lst [V.int 60])) a6 (HO.lst [V.int 5, V.int 1, V.int 1])) a7 (HO.lst [V.int 3, V.int 3])) a8 (HO.lst [V.int 28, V.int 28, V.int 4])) a9 (HO.lst [V.int 2, V.int 1, V.int 2, V.int 1])) b (HO.lst [V.ref a0, V.ref a1, V.ref a2, V.ref a3, V.ref a4, V.ref a5, V.ref a6, V.ref a7, V.ref a8, V.ref a9]) = H1 at L0 L1 L2 L3 L4 L5 L6 L7 L8 L9 t0 Lb ⊢
    have all : ∀ v, v ∈ ([V.ref a0, V.ref a1, V.ref a2, V.ref a3, V.ref a4, V.ref a5, V.ref a6, V.ref a7, V.ref a8, V.ref a9] : List V) → ∃ (a : Addr) (ls : List Int), v = .ref a ∧ H1 a = some (.lst (ls.map V.int)) ∧ a ≠ p ∧ Good ls := fun v hv => by
      simp only [List.mem_cons, List.not_mem_nil, or_false] at hv
      rcases hv with rfl | rfl | rfl | rfl | rfl | rfl | rfl | rfl | rfl | rfl
      · exact ⟨a0, [7], rfl, L0, Ne.symm m0, good_of (by decide)⟩
      · exact ⟨a1, [2, 3], rfl, L1, Ne.symm m1, good_of (by decide)⟩
      · exact ⟨a2, [1], rfl, L2, Ne.symm m2, good_of (by decide)⟩
      · exact ⟨a3, [4, 4, 5], rfl, L3, Ne.symm m3, good_of (by decide)⟩
      · exact ⟨a4, [1, 2], rfl, L4, Ne.symm m4, good_of (by decide)⟩
      · exact ⟨a5, [60], rfl, L5, Ne.symm m5, good_of (by decide)⟩
      · exact ⟨a6, [5, 1, 1], rfl, L6, Ne.symm m6, good_of (by decide)⟩
      · exact ⟨a7, [3, 3], rfl, L7, Ne.symm m7, good_of (by decide)⟩
      · exact ⟨a8, [28, 28, 4], rfl, L8, Ne.symm m8, good_of (by decide)⟩
      · exact ⟨a9, [2, 1, 2, 1], rfl, L9, Ne.symm m9, good_of (by decide)⟩
    clear L0 L1 L2 L3 L4 L5 L6 L7 L8 L9 m0 m1 m2 m3 m4 m5 m6 m7 m8 m9 u1 u2 u3 u4 u5 u6 u7 u8 u9 u10 t1 t2 t3 t4 t5 t6 t7 t8 t9 t10
    refine ⟨_, rfl, p, l, N, 3, rfl, pen.same t0, by decide, log_small (by decide) (by decide), by omega, fun r H2 r0 r1 sb pen1 => ⟨_, _, rfl, rfl, _, rfl, ?_⟩⟩
    refine ite2 (fun hk => ?_) (fun hk => ?_)
    · refine ⟨_, rfl, _, rfl, p, l, b, N + 1, _, rfl, pen1, by omega, sb _ _ (Ne.symm mb) Lb, Ne.symm mb, (by show 0 < 10; decide), (by show 10 ≤ 1000; decide), fun i v H3 hi sb2 pen2 => ?_⟩
      obtain ⟨a, ls, rfl, hL, nap, g⟩ := all v (List.mem_of_getElem? hi)
      exact k a ls H3 ((Same.but t0).trans (sb.trans sb2)) (pen2.le (by omega)) (sb2 _ _ nap (sb _ _ nap hL)) nap g
    · refine ⟨_, rfl, p, l, N + 1, 12, rfl, pen1, by decide, log_small (by decide) (by decide), by omega, fun r2 H3 q0 q1 sb2 pen2 => ⟨_, _, rfl, rfl, _, rfl, by omega, by omega, fun Dd hD => ?_⟩⟩
      obtain ⟨py, hpy⟩ := pen2.lst
      have nD : p ≠ Dd := ne_of_none hpy hD
      have sb3 : SameBut p H H3 := (Same.but t0).trans (sb.trans sb2)
      refine lc_range (lo := 0) (n := (1 + r2).toNat) (fun i H' => ∃ acc : List Int, H' Dd = some (.lst (acc.map V.int)) ∧ acc.length = i ∧ (∀ l ∈ acc, 1 ≤ l ∧ l ≤ 5) ∧ SameBut p H3 H' ∧ PenAt H' p l (N + 2 + i)) ?_ ?_ ?_
      · exact ⟨[], upd_same, rfl, (fun l hl => absurd hl (by simp)), Same.but (same_new hD), (pen2.same (same_new hD)).le (by omega)⟩
      · rintro i H4 hi ⟨acc, hA, hlen, hin, sb4, pen4⟩
        refine ⟨rfl, ?_⟩
        unfold tYes
        dsimp only
        rw [if_pos rfl]
        refine ⟨_, rfl, p, l, N + 2 + i, 5, rfl, pen4, by decide, log_small (by decide) (by decide), by omega, fun r3 H5 w0 w1 sb5 pen5 => ⟨_, _, rfl, rfl, acc.map V.int, sb5 _ _ (Ne.symm nD) hA, ?_, ?_⟩⟩
        · rw [List.length_map, hlen]
          exact small1000 (by omega)
        · refine ⟨acc ++ [1 + r3], by rw [upd_same, List.map_append]; rfl, by rw [List.length_append, hlen]; rfl, fun l hl => ?_, fun c o nc e => ?_, (pen5.upd pen2 hD).le (by omega)⟩
          · rcases List.mem_append.mp hl with h | h
            · exact hin l h
            · rw [List.mem_singleton.mp h]; omega
          · rw [upd_ne (ne_of_none e hD)]
            exact sb5 _ _ nc (sb4 _ _ nc e)
      · rintro H4 ⟨acc, hA, hlen, hin, sb4, pen4⟩
        refine k Dd acc H4 (sb3.trans sb4) (pen4.le (by omega)) hA (Ne.symm nD) ⟨fun l hl => ⟨(hin l hl).1, by have := (hin l hl).2; omega⟩, by omega, by omega, ?_⟩
        have := sum_five hin
        omega
end
end My
namespace My
open PySem PySem.Spec PyProof.Rows L2
abbrev sBD : Stmt := top 3
abbrev sBDI : Stmt := inClass sBD 0
abbrev sHeard : Stmt := top 28
def spErI (f : Str) (C : Addr) : Sp := fun vs H Q _ => ∃ (a : Addr) (y : V), vs = [.ref a, y] ∧ H a = some (exo a C none) ∧ ∀ dx, H dx = none → dx ≠ a → Q .non (upd (upd H dx (exd dx [(f, y)])) a (exo a C (some dx)))
/-- what is known of an error's class at C -/
structure ErC (K : PySem.W.Frag) (mg : Str → Option Value) (x f : Str) (C fI : Addr) : Prop where
  oex : OexC K C
  iC : PySem.W.findIn K (.ref C) "__init__" = some (some (.ref fI))
  tI : PySem.W.typeIn K (.ref fI) = some (.type "function")
  g : mg x = some (.ref C)
  no : PySem.W.findIn K (.ref C) f = some none
  xf : XfC K C
  ec : ExcC K C
section
variable {P : Program} {w : World} {K : PySem.W.Frag} {mg : Str → Option Value} {base : Heap} {C fWhole fBetw fDay fChk fSpot fEnds cBD fBI cDE fHeard : Addr} {fdD dBI dHeard : FuncData}
theorem scBDI : FnScope ["self", "value"] ["self", "value"] (defScope sBDI) := ⟨rfl, rfl, rfl, by decide +kernel, rfl, by decide +kernel, by decide +kernel⟩
theorem ok_bdi {f : Addr} {fd : FuncData} (F : Fun K "__init__" "BadDay.__init__" sBDI f fd) (Z : ErC K mg "BadDay" "value" cBD fBI) : FnOk P w K mg base CX0 1 f fd ["self", "value"] (spErI "value" cBD) := by
  refine F.ok scBDI (fun vs H Q E h => ?_) (fun cdv A outer s H vs Q E hr h => ?_)
  · obtain ⟨a, y, rfl, _⟩ := h
    rfl
  · obtain ⟨a, y, rfl, ha, k⟩ := h
    refine ⟨_, pss_one (ps_ost (pv 0) (pv 1)), ?_⟩
    exact ⟨_, rfl, _, rfl, a, cBD, rfl, Z.oex, Z.no, .inl ⟨ha, fun dx n ne => k dx n ne⟩⟩
/-- the error's class, its __init__ with its promise -/
structure ErM (P : Program) (w : World) (K : PySem.W.Frag) (mg : Str → Option Value) (base : Heap) (x f : Str) (C fI : Addr) (fd : FuncData) : Prop where
  c : ErC K mg x f C fI
  F : FnOk P w K mg base CX0 1 fI fd ["self", f] (spErI f C)
  b : Binds K fd ["self", f] []
/-- what the raising of such an error asks -/
theorem er_made {f : Str} {C : Addr} {y : V} {H : Hp} {Q : XK} (k : ∀ d H', Same H H' → H' d = some (.xd [(f, y)]) → Q (.ref C) (some d) H') :
    ([y] : List V).length ≤ 1000 ∧ ∀ a, H a = none → spErI f C (.ref a :: ([y] ++ [])) (upd H a (exo a C none)) (fun v H2 => v = .non ∧ ∃ (d : Addr) (fs : List (Str × V)), H2 a = some (exo a C (some d)) ∧ H2 d = some (exd d fs) ∧ H d = none ∧ Q (.ref C) (some d) (upd (L2.del H2 a) d (.xd fs))) (fun _ _ _ => False) := by
  refine ⟨(by show 1 ≤ 1000; decide), fun a na => ⟨a, y, rfl, upd_same, fun dx nd ne => ⟨rfl, dx, [(f, y)], upd_same, ?_, ?_, ?_⟩⟩⟩
  · rw [upd_ne ne, upd_same]
  · rw [upd_ne ne] at nd
    exact nd
  · have nd' : H dx = none := by
      rw [upd_ne ne] at nd
      exact nd
    refine k dx _ (fun b o e => ?_) upd_same
    have n1 := ne_of_none e na
    have n2 := ne_of_none e nd'
    rw [upd_ne n2, L2.del_ne n1, upd_ne n1, upd_ne n2, upd_ne n1]
    exact e
structure NoDay (K : PySem.W.Frag) (H : Hp) (v : V) : Prop where
  ex : ∃ (t : String) (b1 b2 : Bool), TyX K H v (.type t) ∧ kitB t "int" = some b1 ∧ kitB t "bool" = some b2 ∧ ((b1 && !b2) = true → ∃ i, v = .int i ∧ dayB i = false)
def spBad (K : PySem.W.Frag) (C cBD : Addr) : Sp := fun vs H _ E => ∃ (p : Addr) (v : V), vs = [.ref p, v] ∧ NoDay K H v ∧ ∀ d H', Same H H' → H' d = some (.xd [("value", v)]) → E (.ref cBD) (some d) H'
theorem bad_block {f : Addr} {fd : FuncData} (F : Fun K "block" "Cycle.block" sBlock f fd) (T : Txt K mg C fWhole fBetw fDay fChk) (D : DayM P w K mg base fDay fdD) (Z : ErM P w K mg base "BadDay" "value" cBD fBI dBI) :
    FnOk P w K mg base (L2.CX P w) 4 f fd ["self", "day"] (spBad K C cBD) := by
  refine F.okX scBlock (fun vs H Q E h => ?_) (fun cdv A outer s H vs Q E hr h => ?_)
  · obtain ⟨p, v, rfl, _⟩ := h
    rfl
  · obtain ⟨p, v, rfl, nd, k⟩ := h
    have hr1 : Room 2 _ := hr.mono (by decide)
    refine ⟨_, pss_cons (ps_if (pt_not (pt_val (pe_call D.F hr rfl T.gDay D.kp D.b .nil pass0 (pa_cons (pv 1) pa_nil))))
      (pss_one (ps_raise rfl (takes_of rfl rfl rfl rfl) (pmk_oex Z.c.oex Z.c.iC Z.c.tI Z.F hr1 Z.b .nil pass0 rfl Z.c.g (pa_cons (pv 1) pa_nil)))) pss_nil) pss_never, ?_⟩
    obtain ⟨t, b1, b2, ty, h1, h2, h3⟩ := nd.ex
    refine ⟨_, rfl, v, t, b1, b2, rfl, ty, h1, h2, fun _ => ⟨_, rfl, iteT ⟨_, rfl, er_made k⟩⟩, fun q => ?_⟩
    obtain ⟨i, rfl, e⟩ := h3 q
    refine ⟨i, rfl, _, rfl, ?_⟩
    rw [e]
    exact iteT ⟨_, rfl, er_made k⟩
theorem bad_first {f : Addr} {fd : FuncData} (F : Fun K "first" "Cycle.first" sFirst f fd) (T : Txt K mg C fWhole fBetw fDay fChk) (D : DayM P w K mg base fDay fdD) (Z : ErM P w K mg base "BadDay" "value" cBD fBI dBI) :
    FnOk P w K mg base (L2.CX P w) 4 f fd ["self", "day"] (spBad K C cBD) := by
  refine F.okX scFirst (fun vs H Q E h => ?_) (fun cdv A outer s H vs Q E hr h => ?_)
  · obtain ⟨p, v, rfl, _⟩ := h
    rfl
  · obtain ⟨p, v, rfl, nd, k⟩ := h
    have hr1 : Room 2 _ := hr.mono (by decide)
    refine ⟨_, pss_cons (ps_if (pt_not (pt_val (pe_call D.F hr rfl T.gDay D.kp D.b .nil pass0 (pa_cons (pv 1) pa_nil))))
      (pss_one (ps_raise rfl (takes_of rfl rfl rfl rfl) (pmk_oex Z.c.oex Z.c.iC Z.c.tI Z.F hr1 Z.b .nil pass0 rfl Z.c.g (pa_cons (pv 1) pa_nil)))) pss_nil) pss_never, ?_⟩
    obtain ⟨t, b1, b2, ty, h1, h2, h3⟩ := nd.ex
    refine ⟨_, rfl, v, t, b1, b2, rfl, ty, h1, h2, fun _ => ⟨_, rfl, iteT ⟨_, rfl, er_made k⟩⟩, fun q => ?_⟩
    obtain ⟨i, rfl, e⟩ := h3 q
    refine ⟨i, rfl, _, rfl, ?_⟩
    rw [e]
    exact iteT ⟨_, rfl, er_made k⟩
theorem bad_last {f : Addr} {fd : FuncData} (F : Fun K "last" "Cycle.last" sLast f fd) (T : Txt K mg C fWhole fBetw fDay fChk) (D : DayM P w K mg base fDay fdD) (Z : ErM P w K mg base "BadDay" "value" cBD fBI dBI) :
    FnOk P w K mg base (L2.CX P w) 4 f fd ["self", "day"] (spBad K C cBD) := by
  refine F.okX scLast (fun vs H Q E h => ?_) (fun cdv A outer s H vs Q E hr h => ?_)
  · obtain ⟨p, v, rfl, _⟩ := h
    rfl
  · obtain ⟨p, v, rfl, nd, k⟩ := h
    have hr1 : Room 2 _ := hr.mono (by decide)
    refine ⟨_, pss_cons (ps_if (pt_not (pt_val (pe_call D.F hr rfl T.gDay D.kp D.b .nil pass0 (pa_cons (pv 1) pa_nil))))
      (pss_one (ps_raise rfl (takes_of rfl rfl rfl rfl) (pmk_oex Z.c.oex Z.c.iC Z.c.tI Z.F hr1 Z.b .nil pass0 rfl Z.c.g (pa_cons (pv 1) pa_nil)))) pss_nil) pss_never, ?_⟩
    obtain ⟨t, b1, b2, ty, h1, h2, h3⟩ := nd.ex
    refine ⟨_, rfl, v, t, b1, b2, rfl, ty, h1, h2, fun _ => ⟨_, rfl, iteT ⟨_, rfl, er_made k⟩⟩, fun q => ?_⟩
    obtain ⟨i, rfl, e⟩ := h3 q
    refine ⟨i, rfl, _, rfl, ?_⟩
    rw [e]
    exact iteT ⟨_, rfl, er_made k⟩
theorem bad_place {f : Addr} {fd : FuncData} (F : Fun K "place" "Cycle.place" sPlace f fd) (T : Txt K mg C fWhole fBetw fDay fChk) (D : DayM P w K mg base fDay fdD) (Z : ErM P w K mg base "BadDay" "value" cBD fBI dBI) :
    FnOk P w K mg base (L2.CX P w) 4 f fd ["self", "day"] (spBad K C cBD) := by
  refine F.okX scPlace (fun vs H Q E h => ?_) (fun cdv A outer s H vs Q E hr h => ?_)
  · obtain ⟨p, v, rfl, _⟩ := h
    rfl
  · obtain ⟨p, v, rfl, nd, k⟩ := h
    have hr1 : Room 2 _ := hr.mono (by decide)
    refine ⟨_, pss_cons (ps_if (pt_not (pt_val (pe_call D.F hr rfl T.gDay D.kp D.b .nil pass0 (pa_cons (pv 1) pa_nil))))
      (pss_one (ps_raise rfl (takes_of rfl rfl rfl rfl) (pmk_oex Z.c.oex Z.c.iC Z.c.tI Z.F hr1 Z.b .nil pass0 rfl Z.c.g (pa_cons (pv 1) pa_nil)))) pss_nil) pss_never, ?_⟩
    obtain ⟨t, b1, b2, ty, h1, h2, h3⟩ := nd.ex
    refine ⟨_, rfl, v, t, b1, b2, rfl, ty, h1, h2, fun _ => ⟨_, rfl, iteT ⟨_, rfl, er_made k⟩⟩, fun q => ?_⟩
    obtain ⟨i, rfl, e⟩ := h3 q
    refine ⟨i, rfl, _, rfl, ?_⟩
    rw [e]
    exact iteT ⟨_, rfl, er_made k⟩
theorem bad_length {f : Addr} {fd : FuncData} (F : Fun K "length" "Cycle.length" sLength f fd) (T : Txt K mg C fWhole fBetw fDay fChk) (D : DayM P w K mg base fDay fdD) (Z : ErM P w K mg base "BadDay" "value" cBD fBI dBI) :
    FnOk P w K mg base (L2.CX P w) 4 f fd ["self", "day"] (spBad K C cBD) := by
  refine F.okX scLength (fun vs H Q E h => ?_) (fun cdv A outer s H vs Q E hr h => ?_)
  · obtain ⟨p, v, rfl, _⟩ := h
    rfl
  · obtain ⟨p, v, rfl, nd, k⟩ := h
    have hr1 : Room 2 _ := hr.mono (by decide)
    refine ⟨_, pss_cons (ps_if (pt_not (pt_val (pe_call D.F hr rfl T.gDay D.kp D.b .nil pass0 (pa_cons (pv 1) pa_nil))))
      (pss_one (ps_raise rfl (takes_of rfl rfl rfl rfl) (pmk_oex Z.c.oex Z.c.iC Z.c.tI Z.F hr1 Z.b .nil pass0 rfl Z.c.g (pa_cons (pv 1) pa_nil)))) pss_nil) pss_never, ?_⟩
    obtain ⟨t, b1, b2, ty, h1, h2, h3⟩ := nd.ex
    refine ⟨_, rfl, v, t, b1, b2, rfl, ty, h1, h2, fun _ => ⟨_, rfl, iteT ⟨_, rfl, er_made k⟩⟩, fun q => ?_⟩
    obtain ⟨i, rfl, e⟩ := h3 q
    refine ⟨i, rfl, _, rfl, ?_⟩
    rw [e]
    exact iteT ⟨_, rfl, er_made k⟩
theorem bad_rmod {f : Addr} {fd : FuncData} (F : Fun K "__rmod__" "Cycle.__rmod__" sRmod f fd) (T : Txt K mg C fWhole fBetw fDay fChk) (D : DayM P w K mg base fDay fdD) (Z : ErM P w K mg base "BadDay" "value" cBD fBI dBI) :
    FnOk P w K mg base (L2.CX P w) 4 f fd ["self", "other"] (spBad K C cBD) := by
  refine F.okX scRmod (fun vs H Q E h => ?_) (fun cdv A outer s H vs Q E hr h => ?_)
  · obtain ⟨p, v, rfl, _⟩ := h
    rfl
  · obtain ⟨p, v, rfl, nd, k⟩ := h
    have hr1 : Room 2 _ := hr.mono (by decide)
    refine ⟨_, pss_cons (ps_if (pt_not (pt_val (pe_call D.F hr rfl T.gDay D.kp D.b .nil pass0 (pa_cons (pv 1) pa_nil))))
      (pss_one (ps_raise rfl (takes_of rfl rfl rfl rfl) (pmk_oex Z.c.oex Z.c.iC Z.c.tI Z.F hr1 Z.b .nil pass0 rfl Z.c.g (pa_cons (pv 1) pa_nil)))) pss_nil) pss_never, ?_⟩
    obtain ⟨t, b1, b2, ty, h1, h2, h3⟩ := nd.ex
    refine ⟨_, rfl, v, t, b1, b2, rfl, ty, h1, h2, fun _ => ⟨_, rfl, iteT ⟨_, rfl, er_made k⟩⟩, fun q => ?_⟩
    obtain ⟨i, rfl, e⟩ := h3 q
    refine ⟨i, rfl, _, rfl, ?_⟩
    rw [e]
    exact iteT ⟨_, rfl, er_made k⟩
theorem bad_rfloordiv {f : Addr} {fd : FuncData} (F : Fun K "__rfloordiv__" "Cycle.__rfloordiv__" sRfdiv f fd) (T : Txt K mg C fWhole fBetw fDay fChk) (D : DayM P w K mg base fDay fdD) (Z : ErM P w K mg base "BadDay" "value" cBD fBI dBI) :
    FnOk P w K mg base (L2.CX P w) 4 f fd ["self", "other"] (spBad K C cBD) := by
  refine F.okX scRfdiv (fun vs H Q E h => ?_) (fun cdv A outer s H vs Q E hr h => ?_)
  · obtain ⟨p, v, rfl, _⟩ := h
    rfl
  · obtain ⟨p, v, rfl, nd, k⟩ := h
    have hr1 : Room 2 _ := hr.mono (by decide)
    refine ⟨_, pss_cons (ps_if (pt_not (pt_val (pe_call D.F hr rfl T.gDay D.kp D.b .nil pass0 (pa_cons (pv 1) pa_nil))))
      (pss_one (ps_raise rfl (takes_of rfl rfl rfl rfl) (pmk_oex Z.c.oex Z.c.iC Z.c.tI Z.F hr1 Z.b .nil pass0 rfl Z.c.g (pa_cons (pv 1) pa_nil)))) pss_nil) pss_never, ?_⟩
    obtain ⟨t, b1, b2, ty, h1, h2, h3⟩ := nd.ex
    refine ⟨_, rfl, v, t, b1, b2, rfl, ty, h1, h2, fun _ => ⟨_, rfl, iteT ⟨_, rfl, er_made k⟩⟩, fun q => ?_⟩
    obtain ⟨i, rfl, e⟩ := h3 q
    refine ⟨i, rfl, _, rfl, ?_⟩
    rw [e]
    exact iteT ⟨_, rfl, er_made k⟩
end
end My
namespace My
open PySem PySem.Spec PyProof.Rows L2
/-- a wish about errors, told only of states with as many slots as the def has names -/
theorem takes_len {X : Cx} {W : WX} (tk : Takes X W) : Takes X (fun cls d σ H => σ.length = X.N.length → W cls d σ H) := fun u s' ⟨a, B, sI, pins, σ, H, cls, d, e, I, nb, up, sky, na, os, ag, w⟩ =>
  tk u s' ⟨a, B, sI, pins, σ, H, cls, d, e, I, nb, up, sky, na, os, ag, w I.len⟩
/-- what can be shown -/
structure Shows (K : PySem.W.Frag) (H : Hp) (v : V) (d : PyData) : Prop where
  dp : DpO K H v d
  sh : d.showable = true
  dep : d.depth ≤ 64
  sz : d.shown.length ≤ sizeLine
section
variable {P : Program} {w : World} {K : PySem.W.Frag} {mg : Str → Option Value} {base : Heap} {cBD fBI cDE : Addr}
/-- heard, where what is asked raises BadDay -/
def TTday (K : PySem.W.Frag) (cBD : Addr) : (XK → Hp → VK → Prop) → Hp → VK → Prop := fun tl H Q => ∀ (H1 : Hp) (Q1 : VK), Same H H1 →
  tl (fun cls d H' => cls = .ref cBD ∧ ∃ (dd : Addr) (v : V) (pd : PyData), d = some dd ∧ H' dd = some (.xd [("value", v)]) ∧ Shows K H' v pd ∧ ∀ t H'', Same H' H'' → H'' t = some (.tup [.str "day", .str pd.shown]) → Q (.ref t) H'') H1 Q1
theorem same_sqT {K : PySem.W.Frag} {H H' : Hp} {a : Addr} {xs : List V} (e : Same H H') (h : SqT K H a xs) : SqT K H' a xs := by
  rcases h with (h | ⟨o, h⟩) | h
  · exact .inl (.inl (e _ _ h))
  · exact .inl (.inr ⟨o, e _ _ h⟩)
  · exact .inr h
mutual
theorem dp_same {K : PySem.W.Frag} {H H' : Hp} (s : Same H H') : ∀ (d : PyData) (v : V), Dp K H v d → Dp K H' v d
  | .none, _, h => by cases h; exact .non
  | .bool _, _, h => by cases h; exact .bl _
  | .int _, _, h => by cases h; exact .int _
  | .str _, _, h => by cases h; exact .str _
  | .list ds, _, h => by
    cases h with
    | lst h1 h2 => exact .lst (s.seq h1) (dp_sameA s ds _ h2)
  | .tuple ds, _, h => by
    cases h with
    | tup h1 h2 => exact .tup (same_sqT s h1) (dp_sameA s ds _ h2)
  | .dict _, _, h => nomatch h
theorem dp_sameA {K : PySem.W.Frag} {H H' : Hp} (s : Same H H') : ∀ (ds : List PyData) (vs : List V), DpAll K H vs ds → DpAll K H' vs ds
  | [], _, h => by cases h; exact .nil
  | d :: ds, _, h => by
    cases h with
    | cons h1 h2 => exact .cons (dp_same s d _ h1) (dp_sameA s ds _ h2)
end
theorem DpO.same {K : PySem.W.Frag} {H H' : Hp} {v : V} {d : PyData} (s : Same H H') (h : DpO K H v d) : DpO K H' v d := by
  rcases h with ⟨h, n⟩ | ⟨a, e, ha, ed⟩
  · exact .inl ⟨dp_same s _ _ h, n⟩
  · exact .inr ⟨a, e, s _ _ ha, ed⟩
/-- what the text of heard leans on -/
structure HeardT (K : PySem.W.Frag) (mg : Str → Option Value) (cBD cDE fBI : Addr) : Prop where
  ec : ErC K mg "BadDay" "value" cBD fBI
  gDE : mg "DayError" = some (.ref cDE)
  exm : PySem.W.exmOne K (.ref cBD) (.ref cDE) = some true
  kit : PySem.W.kitOne K (.ref cBD) (.ref cBD) = some true
  zIsi : mg "isinstance" = none
  zRepr : mg "repr" = none
theorem scHeard : FnScope ["_law_ask", "_law_caught", "_law_found", "error"] ["_law_ask"] (defScope sHeard) := ⟨rfl, rfl, rfl, by decide +kernel, rfl, by decide +kernel, by decide +kernel⟩
theorem heard_gives {X : Cx} {g : Addr} {cdg : Value} {q : Str} (T : HeardT X.K X.mg cBD cDE fBI) (gd : X.A.guards = some []) (hu : ∀ e : Env, (X.A.deeper e).units + 70 < cLine) :
    LamX.GivesTo X ["_law_ask", "_law_caught", "_law_found", "error"] "_law_heard" (defScope sHeard) g cdg (defBody sHeard) "_law_ask" q (TTday X.K cBD) := by
  intro f c' s H Q tl act hc h
  refine ⟨_, pss_cons (ps_asg (pe_tup (pa_cons pe_non (pa_cons pe_non pa_nil))) (pg_tup rfl (pgs_cons (pg_name (i := 1) scHeard.nd rfl (.inl rfl)) (pgs_cons (pg_name (i := 2) scHeard.nd rfl (.inl rfl)) pgs_nil))))
    (pss_cons (ps_try_keep (X := (cxOf C8.CX0 X.prog X.w X.K X.mg X.base ["_law_ask", "_law_caught", "_law_found", "error"] "_law_heard" (defScope sHeard) g cdg X.A X.stack s H C8.E0).nox) (c := .ref cDE) (i := 3)
        (tb := fun W D σ H => ∃ Ech : XK, (∀ cls d σ' H', Ech cls d H' → σ'.length = 4 → W cls d σ' H') ∧ σ[0]? = some (some (.ref f)) ∧ H c' = some (LamX.CodeO c' q) ∧ tl Ech H (fun v H1 => D.nx (σ.set 2 (some v)) H1))
        rfl rfl rfl scHeard.nd rfl rfl ⟨rfl, by decide, .inl T.gDE⟩ (fun W pn xe tk _ => ?_) (fun a oe cls d pn _ _ => pss_one (ps_set (i := 1) scHeard.nd rfl (Or.inl rfl) (pv 3))))
    (pss_cons (ps_if (pt_cmp (pc_isN (pv 1))) pss_never pss_nil)
    (pss_cons (ps_if (pt_val (pe_callB call_isK (by rfl) T.zIsi (by decide +kernel) (pa_cons (pv 1) (pa_cons (pe_glob (v := .ref cBD) rfl T.ec.g rfl) pa_nil))))
      (pss_one (ps_ret (pe_tup (pa_cons pe_str (pa_cons (pe_callB (cr_reprO gd (hu _)) (by rfl) T.zRepr (by decide +kernel) (pa_cons (pe_kf (pv 1)) pa_nil)) pa_nil))))) pss_nil)
    pss_never))), ?_⟩
  · refine ⟨fun pins s' σ H' D I h' => ?_⟩
    obtain ⟨Ech, hW, h1, h2, h3⟩ := h'
    exact PSs.run (pss_one (ps_set (i := 2) scHeard.nd rfl (Or.inl rfl) (act _ pn xe Ech _ _ (takes_len tk) (fun cls d σ' H' e l => hW cls d σ' H' e l)))) pins s' σ H' D I ⟨h1, h2, h3⟩
  · refine ⟨(by show 2 ≤ sizeLine; decide), fun t0 n0 => ?_⟩
    refine ⟨t0, _, rfl, SqT.of upd_same, rfl, _, _, rfl, _, _, rfl, rfl, ?_⟩
    have s0 : Same H (upd H t0 (.tup [.non, .non])) := same_new n0
    refine ⟨_, fun cls d σ' H' e l => ?_, rfl, s0 _ _ hc, h _ _ s0⟩
    obtain ⟨rfl, dd, v, pd, rfl, hdd, sh, k⟩ := e
    obtain ⟨x0, x1, x2, x3, rfl⟩ : ∃ x0 x1 x2 x3, σ' = [x0, x1, x2, x3] := by
      match σ', l with
      | [x0, x1, x2, x3], _ => exact ⟨_, _, _, _, rfl⟩
    refine ⟨T.exm, fun a na => ⟨_, rfl, fun na' => ?_⟩⟩
    have s1 : Same H' (upd H' a (ErrO a (.ref cBD) (some dd))) := same_new na
    have ke : Kept (upd H' a (ErrO a (.ref cBD) (some dd))) a cBD dd [("value", v)] := ⟨upd_same, s1 _ _ hdd⟩
    have sh1 := sh.dp.same s1
    refine ⟨_, rfl, _, rfl, iteF ?_⟩
    refine ⟨_, rfl, a, cBD, dd, [("value", v)], .ref cBD, .ref cBD, true, rfl, ke, T.ec.ec, (fun u q => q), T.kit, _, rfl, iteT ?_⟩
    refine ⟨_, rfl, a, cBD, dd, [("value", v)], v, rfl, ke, T.ec.xf, T.ec.no, rfl, v, pd, rfl, sh1, sh.sh, sh.dep, sh.sz, ?_⟩
    refine ⟨(by show 2 ≤ sizeLine; decide), fun t nt => k t _ (s1.trans (same_new nt)) upd_same⟩
end
end My
namespace My
open PySem PySem.Spec PyProof.Rows L2
abbrev sRefused : Stmt := top 31
/-- a def that makes lambdas: its code object is known -/
theorem okGc {P : Program} {w : World} {K : PySem.W.Frag} {mg : Str → Option Value} {base : Heap} {x qual : Str} {st : Stmt} {f c : Addr} {fd : FuncData} {N ps : List Str} {k : Nat} {sp : Sp} (F : Fun K x qual st f fd) (hc : fd.code = .ref c) (S : FnScope N ps (defScope st)) (len : ∀ vs H Q E, sp vs H Q E → vs.length = ps.length)
    (body : ∀ (A : Around) (outer : List Env) (s : Shared) (H : Hp) (vs : List V) (Q : VK) (E : XK), A.guards = some [] → Room k (A.deeper (envOfC qual (defScope st) s.heap.objs.size f (.ref c))) → sp vs H Q E →
      ∃ t, PSs (cxOf CX0 P w K mg base N qual (defScope st) f (.ref c) A outer s H E).nox (defBody st) t ∧ t { nx := fun _ H' => Q .non H', rt := Q } (start N vs) H) : FnG P w K mg base CX0 (k + 1) f fd ps sp := by
  obtain ⟨oc, od, kV, doc, pm, an, cdv, ct, osl, e, lk, hcd⟩ := F.ex
  have ec : cdv = .ref c := by rw [e] at hc; exact hc
  subst ec
  subst e
  refine ⟨len, fun A outer s H args us vs Q E gd room e0 bnd rv hs => ?_⟩
  have inK : K.In s.heap := e0.mod.kin.keeps fun b o e => (e0.bs b o e).1
  have nol : s.heap.NoLimit := e0.mod.nolimit.keeps fun b o e => (e0.bs b o e).1
  refine codeAny_call_function room.depth (inK _ _ lk) rfl S.co S.gen rfl (PySem.W.codeRec_of inK hcd) (bnd _ _ _ _ (wpAny_newFunctionEnv_cells S.kind (fun y hy => ?_) fun env he s1 x => ?_))
  · exact (S.par y.1 (List.of_mem_zip hy).1).elim .inl fun q => .inr ⟨q, PySem.W.cellsFrom_some _ _ _ (.inl q)⟩
  subst he
  refine ⟨nol.keeps x.toInCall.keep, codeAny_func ?_⟩
  obtain ⟨t, ht, hq⟩ := body A outer s H vs Q E gd (room.deeper _) hs
  refine wpAny_mono (ht.nox.run [] s1 (start N vs) H _ (inv_start S room.hd e0 (len _ _ _ _ hs) rv x) hq) (fun fl s' z => ?_) fun e s' z => z
  match fl, z with
  | .ret u, ⟨v, σ', H', J, ru, q⟩ => exact ⟨v, H', J.os, J.bare, J.base, J.hok, ru, q⟩
  | .next, ⟨σ', H', J, q⟩ => exact ⟨V.non, H', J.os, J.bare, J.base, J.hok, rfl, q⟩
  | .brk, ⟨_, _, _, q⟩ => exact q.elim
  | .cont, ⟨_, _, _, q⟩ => exact q.elim
section
variable {cBD fBI cDE g c Pt : Addr} {fdH : FuncData}
/-- heard(lambda: ..) -/
theorem pe_heard {X : Cx} {k : Nat} {params : Arguments} {body : Expr} {scope : Scope} {t : XK → TE} {p lpos pos : Pos} (qn : Str) (hq : X.env.qual = qn) (FH : Fun X.K "_law_heard" "_law_heard" sHeard g fdH) (bH : Binds X.K fdH ["_law_ask"] []) (gH : X.mg "_law_heard" = some (.ref g)) (T : HeardT X.K X.mg cBD cDE fBI)
    (gd : X.A.guards = some []) (TB : LamX.TabB X.base X.mg c Pt) (hcode : X.env.code = .ref c) (hr : Room (k + 2) X.A) (hgl : Gl X "_law_heard") (sc : Scope) (hsc : X.env.scope = sc) (hL : LamX.lamSB sc scope = true) (hdef : defaultsOf params X.env = ([], []))
    (hbind : ∀ (q : Str) (cl : List (Str × Addr)) (pm cv ctv : Value), bindArgs (PySem.W.kla_fn "<lambda>" q params body scope cl pm cv ctv) ⟨[], []⟩ = pure [])
    (hbody : ∀ (A : Around) (outer : List Env) (s : Shared) (H : Hp) (E : XK) (f c' : Addr), Room k (A.deeper (LamX.lamEnv X scope s.heap.objs.size f c')) → PE (LamX.lamCx X A outer s H E scope f c') body (t E)) :
    PE X (.Call (.Name "_law_heard" p) [.Lambda params body scope lpos] [] pos) (LamX.tLam [(Pt, qn ++ Str.ofString "<lambda>")] (TTday X.K cBD) t) := by
  subst hq
  obtain ⟨oc, od, kV, doc, pm, an, cdv, ct, osl, rfl, lk, hcd⟩ := FH.ex
  refine LamX.pe_lamcall (Ng := ["_law_ask", "_law_caught", "_law_found", "error"]) hgl gH FH.kp lk hcd bH scHeard rfl (.inl rfl) (heard_gives T gd fun e => ?_) TB hcode List.mem_cons_self (fun q hq _ => by rw [List.mem_singleton.mp hq]) hr (by rw [hsc]; exact LamX.lamS_by hL) hdef hbind hbody
  have := (hr.deeper e).un
  omega
end
theorem strOk_of (s : String) : PyData.strOk (Str.ofString s) = true := by
  rw [show Str.ofString s = ⟨(s.toList.map Char.toNat).toArray⟩ from PySem.Str.ofString_eq_toList s]
  unfold PyData.strOk
  rw [List.all_toArray, List.all_eq_true]
  intro n hn
  obtain ⟨c, _, rfl⟩ := List.mem_map.mp hn
  have h := c.valid
  rw [decide_eq_true_eq]
  have e : c.toNat = c.val.toNat := rfl
  unfold UInt32.isValidChar Nat.isValidChar at h
  omega
theorem pairs_lay {a b : Str} (ha : PyData.strOk a = true) (hb : PyData.strOk b = true) : ∀ n : Nat, PyData.canLayAll0 (List.replicate n (.tuple [.str a, .str b])) = true ∧ PyData.depthAll (List.replicate n (.tuple [.str a, .str b])) ≤ 5
  | 0 => ⟨rfl, Nat.zero_le _⟩
  | n + 1 => by
    obtain ⟨h1, h2⟩ := pairs_lay ha hb n
    refine ⟨?_, ?_⟩
    · simp only [List.replicate_succ, PyData.canLayAll0, PyData.canLay0, ha, hb, h1, Bool.and_self]
    · simp only [List.replicate_succ, PyData.depthAll, PyData.depth]
      omega
theorem pairs_shaped {a b : Str} (ha : PyData.strOk a = true) (hb : PyData.strOk b = true) (n : Nat) : SeqAt.shaped (.list (List.replicate n (.tuple [.str a, .str b]))) = true := by
  obtain ⟨h1, h2⟩ := pairs_lay ha hb n
  unfold SeqAt.shaped
  refine Bool.and_eq_true_iff.mpr ⟨h1, decide_eq_true ?_⟩
  show PyData.depthAll _ + 1 ≤ 64
  omega
inductive OddV (H : Hp) : V → PyData → Prop where
  | non : OddV H .non .none
  | bl (b : Bool) : OddV H (.bl b) (.bool b)
  | int (i : Int) (h : dayB i = false) (hb : i.natAbs < 10 ^ 70) : OddV H (.int i) (.int i)
  | str (z : Str) (h : (reprText z).length ≤ 100) (hk : PyData.strOk (reprText z) = true) : OddV H (.str z) (.str z)
  | tup {a : Addr} (h : H a = some (.tup [.int 7])) : OddV H (.ref a) (.tuple [.int 7])
  | lst {a : Addr} (h : H a = some (.lst [.int 7])) : OddV H (.ref a) (.list [.int 7])
  | dct {a : Addr} (h : H a = some (.dK [])) : OddV H (.ref a) (.dict [])
theorem OddV.ext {H H' : Hp} {v : V} {d : PyData} (o : OddV H v d) (e : LamX.ExtN H H') : OddV H' v d := by
  cases o with
  | non => exact .non
  | bl b => exact .bl b
  | int i h hb => exact .int i h hb
  | str z h hk => exact .str z h hk
  | tup h => exact .tup (e _ _ h fun ps z => by cases z)
  | lst h => exact .lst (e _ _ h fun ps z => by cases z)
  | dct h => exact .dct (e _ _ h fun ps z => by cases z)
theorem OddV.noDay {K : PySem.W.Frag} {H : Hp} {v : V} {d : PyData} (o : OddV H v d) : NoDay K H v := by
  cases o with
  | non => exact ⟨⟨"NoneType", false, false, .base .non, by decide +kernel, by decide +kernel, fun q => by cases q⟩⟩
  | bl b => exact ⟨⟨"bool", true, true, .base (.bl b), by decide +kernel, by decide +kernel, fun q => by cases q⟩⟩
  | int i h hb => exact ⟨⟨"int", true, false, .base (.int i), by decide +kernel, by decide +kernel, fun _ => ⟨i, rfl, h⟩⟩⟩
  | str z h hk => exact ⟨⟨"str", false, false, .base (.str z), by decide +kernel, by decide +kernel, fun q => by cases q⟩⟩
  | tup h => exact ⟨⟨"tuple", false, false, .base (.tup h), by decide +kernel, by decide +kernel, fun q => by cases q⟩⟩
  | lst h => exact ⟨⟨"list", false, false, .base (.lst h), by decide +kernel, by decide +kernel, fun q => by cases q⟩⟩
  | dct h => exact ⟨⟨"dict", false, false, .base (.dK h), by decide +kernel, by decide +kernel, fun q => by cases q⟩⟩
theorem small_line {n : Nat} (h : n ≤ 1000) : n ≤ sizeLine := Nat.le_trans h (by decide)
theorem OddV.shows {K : PySem.W.Frag} {H : Hp} {v : V} {d : PyData} (o : OddV H v d) : Shows K H v d := by
  cases o with
  | non => exact ⟨.inl ⟨.non, rfl⟩, rfl, by decide, small_line (by decide)⟩
  | bl b => exact ⟨.inl ⟨.bl b, rfl⟩, rfl, by decide +revert, small_line (by cases b <;> decide)⟩
  | int i h hb =>
    refine ⟨.inl ⟨.int i, rfl⟩, ?_, by simp [PyData.depth], small_line (Nat.le_trans (int_shown hb) (by decide))⟩
    have := showAll_ints [i] fun j hj => by rw [List.mem_singleton.mp hj]; exact hb
    simpa [PyData.showableAll] using this
  | str z h hk => exact ⟨.inl ⟨.str z, rfl⟩, rfl, by simp [PyData.depth], small_line (by simp only [PyData.shown]; omega)⟩
  | tup h => exact ⟨.inl ⟨.tup (SqT.of h) (dp_ints [7]), rfl⟩, by decide +kernel, by decide +kernel, small_line (by decide +kernel)⟩
  | lst h => exact ⟨.inl ⟨.lst (SqL.of h) (dp_ints [7]), rfl⟩, by decide +kernel, by decide +kernel, small_line (by decide +kernel)⟩
  | dct h => exact ⟨.inr ⟨_, rfl, h, rfl⟩, by decide +kernel, by decide +kernel, small_line (by decide +kernel)⟩
theorem OddV.ok {H : Hp} {v : V} {d : PyData} (o : OddV H v d) : PyData.strOk d.shown = true := by
  cases o with
  | non => decide +kernel
  | bl b => cases b <;> decide +kernel
  | int i h hb => exact strOk_of (toString i)
  | str z h hk => simpa only [PyData.shown] using hk
  | tup h => decide +kernel
  | lst h => decide +kernel
  | dct h => decide +kernel
theorem OddV.left {H : Hp} {v : V} {d : PyData} (o : OddV H v d) (n : ∀ z, v ≠ .str z) : LeftOk H v := by
  cases o with
  | non => exact .non
  | bl b => exact .bl b
  | int i h hb => exact .int i
  | str z h hk => exact absurd rfl (n z)
  | tup h => exact .tup h
  | lst h => exact .lst h
  | dct h => exact .dct h
/-- whether it is a string -/
def isS : V → Bool
  | .str _ => true
  | _ => false
theorem OddV.str_ty {K : PySem.W.Frag} {H : Hp} {v : V} {d : PyData} (o : OddV H v d) : ∃ t, TyX K H v (.type t) ∧ kitB t "str" = some (isS v) := by
  cases o with
  | non => exact ⟨"NoneType", .base .non, by decide +kernel⟩
  | bl b => exact ⟨"bool", .base (.bl b), (show kitB "bool" "str" = some false by decide +kernel)⟩
  | int i h hb => exact ⟨"int", .base (.int i), (show kitB "int" "str" = some false by decide +kernel)⟩
  | str z h hk => exact ⟨"str", .base (.str z), (show kitB "str" "str" = some true by decide +kernel)⟩
  | tup h => exact ⟨"tuple", .base (.tup h), (show kitB "tuple" "str" = some false by decide +kernel)⟩
  | lst h => exact ⟨"list", .base (.lst h), (show kitB "list" "str" = some false by decide +kernel)⟩
  | dct h => exact ⟨"dict", .base (.dK h), (show kitB "dict" "str" = some false by decide +kernel)⟩
end My
namespace My
open PySem PySem.Spec PyProof.Rows L2
section
variable {P : Program} {w : World} {K : PySem.W.Frag} {mg : Str → Option Value} {base : Heap} {C fWhole fBetw fDay fChk cBD fBI cDE fHeard c Pt : Addr} {dHeard : FuncData}
/-- a method of the class at C that takes a day, with its promise about what is no day -/
structure BadM (P : Program) (w : World) (K : PySem.W.Frag) (mg : Str → Option Value) (base : Heap) (C cBD : Addr) (m : Str) (f : Addr) (fd : FuncData) : Prop where
  F : FnOk P w K mg base (L2.CX P w) 4 f fd ["self", "day"] (spBad K C cBD)
  b : Binds K fd ["self", "day"] []
  m : Meth K C m f
/-- an operator of the class, reflected -/
structure BadO (P : Program) (w : World) (K : PySem.W.Frag) (mg : Str → Option Value) (base : Heap) (C cBD : Addr) (op : Operator) (f0 f : Addr) (fd : FuncData) : Prop where
  F : FnOk P w K mg base (L2.CX P w) 4 f fd ["self", "other"] (spBad K C cBD)
  b : Binds K fd ["self", "other"] []
  r : ROp K C op f0 f
def spRefused (C Pt : Addr) (q : Str) : Sp := fun vs H Q _ => ∃ (p : Addr) (v : V) (d : PyData) (ls : List Int), vs = [.ref p, v] ∧ CycAt C H p ls ∧ OddV H v d ∧ LamX.Tabs [(Pt, q)] H ∧ ∀ H', LamX.ExtN H H' → LamX.Tabs [(Pt, q)] H' → Q (.bl true) H'
theorem cyc_ext {C : Addr} {H H' : Hp} {p : Addr} {ls : List Int} (c : CycAt C H p ls) (e : LamX.ExtN H H') : CycAt C H' p ls :=
  ⟨let ⟨dx, t, h1, h2⟩ := c.ob; ⟨dx, t, e _ _ h1 fun _ z => (by cases z), e _ _ h2 fun _ z => (by cases z)⟩, c.ok⟩
theorem tabs_but {T : List (Addr × Str)} {H H' : Hp} {L : Addr} {xs : List V} (t : LamX.Tabs T H) (s : SameBut L H H') (hL : H L = some (.lst xs)) : LamX.Tabs T H' := fun q hq => by
  obtain ⟨ps, h1, h2, h3⟩ := t q hq
  refine ⟨ps, s _ _ (ne_of h1 hL (by intro z; cases z)) h1, h2, fun pos cv hc => ?_⟩
  obtain ⟨c, e1, e2⟩ := h3 pos cv hc
  exact ⟨c, e1, s _ _ (ne_of e2 hL (by intro z; unfold LamX.CodeO at z; cases z)) e2⟩
theorem tabs_same {T : List (Addr × Str)} {H H' : Hp} (t : LamX.Tabs T H) (s : Same H H') : LamX.Tabs T H' := t.ext s
theorem ext_same {H H' : Hp} (s : Same H H') : LamX.ExtN H H' := .of s
theorem odd_but {H H' : Hp} {v : V} {d : PyData} {L : Addr} {ts : List Addr} (o : OddV H v d) (s : SameBut L H H') (hL : H L = some (.lst (ts.map V.ref))) : OddV H' v d := by
  cases o with
  | non => exact .non
  | bl b => exact .bl b
  | int i h hb => exact .int i h hb
  | str z h hk => exact .str z h hk
  | tup h => exact .tup (s _ _ (ne_of h hL (by intro z; cases z)) h)
  | lst h =>
    refine .lst (s _ _ (fun z => ?_) h)
    rw [z, hL] at h
    have e := HO.lst.inj (Option.some.inj h)
    cases ts with
    | nil => cases e
    | cons a r => cases (List.cons.inj e).1
  | dct h => exact .dct (s _ _ (ne_of h hL (by intro z; cases z)) h)
/-- the answers so far: n times the same pair -/
structure Ref (C Pt : Addr) (q : Str) (p : Addr) (ls : List Int) (v : V) (d : PyData) (H0 : Hp) (L n : Nat) (H : Hp) : Prop where
  cy : CycAt C H p ls
  od : OddV H v d
  tb : LamX.Tabs [(Pt, q)] H
  ex : LamX.ExtN H0 H
  nL : ∀ o, H0 L = some o → ∃ ps, o = .tbl ps
  li : ∃ ts : List Addr, H L = some (.lst (ts.map V.ref)) ∧ ts.length = n ∧ ∀ t ∈ ts, H t = some (.tup [.str "day", .str d.shown])
theorem Ref.ext {C Pt : Addr} {q : Str} {p : Addr} {ls : List Int} {v : V} {d : PyData} {H0 : Hp} {L n : Nat} {H H' : Hp} (r : Ref C Pt q p ls v d H0 L n H) (e : LamX.ExtN H H') (t : LamX.Tabs [(Pt, q)] H') : Ref C Pt q p ls v d H0 L n H' :=
  ⟨cyc_ext r.cy e, r.od.ext e, t, r.ex.trans e, r.nL, let ⟨ts, h1, h2, h3⟩ := r.li; ⟨ts, e _ _ h1 fun _ z => (by cases z), h2, fun t ht => e _ _ (h3 t ht) fun _ z => (by cases z)⟩⟩
theorem Ref.same {C Pt : Addr} {q : Str} {p : Addr} {ls : List Int} {v : V} {d : PyData} {H0 : Hp} {L n : Nat} {H H' : Hp} (r : Ref C Pt q p ls v d H0 L n H) (s : Same H H') : Ref C Pt q p ls v d H0 L n H' := r.ext (ext_same s) (tabs_same r.tb s)
theorem Ref.app {C Pt : Addr} {q : Str} {p : Addr} {ls : List Int} {v : V} {d : PyData} {H0 : Hp} {L n : Nat} {H : Hp} {t : Addr} (r : Ref C Pt q p ls v d H0 L n H) (ht : H t = some (.tup [.str "day", .str d.shown])) :
    ∃ xs : List V, H L = some (.lst xs) ∧ xs.length = n ∧ Ref C Pt q p ls v d H0 L (n + 1) (upd H L (.lst (xs ++ [.ref t]))) := by
  obtain ⟨ts, h1, h2, h3⟩ := r.li
  have sb : SameBut L H (upd H L (.lst (ts.map V.ref ++ [.ref t]))) := fun b o nb e => by rw [upd_ne nb]; exact e
  refine ⟨_, h1, by rw [List.length_map]; exact h2, r.cy.but sb h1, odd_but r.od sb h1, tabs_but r.tb sb h1, fun b o e n => ?_, r.nL, ts ++ [t], ?_, by rw [List.length_append, h2]; rfl, fun u hu => ?_⟩
  · rw [upd_ne (fun z => by rw [z] at e; obtain ⟨ps, q⟩ := r.nL o e; exact n ps q)]
    exact r.ex b o e n
  · rw [upd_same, List.map_append]
    rfl
  · have hu' : H u = some (.tup [.str "day", .str d.shown]) := by
      rcases List.mem_append.mp hu with z | z
      · exact h3 u z
      · rw [List.mem_singleton.mp z]
        exact ht
    exact sb _ _ (ne_of hu' h1 (by intro z; cases z)) hu'
theorem lam_meth {σ : L2.St} {H : Hp} {Q : VK} {q : Str} {p : Addr} {ls : List Int} {v : V} {d : PyData} {m : Str} (cy : CycAt C H p ls) (od : OddV H v d) (tb : LamX.Tabs [(Pt, q)] H) (h0 : σ[0]? = some (some (.ref p))) (h1 : σ[1]? = some (some v)) (n1 : ¬ m = "_total") (n2 : ¬ m = "_lengths")
    (k : ∀ t H', LamX.ExtN H H' → LamX.Tabs [(Pt, q)] H' → H' t = some (.tup [.str "day", .str d.shown]) → Q (.ref t) H') :
    LamX.tLam [(Pt, q)] (TTday K cBD) (fun E => tMeth C m (spBad K C cBD) [] E (tVar 0) (tCons (tVar 1) tNil)) σ H Q := by
  refine ⟨tb, fun Ha ea ta Hb Q1 sb => ?_⟩
  have eb := ea.trans (ext_same sb)
  have cb := cyc_ext cy eb
  obtain ⟨dx, tt, g1, g2⟩ := cb.ob
  refine ⟨_, h0, p, dx, _, rfl, g1, flds_no _ _ n1 n2, _, h1, p, v, rfl, (od.ext eb).noDay, fun dd Hc sc hdd => ⟨rfl, dd, v, d, rfl, hdd, ((od.ext eb).ext (ext_same sc)).shows, fun t Hd sd ht => ?_⟩⟩
  exact k t Hd (eb.trans ((ext_same sc).trans (ext_same sd))) (tabs_same (tabs_same (tabs_same ta sb) sc) sd) ht
theorem lam_op {σ : L2.St} {H : Hp} {Q : VK} {q : Str} {p : Addr} {ls : List Int} {v : V} {d : PyData} (cy : CycAt C H p ls) (od : OddV H v d) (tb : LamX.Tabs [(Pt, q)] H) (h0 : σ[0]? = some (some (.ref p))) (h1 : σ[1]? = some (some v)) (ns : ∀ z, v ≠ .str z)
    (k : ∀ t H', LamX.ExtN H H' → LamX.Tabs [(Pt, q)] H' → H' t = some (.tup [.str "day", .str d.shown]) → Q (.ref t) H') :
    LamX.tLam [(Pt, q)] (TTday K cBD) (fun E => tOp (rRopA C (fun vs H Q E => spBad K C cBD (vs ++ []) H Q E) E) (tVar 1) (tVar 0)) σ H Q := by
  refine ⟨tb, fun Ha ea ta Hb Q1 sb => ?_⟩
  have eb := ea.trans (ext_same sb)
  have cb := cyc_ext cy eb
  obtain ⟨dx, tt, g1, g2⟩ := cb.ob
  refine ⟨_, h1, _, h0, p, dx, _, rfl, (od.ext eb).left ns, g1, p, v, rfl, (od.ext eb).noDay, fun dd Hc sc hdd => ⟨rfl, dd, v, d, rfl, hdd, ((od.ext eb).ext (ext_same sc)).shows, fun t Hd sd ht => ?_⟩⟩
  exact k t Hd (eb.trans ((ext_same sc).trans (ext_same sd))) (tabs_same (tabs_same (tabs_same ta sb) sc) sd) ht
theorem dp_pairs {H : Hp} {a b : Str} : ∀ ts : List Addr, (∀ t ∈ ts, H t = some (.tup [.str a, .str b])) → DpAll K H (ts.map V.ref) (List.replicate ts.length (.tuple [.str a, .str b]))
  | [], _ => .nil
  | t :: r, h => .cons (.tup (SqT.of (h t (by simp))) (.cons (.str _) (.cons (.str _) .nil))) (dp_pairs r fun u hu => h u (by simp [hu]))
theorem rep_one (n : Nat) (t : Addr) : (List.replicate n [V.ref t]).flatten = (List.replicate n t).map V.ref := by
  induction n with
  | zero => rfl
  | succ n ih => simp only [List.replicate_succ, List.flatten_cons, List.map_cons, ih]; rfl
theorem scRefused : FnScope ["_law_made", "_law_odd", "_law_heard_here"] ["_law_made", "_law_odd"] (defScope sRefused) := ⟨rfl, rfl, rfl, by decide +kernel, rfl, by decide +kernel, by decide +kernel⟩
variable {f0 f1 f2 f3 f4 f5 f5' f6 f6' : Addr} {d0 d1 d2 d3 d4 d5 d6 : FuncData}
theorem st_set1 {te : TE} {u : TS} {D : Ends} {σ : L2.St} {H : Hp} (h : te σ H fun v H1 => ([v] : List V).length ≤ sizeLine ∧ ∀ L, H1 L = none → u D (σ.set 2 (some (.ref L))) (upd H1 L (.lst [v]))) : tSeq (tAsg (tLst (tCons te tNil)) (gName 2)) u D σ H := h
theorem st_app1 {te : TE} {D : Ends} {σ : L2.St} {H : Hp} {L : Addr} {xs0 : List V} (h2 : σ[2]? = some (some (.ref L))) (hl : H L = some (.lst xs0))
    (h : te σ H fun v H1 => ∃ l xs y, V.ref L = .ref l ∧ [v] = [y] ∧ H1 l = some (.lst xs) ∧ xs.length < sizeLine ∧ D.nx σ (upd H1 l (.lst (xs ++ [y])))) : tDrop (tBM K "list" rAppend (tVar 2) (tCons te tNil)) D σ H := ⟨_, h2, .inl ⟨rfl, _, SqL.of hl⟩, h⟩
theorem st_app {te : TE} {u : TS} {D : Ends} {σ : L2.St} {H : Hp} {L : Addr} {xs0 : List V} (h2 : σ[2]? = some (some (.ref L))) (hl : H L = some (.lst xs0))
    (h : te σ H fun v H1 => ∃ l xs y, V.ref L = .ref l ∧ [v] = [y] ∧ H1 l = some (.lst xs) ∧ xs.length < sizeLine ∧ u D σ (upd H1 l (.lst (xs ++ [y])))) : tSeq (tDrop (tBM K "list" rAppend (tVar 2) (tCons te tNil))) u D σ H := ⟨_, h2, .inl ⟨rfl, _, SqL.of hl⟩, h⟩
set_option maxHeartbeats 4000000 in
theorem ok_refused {f : Addr} {fd : FuncData} (F : Fun K "_law_refused" "_law_refused" sRefused f fd) (hc : fd.code = .ref c) (T : Txt K mg C fWhole fBetw fDay fChk) (TB : LamX.TabB base mg c Pt)
    (FH : Fun K "_law_heard" "_law_heard" sHeard fHeard dHeard) (bH : Binds K dHeard ["_law_ask"] []) (gH : mg "_law_heard" = some (.ref fHeard)) (HT : HeardT K mg cBD cDE fBI) (zStr : mg "str" = none)
    (M0 : BadM P w K mg base C cBD "block" f0 d0) (M1 : BadM P w K mg base C cBD "first" f1 d1) (M2 : BadM P w K mg base C cBD "last" f2 d2) (M3 : BadM P w K mg base C cBD "place" f3 d3) (M4 : BadM P w K mg base C cBD "length" f4 d4)
    (O5 : BadO P w K mg base C cBD .Mod f5' f5 d5) (O6 : BadO P w K mg base C cBD .FloorDiv f6' f6 d6) (hsb : PySem.W.subIn K (.ref C) (.type "bool") = some false) :
    FnG P w K mg base CX0 7 f fd ["_law_made", "_law_odd"] (spRefused C Pt ((Str.ofString "_law_refused" ++ Str.ofString ".<locals>.") ++ Str.ofString "<lambda>")) := by
  refine okGc F hc scRefused (fun vs H Q E h => ?_) (fun A outer s H vs Q E gd hr h => ?_)
  · obtain ⟨p, v, d, ls, rfl, _⟩ := h
    rfl
  · obtain ⟨p, v, d, ls, rfl, cy, od, tb, k⟩ := h
    have hu70 : (A.deeper (envOfC "_law_refused" (defScope sRefused) s.heap.objs.size f (.ref c))).units + 70 < cLine := by have := hr.un; omega
    refine ⟨_, pss_cons (ps_set (i := 2) scRefused.nd rfl (Or.inl rfl) (pe_lst (pa_cons (pe_heard (Str.ofString "_law_refused" ++ Str.ofString ".<locals>.") (by rfl) FH bH gH HT gd TB rfl hr rfl (defScope sRefused) rfl (by decide +kernel) rfl (fun _ _ _ _ _ => rfl) (fun A outer s H E f c' hr => pe_meth (pv 0) T.cl M0.m M0.F hr M0.b .nil (passes_call (takes_of rfl rfl rfl rfl) fun _ _ _ _ h => h) (pa_cons (pv 1) pa_nil))) pa_nil)))
      (pss_cons (ps_expr (pe_bm PySem.F.plainAttrs_list PySem.F.slot_list_append PySem.F.type_list_append mt_append (pv 2) (pa_cons (pe_heard (Str.ofString "_law_refused" ++ Str.ofString ".<locals>.") (by rfl) FH bH gH HT gd TB rfl hr rfl (defScope sRefused) rfl (by decide +kernel) rfl (fun _ _ _ _ _ => rfl) (fun A outer s H E f c' hr => pe_meth (pv 0) T.cl M1.m M1.F hr M1.b .nil (passes_call (takes_of rfl rfl rfl rfl) fun _ _ _ _ h => h) (pa_cons (pv 1) pa_nil))) pa_nil)))
      (pss_cons (ps_expr (pe_bm PySem.F.plainAttrs_list PySem.F.slot_list_append PySem.F.type_list_append mt_append (pv 2) (pa_cons (pe_heard (Str.ofString "_law_refused" ++ Str.ofString ".<locals>.") (by rfl) FH bH gH HT gd TB rfl hr rfl (defScope sRefused) rfl (by decide +kernel) rfl (fun _ _ _ _ _ => rfl) (fun A outer s H E f c' hr => pe_meth (pv 0) T.cl M2.m M2.F hr M2.b .nil (passes_call (takes_of rfl rfl rfl rfl) fun _ _ _ _ h => h) (pa_cons (pv 1) pa_nil))) pa_nil)))
      (pss_cons (ps_expr (pe_bm PySem.F.plainAttrs_list PySem.F.slot_list_append PySem.F.type_list_append mt_append (pv 2) (pa_cons (pe_heard (Str.ofString "_law_refused" ++ Str.ofString ".<locals>.") (by rfl) FH bH gH HT gd TB rfl hr rfl (defScope sRefused) rfl (by decide +kernel) rfl (fun _ _ _ _ _ => rfl) (fun A outer s H E f c' hr => pe_meth (pv 0) T.cl M3.m M3.F hr M3.b .nil (passes_call (takes_of rfl rfl rfl rfl) fun _ _ _ _ h => h) (pa_cons (pv 1) pa_nil))) pa_nil)))
      (pss_cons (ps_expr (pe_bm PySem.F.plainAttrs_list PySem.F.slot_list_append PySem.F.type_list_append mt_append (pv 2) (pa_cons (pe_heard (Str.ofString "_law_refused" ++ Str.ofString ".<locals>.") (by rfl) FH bH gH HT gd TB rfl hr rfl (defScope sRefused) rfl (by decide +kernel) rfl (fun _ _ _ _ _ => rfl) (fun A outer s H E f c' hr => pe_meth (pv 0) T.cl M4.m M4.F hr M4.b .nil (passes_call (takes_of rfl rfl rfl rfl) fun _ _ _ _ h => h) (pa_cons (pv 1) pa_nil))) pa_nil)))
      (C8.pss_cut (ps_if (pt_not (pt_val (pe_callB call_isi (by rfl) T.zIsi (by decide +kernel) (pa_cons (pv 1) (pa_cons (pe_bltn (v := .ty "str") (by rfl) zStr (by decide +kernel) rfl) pa_nil)))))
        (pss_cons (ps_expr (pe_bm PySem.F.plainAttrs_list PySem.F.slot_list_append PySem.F.type_list_append mt_append (pv 2) (pa_cons (pe_heard (Str.ofString "_law_refused" ++ Str.ofString ".<locals>.") (by rfl) FH bH gH HT gd TB rfl hr rfl (defScope sRefused) rfl (by decide +kernel) rfl (fun _ _ _ _ _ => rfl) (fun A outer s H E f c' hr => pe_op (op_rmodA O5.r hsb (O5.F.raw O5.b .nil) hr (passes_call (takes_of rfl rfl rfl rfl) fun _ _ _ _ h => h)) (pv 1) (pv 0))) pa_nil)))
        (pss_one (ps_expr (pe_bm PySem.F.plainAttrs_list PySem.F.slot_list_append PySem.F.type_list_append mt_append (pv 2) (pa_cons (pe_heard (Str.ofString "_law_refused" ++ Str.ofString ".<locals>.") (by rfl) FH bH gH HT gd TB rfl hr rfl (defScope sRefused) rfl (by decide +kernel) rfl (fun _ _ _ _ _ => rfl) (fun A outer s H E f c' hr => pe_op (op_rfdivA O6.r hsb (O6.F.raw O6.b .nil) hr (passes_call (takes_of rfl rfl rfl rfl) fun _ _ _ _ h => h)) (pv 1) (pv 0))) pa_nil))))) pss_nil)
      (pss_one (ps_ret (pe_cmpR (op_eqD hr.units) (pv 2) (pe_op op_rep (pe_lst (pa_cons (pe_tup (pa_cons pe_str (pa_cons (pe_callB (cr_reprO gd hu70) (by rfl) HT.zRepr (by decide +kernel) (pa_cons (pv 1) pa_nil)) pa_nil))) pa_nil))
        (pe_callB call_len_seq (by rfl) T.zLen PySem.boot_len (pa_cons (pv 2) pa_nil))) (nomark _))))))))), ?_⟩
    refine st_set1 (lam_meth cy od tb rfl rfl (by decide +kernel) (by decide +kernel) fun t1 H1 e1 b1 u1 => ⟨(by show 1 ≤ sizeLine; decide), fun L nL => ?_⟩)
    have s1 : Same H1 (upd H1 L (.lst [.ref t1])) := same_new nL
    have nL0 : ∀ o, H L = some o → ∃ ps, o = .tbl ps := fun o z => Classical.byContradiction fun y => by
      rw [e1 _ _ z fun ps q => y ⟨ps, q⟩] at nL
      cases nL
    have r1 : Ref C Pt ((Str.ofString "_law_refused" ++ Str.ofString ".<locals>.") ++ Str.ofString "<lambda>") p ls v d H L 1 (upd H1 L (.lst [.ref t1])) :=
      ⟨cyc_ext cy (e1.trans (ext_same s1)), od.ext (e1.trans (ext_same s1)), tabs_same b1 s1, e1.trans (ext_same s1), nL0, [t1], upd_same, rfl, fun t ht => by rw [List.mem_singleton.mp ht]; exact s1 _ _ u1⟩
    generalize upd H1 L (.lst [.ref t1]) = H2 at r1 ⊢
    clear s1 nL u1 b1 e1
    obtain ⟨ts1, g1, _, _⟩ := id r1.li
    refine st_app rfl g1 (lam_meth r1.cy r1.od r1.tb rfl rfl (by decide +kernel) (by decide +kernel) fun t Ha ea ba ua => ?_)
    obtain ⟨xs1, hx1, lx1, r2⟩ := (r1.ext ea ba).app ua
    refine ⟨L, xs1, _, rfl, rfl, hx1, small1000 (by omega), ?_⟩
    generalize upd Ha L (.lst (xs1 ++ [.ref t])) = H3 at r2 ⊢
    clear hx1 ua ba ea
    obtain ⟨ts2, g2, _, _⟩ := id r2.li
    refine st_app rfl g2 (lam_meth r2.cy r2.od r2.tb rfl rfl (by decide +kernel) (by decide +kernel) fun t Ha ea ba ua => ?_)
    obtain ⟨xs2, hx2, lx2, r3⟩ := (r2.ext ea ba).app ua
    refine ⟨L, xs2, _, rfl, rfl, hx2, small1000 (by omega), ?_⟩
    generalize upd Ha L (.lst (xs2 ++ [.ref t])) = H4 at r3 ⊢
    clear hx2 ua ba ea
    obtain ⟨ts3, g3, _, _⟩ := id r3.li
    refine st_app rfl g3 (lam_meth r3.cy r3.od r3.tb rfl rfl (by decide +kernel) (by decide +kernel) fun t Ha ea ba ua => ?_)
    obtain ⟨xs3, hx3, lx3, r4⟩ := (r3.ext ea ba).app ua
    refine ⟨L, xs3, _, rfl, rfl, hx3, small1000 (by omega), ?_⟩
    generalize upd Ha L (.lst (xs3 ++ [.ref t])) = H5 at r4 ⊢
    clear hx3 ua ba ea
    obtain ⟨ts4, g4, _, _⟩ := id r4.li
    refine st_app rfl g4 (lam_meth r4.cy r4.od r4.tb rfl rfl (by decide +kernel) (by decide +kernel) fun t Ha ea ba ua => ?_)
    obtain ⟨xs4, hx4, lx4, r5⟩ := (r4.ext ea ba).app ua
    refine ⟨L, xs4, _, rfl, rfl, hx4, small1000 (by omega), ?_⟩
    generalize upd Ha L (.lst (xs4 ++ [.ref t])) = H6 at r5 ⊢
    clear hx4 ua ba ea
    refine ⟨fun σ H' => ∃ n : Nat, (n = 5 ∨ n = 7) ∧ σ = [some (.ref p), some v, some (.ref L)] ∧ Ref C Pt ((Str.ofString "_law_refused" ++ Str.ofString ".<locals>.") ++ Str.ofString "<lambda>") p ls v d H L n H', ?_, ?_⟩
    · obtain ⟨ty, tyx, kst⟩ := r5.od.str_ty (K := K)
      refine ⟨_, rfl, v, .ty "str", _, _, isS v, rfl, .ty "str", tyx, kit_ty kst, _, rfl, ?_⟩
      cases hb : isS v with
      | true => exact iteF ⟨5, .inl rfl, rfl, r5⟩
      | false =>
        have ns : ∀ z, v ≠ .str z := fun z e => by
          rw [e] at hb
          cases hb
        obtain ⟨ts5, g5, _, _⟩ := id r5.li
        refine iteT (st_app rfl g5 (lam_op r5.cy r5.od r5.tb rfl rfl ns fun t Ha ea ba ua => ?_))
        obtain ⟨xs5, hx5, lx5, r6⟩ := (r5.ext ea ba).app ua
        refine ⟨L, xs5, _, rfl, rfl, hx5, small1000 (by omega), ?_⟩
        generalize upd Ha L (.lst (xs5 ++ [.ref t])) = H7 at r6 ⊢
        clear hx5 ua ba ea
        obtain ⟨ts6, g6, _, _⟩ := id r6.li
        refine st_app1 rfl g6 (lam_op r6.cy r6.od r6.tb rfl rfl ns fun t Ha ea ba ua => ?_)
        obtain ⟨xs6, hx6, lx6, r7⟩ := (r6.ext ea ba).app ua
        exact ⟨L, xs6, _, rfl, rfl, hx6, small1000 (by omega), 7, .inr rfl, rfl, r7⟩
    · rintro σ' H' ⟨n, hn, rfl, r⟩
      have sh := r.od.shows (K := K)
      refine ⟨_, rfl, _, rfl, v, d, rfl, sh.dp, sh.sh, sh.dep, sh.sz, (by show 2 ≤ sizeLine; decide), fun t nt => ⟨(by show 1 ≤ sizeLine; decide), fun l nl => ?_⟩⟩
      have s1 : Same H' (upd H' t (.tup [.str "day", .str d.shown])) := same_new nt
      have s2 : Same (upd H' t (.tup [.str "day", .str d.shown])) (upd (upd H' t (.tup [.str "day", .str d.shown])) l (.lst [.ref t])) := same_new nl
      obtain ⟨ts, g, len, all⟩ := (r.same (s1.trans s2)).li
      have hl := (upd_same (H := upd H' t (.tup [.str "day", .str d.shown])) (a := l) (o := .lst [.ref t]))
      have ht := s2 _ _ (upd_same (H := H') (a := t) (o := .tup [.str "day", .str d.shown]))
      have tb1 := tabs_same r.tb (s1.trans s2)
      have ex1 := r.ex.trans (ext_same (s1.trans s2))
      generalize upd (upd H' t (.tup [.str "day", .str d.shown])) l (.lst [.ref t]) = H8 at g all hl ht tb1 ex1 ⊢
      have n1000 : n ≤ 7 := by omega
      refine ⟨_, rfl, L, _, rfl, .inl (SqL.of g), l, _, _, rfl, rfl, hl, by omega, by rw [List.length_map, len]; omega, ?_, fun q nq => ?_⟩
      · rw [List.length_map, len]
        exact small_line (by show 1 * n ≤ 1000; omega)
      · have s3 : Same H8 (upd H8 q (.lst (List.replicate (((ts.map V.ref).length : Int)).toNat [V.ref t]).flatten)) := same_new nq
        have e1 : (((ts.map V.ref).length : Int)).toNat = n := by rw [List.length_map, len]; rfl
        have hq : (upd H8 q (.lst (List.replicate (((ts.map V.ref).length : Int)).toNat [V.ref t]).flatten)) q = some (.lst ((List.replicate n t).map V.ref)) := by rw [upd_same, e1, rep_one]
        generalize upd H8 q (.lst (List.replicate (((ts.map V.ref).length : Int)).toNat [V.ref t]).flatten) = H9 at s3 hq ⊢
        have p1 := dp_pairs (K := K) ts fun u hu => s3 _ _ (all u hu)
        have p2 := dp_pairs (K := K) (List.replicate n t) fun u hu => by
          rw [(List.mem_replicate.mp hu).2]
          exact s3 _ _ ht
        rw [len] at p1
        rw [List.length_replicate] at p2
        have shp : SeqAt.shaped (.list (List.replicate n (.tuple [.str "day", .str d.shown]))) = true := pairs_shaped (by decide +kernel) r.od.ok n
        refine ⟨_, _, .lst (SqL.of (s3 _ _ g)) p1, .lst (SqL.of hq) p2, shp, shp, ?_⟩
        rw [SeqAt.eqv_refl _ (SeqAt.canLay_of_shaped shp)]
        exact k H9 (ex1.trans (ext_same s3)) (tabs_same tb1 s3)
end
end My
namespace My
open PySem PySem.Spec PyProof.Rows L2
abbrev sBlk : Stmt := top 26
abbrev sDayOf : Stmt := top 29
section
variable {P : Program} {w : World} {K : PySem.W.Frag} {mg : Str → Option Value} {base : Heap} {C fWhole fBetw fDay fChk fDraw fPick fBlk : Addr} {dDraw dPick dBlk : FuncData}
def spBlock (K : PySem.W.Frag) : Sp := fun vs H Q _ => ∃ (a : Addr) (ls : List Int) (d : Int), vs = [.ref a, .int d] ∧ H a = some (.lst (ls.map V.int)) ∧ Good ls ∧ ∀ t H', Same H H' → H' t = some (.tup [.int (fstD ls d), .int (lastD ls d), .int (blkD ls d)]) → Q (.ref t) H'
theorem scBlk : FnScope ["_law_lengths_so", "_law_spot", "_law_total", "_law_turn", "_law_begin", "_law_number", "_law_length"] ["_law_lengths_so", "_law_spot"] (defScope sBlk) := ⟨rfl, rfl, rfl, by decide +kernel, rfl, by decide +kernel, by decide +kernel⟩
theorem mul_r {i j : Int} (h0 : 0 ≤ j) (h : j ≤ 1000) : CMul i j := by
  have e : (2 : Int) ^ 64 = 18446744073709551616 := by decide
  exact .inr ⟨by rw [e]; omega, by rw [e]; omega⟩
set_option maxHeartbeats 8000000 in
theorem ok_blk {f : Addr} {fd : FuncData} (F : Fun K "_law_block" "_law_block" sBlk f fd) (T : Txt K mg C fWhole fBetw fDay fChk) : FnOk P w K mg base CX0 1 f fd ["_law_lengths_so", "_law_spot"] (spBlock K) := by
  refine F.ok scBlk (fun vs H Q E h => ?_) (fun cdv A outer s H vs Q E hr h => ?_)
  · obtain ⟨a, ls, d, rfl, _⟩ := h
    rfl
  · obtain ⟨a, ls, d, rfl, ha, g, k⟩ := h
    have o := g.ok
    have T0 := o.sum
    have T1 := g.sum
    have N0 := g.ne
    have N1 := g.few
    refine ⟨_, pss_cons (ps_set (i := 2) scBlk.nd rfl (Or.inl rfl) (pe_callB (cr_sum rfl) (by rfl) T.zSum (by decide +kernel) (pa_cons (pv 0) pa_nil)))
      (pss_cons (ps_set (i := 3) scBlk.nd rfl (Or.inl rfl) (pe_op op_fdiv (pe_callTy call_int1 (by rfl) T.zInt (by decide +kernel) (pa_cons (pv 1) pa_nil)) (pv 2)))
      (pss_cons (ps_par (i := 4) (j := 5) (by rfl) scBlk.nd rfl rfl (by decide) rfl rfl (pa_cons (pe_op op_mul (pv 3) (pv 2)) (pa_cons (pe_op op_mul (pv 3) (pe_callB call_len_seq (by rfl) T.zLen PySem.boot_len (pa_cons (pv 0) pa_nil))) pa_nil)) (by rfl))
      (pss_cons (ps_for PassesOwn.never rfl (pi_list (pv 0)) (pg_name (i := 6) scBlk.nd rfl (.inl rfl))
        (pss_cons (ps_if (pt_cmpR op_gt (pe_op op_add (pv 4) (pv 6)) (pv 1) (nomark _)) (pss_one (ps_ret (pe_tup (pa_cons (pv 4) (pa_cons (pe_op op_sub (pe_op op_add (pv 4) (pv 6)) pe_int) (pa_cons (pv 5) pa_nil)))))) pss_nil)
        (pss_one (ps_par (i := 4) (j := 5) (by rfl) scBlk.nd rfl rfl (by decide) rfl rfl (pa_cons (pe_op op_add (pv 4) (pv 6)) (pa_cons (pe_op op_add (pv 5) pe_int) pa_nil)) (by rfl)))))
      (pss_one (ps_ret pe_non))))), ?_⟩
    refine ⟨_, rfl, a, ls, rfl, SqL.of ha, ?_⟩
    refine ⟨_, rfl, .inl ⟨_, rfl, _, rfl, _, _, rfl, rfl, ⟨T0, by omega⟩, ?_⟩⟩
    refine ⟨_, rfl, _, rfl, _, _, rfl, rfl, mul_r (by omega) (by omega), _, rfl, _, rfl, a, _, rfl, .inl (SqL.of ha), _, _, rfl, rfl, mul_r (by omega) (by rw [List.length_map]; omega), _, _, rfl, ?_⟩
    rw [List.length_map]
    refine ⟨_, rfl, a, rfl, ⟨_, SqL.of ha⟩, for_list (a := a) (xs := ls.map V.int) (fun i σ H' => H' = H ∧ i ≤ ixD ls d ∧ ∃ v6 : Option V, σ = [some (.ref a), some (.int d), some (.int ls.sum), some (.int (d / ls.sum)), some (.int (d / ls.sum * ls.sum + (ls.take i).sum)), some (.int (d / ls.sum * ls.length + i)), v6])
      ⟨rfl, Nat.zero_le _, none, ?_⟩ (fun i σ H' _ ⟨e, _⟩ => by rw [e]; exact SqL.of ha) ?_ ?_⟩
    · simp
      rfl
    · rintro i x σ H' hx ⟨rfl, hi, v6, rfl⟩
      rw [List.getElem?_map] at hx
      obtain ⟨l, hl, rfl⟩ := Option.map_eq_some_iff.mp hx
      have st := spot_step o hi hl
      have dv : d = d / ls.sum * ls.sum + d % ls.sum := by have := rest_turns ls d; omega
      refine ⟨_, rfl, _, rfl, _, _, rfl, rfl, _, rfl, _, _, rfl, rfl, _, rfl, ?_⟩
      by_cases c : l ≤ d % ls.sum - (ls.take i).sum
      · have hlt := st.mp c
        rw [decide_eq_false (by omega)]
        refine iteF ⟨_, rfl, _, rfl, _, _, rfl, rfl, _, rfl, _, _, rfl, rfl, _, _, rfl, rfl, hlt, some (.int l), ?_⟩
        rw [take_next hl]
        have e1 : d / ls.sum * ls.sum + ((ls.take i).sum + l) = d / ls.sum * ls.sum + (ls.take i).sum + l := by omega
        have e2 : d / ls.sum * (ls.length : Int) + ((i + 1 : Nat) : Int) = d / ls.sum * ls.length + i + 1 := by omega
        rw [e1, e2]
        rfl
      · have hix : i = ixD ls d := by
          have : ¬ i < ixD ls d := fun z => c (st.mpr z)
          omega
        have hle : lenD ls d = l := by
          have := (ix_lt o d).2
          rw [← hix, hl] at this
          exact (Option.some.inj this).symm
        have hf : fstD ls d = d / ls.sum * ls.sum + (ls.take i).sum := by
          show d - plcD ls d = _
          unfold plcD
          rw [← hix]
          omega
        rw [decide_eq_true (by omega)]
        refine iteT ⟨_, rfl, _, rfl, _, rfl, _, _, rfl, rfl, _, _, rfl, rfl, _, rfl, (by show 3 ≤ sizeLine; decide), fun t nt => k t _ (same_new nt) ?_⟩
        rw [upd_same]
        have eb : blkD ls d = d / ls.sum * ls.length + i := by show d / ls.sum * ls.length + ((ixD ls d : Nat) : Int) = _; rw [hix]
        have el : lastD ls d = d / ls.sum * ls.sum + (ls.take i).sum + l - 1 := by unfold lastD; rw [hf, hle]
        rw [hf, eb, el]
    · rintro σ H' ⟨rfl, hi, v6, rfl⟩
      have := (ix_lt o d).1
      rw [List.length_map] at hi
      omega
theorem ptup_but {H H' : Hp} {p l q : Addr} {N : Int} {xs : List V} (pen : PenAt H p l N) (s : SameBut p H H') (hq : H q = some (.tup xs)) : H' q = some (.tup xs) :=
  s _ _ (let ⟨_, e⟩ := pen.lst; ne_of hq e (by intro z; cases z)) hq
def spDayOf : Sp := fun vs H Q _ => ∃ (p l a : Addr) (N : Int) (ls : List Int), vs = [.ref p, .ref a] ∧ PenAt H p l N ∧ N ≤ 50000 ∧ H a = some (.lst (ls.map V.int)) ∧ a ≠ p ∧ Good ls ∧ ∀ d H', dayB d = true → SameBut p H H' → PenAt H' p l (N + 10) → Q (.int d) H'
theorem scDayOf : FnScope ["_law_pen_here", "_law_lengths_so", "_law_total", "_law_near", "_law_far", "_law_edge"] ["_law_pen_here", "_law_lengths_so"] (defScope sDayOf) := ⟨rfl, rfl, rfl, by decide +kernel, rfl, by decide +kernel, by decide +kernel⟩
theorem pen_new {H : Hp} {p l : Addr} {N : Int} (pen : PenAt H p l N) {q : Addr} (hq : H q = none) : q ≠ p := let ⟨_, e⟩ := pen.lst; Ne.symm (ne_of_none e hq)
theorem len60 {ls : List Int} (g : Good ls) (d : Int) : 1 ≤ lenD ls d ∧ lenD ls d ≤ 60 := g.pos _ (List.mem_of_getElem? (ix_lt g.ok d).2)
theorem dayB_of {d : Int} (h1 : 1 - 10 ^ 60 ≤ d) (h2 : d ≤ 10 ^ 60 - 1) : dayB d = true := by
  unfold dayB
  rw [decide_eq_true h1, decide_eq_true h2]
  rfl
set_option maxHeartbeats 16000000 in
theorem ok_dayOf {f : Addr} {fd : FuncData} (F : Fun K "_law_day" "_law_day" sDayOf f fd) (T : Txt K mg C fWhole fBetw fDay fChk) (D : Df P w K mg base "_law_draw" 1 fDraw dDraw ["_law_pen_here", "_law_many"] spDraw)
    (G : Df P w K mg base "_law_pick" 2 fPick dPick ["_law_pen_here", "_law_some"] spPick) (B : Df P w K mg base "_law_block" 1 fBlk dBlk ["_law_lengths_so", "_law_spot"] (spBlock K)) : FnOk P w K mg base CX0 3 f fd ["_law_pen_here", "_law_lengths_so"] spDayOf := by
  refine F.ok scDayOf (fun vs H Q E h => ?_) (fun cdv A outer s H vs Q E hr h => ?_)
  · obtain ⟨p, l, a, N, ls, rfl, _⟩ := h
    rfl
  · obtain ⟨p, l, a, N, ls, rfl, pen, hN, ha, nap, g, k⟩ := h
    have o := g.ok
    have T0 := o.sum
    have T1 := g.sum
    have hr1 : Room 1 _ := hr.mono (by decide)
    refine ⟨_, pss_cons (ps_set (i := 2) scDayOf.nd rfl (Or.inl rfl) (pe_callB (cr_sum rfl) (by rfl) T.zSum (by decide +kernel) (pa_cons (pv 1) pa_nil)))
      (pss_cons (ps_set (i := 3) scDayOf.nd rfl (Or.inl rfl) (pe_op op_sub (pe_call D.F hr1 rfl D.g D.kp D.b .nil pass0 (pa_cons (pv 0) (pa_cons (pe_op op_mul pe_int (pv 2)) pa_nil))) (pe_op op_mul pe_int (pv 2))))
      (pss_cons (ps_set (i := 4) scDayOf.nd rfl (Or.inl rfl) (pe_op op_mul (pe_call G.F hr rfl G.g G.kp G.b .nil pass0 (pa_cons (pv 0) (pa_cons (pe_lst (pa_cons pe_int (pa_cons (pe_un un_neg pe_int) pa_nil))) pa_nil)))
        (pe_op op_sub (pe_op op_sub (pe_op op_pow pe_int pe_int) pe_int) (pe_call D.F hr1 rfl D.g D.kp D.b .nil pass0 (pa_cons (pv 0) (pa_cons pe_int pa_nil))))))
      (pss_cons (ps_set (i := 5) scDayOf.nd rfl (Or.inl rfl) (pe_op op_add (pe_ix ix_tup (pe_call B.F hr1 rfl B.g B.kp B.b .nil pass0 (pa_cons (pv 1) (pa_cons (pv 3) pa_nil))) (pe_call D.F hr1 rfl D.g D.kp D.b .nil pass0 (pa_cons (pv 0) (pa_cons pe_int pa_nil))) (fun _ _ => rfl))
        (pe_op op_mul (pv 2) (pe_call G.F hr rfl G.g G.kp G.b .nil pass0 (pa_cons (pv 0) (pa_cons (pe_lst (pa_cons pe_int (pa_cons pe_int (pa_cons (pe_un un_neg pe_int) (pa_cons (pe_op op_pow pe_int pe_int) pa_nil))))) pa_nil))))))
      (pss_one (ps_ret (pe_call G.F hr rfl G.g G.kp G.b .nil pass0 (pa_cons (pv 0) (pa_cons (pe_lst (pa_cons (pv 3) (pa_cons (pv 3) (pa_cons (pv 5) (pa_cons (pv 5) (pa_cons (pv 4) (pa_cons (pe_call D.F hr1 rfl D.g D.kp D.b .nil pass0 (pa_cons (pv 0) (pa_cons (pe_op op_pow pe_int pe_int) pa_nil))) pa_nil))))))) pa_nil)))))))), ?_⟩
    refine ⟨_, rfl, a, ls, rfl, SqL.of ha, ?_⟩
    refine ⟨_, rfl, _, rfl, _, _, rfl, rfl, small_mul (by decide) (by decide), p, l, N, 4 * ls.sum, rfl, pen, by omega, log_small (by omega) (by omega), by omega, fun r1 H1 q0 q1 sb1 pen1 => ?_⟩
    refine ⟨_, rfl, _, _, rfl, rfl, small_mul (by decide) (by decide), _, _, rfl, rfl, ?_⟩
    -- far
    refine ⟨_, rfl, _, rfl, (by show 2 ≤ sizeLine; decide), fun x nx => ?_⟩
    have pen1' := pen1.same (same_new (o := .lst [.int 1, .int (-1)]) nx)
    refine ⟨p, l, x, N + 1, [.int 1, .int (-1)], rfl, pen1', by omega, upd_same, pen_new pen1 nx, by decide, by decide, fun i v H2 hv sb2 pen2 => ?_⟩
    have sb12 : SameBut p H H2 := sb1.trans ((Same.but (same_new nx)).trans sb2)
    clear sb2 pen1'
    obtain ⟨sg, hsg, rfl⟩ : ∃ sg : Int, (sg = 1 ∨ sg = -1) ∧ v = .int sg := by
      have := List.mem_of_getElem? hv
      simp only [List.mem_cons, List.not_mem_nil, or_false] at this
      rcases this with rfl | rfl
      · exact ⟨1, .inl rfl, rfl⟩
      · exact ⟨-1, .inr rfl, rfl⟩
    have e60 : (10 : Int) ^ 60 = 1000000000000000000000000000000000000000000000000000000000000 := by decide
    have e60' : (10 : Int) ^ (60 : Int).toNat = 1000000000000000000000000000000000000000000000000000000000000 := by decide
    have e40' : (10 : Int) ^ (40 : Int).toNat = 10000000000000000000000000000000000000000 := by decide
    refine ⟨_, _, rfl, rfl, ⟨by decide, by decide, by decide⟩, _, _, rfl, rfl, _, rfl, p, l, N + 2, 200, rfl, pen2.le (by omega), by decide, log_small (by decide) (by decide), by omega, fun r2 H3 w0 w1 sb3 pen3 => ⟨_, _, rfl, rfl, _, _, rfl, rfl, small_mul (by omega) (by omega), ?_⟩⟩
    have sb13 := sb12.trans sb3
    clear sb12 sb3 pen2
    obtain ⟨far, hfar, f0, f1⟩ : ∃ far : Int, sg * (10 ^ (60 : Int).toNat - 1 - r2) = far ∧ 1 - 10 ^ 60 ≤ far ∧ far ≤ 10 ^ 60 - 1 := by
      rw [e60', e60]
      rcases hsg with rfl | rfl
      · exact ⟨_, rfl, by omega, by omega⟩
      · exact ⟨_, rfl, by omega, by omega⟩
    dsimp only
    rw [hfar]
    clear hfar
    have ha3 := sb13 _ _ nap ha
    -- near an edge
    refine ⟨_, rfl, _, rfl, a, ls, r1 - 2 * ls.sum, rfl, ha3, g, fun tb H4 s4 hb => ?_⟩
    have pen4 := pen3.same s4
    refine ⟨_, rfl, p, l, N + 2 + 1, 2, rfl, pen4, by decide, log_small (by decide) (by decide), by omega, fun r3 H5 z0 z1 sb5 pen5 => ?_⟩
    have hb5 := ptup_but pen4 sb5 hb
    have sb15 : SameBut p H H5 := sb13.trans ((Same.but s4).trans sb5)
    clear sb13 s4 sb5 pen4 hb pen3
    obtain ⟨d1, d2⟩ := day_range o (r1 - 2 * ls.sum)
    have d3 := len60 g (r1 - 2 * ls.sum)
    have d4 : lastD ls (r1 - 2 * ls.sum) = fstD ls (r1 - 2 * ls.sum) + lenD ls (r1 - 2 * ls.sum) - 1 := rfl
    obtain ⟨e, e0, e1, hat⟩ : ∃ e : Int, -1000 ≤ e ∧ e ≤ 1000 ∧ atI [V.int (fstD ls (r1 - 2 * ls.sum)), V.int (lastD ls (r1 - 2 * ls.sum)), V.int (blkD ls (r1 - 2 * ls.sum))] r3 = some (V.int e) := by
      have hr3 : r3 = 0 ∨ r3 = 1 := by omega
      rcases hr3 with rfl | rfl
      · exact ⟨_, by omega, by omega, atI_nat (j := 0) rfl⟩
      · exact ⟨_, by omega, by omega, atI_nat (j := 1) rfl⟩
    refine ⟨tb, _, _, _, rfl, rfl, SqT.of hb5, hat, ?_⟩
    refine ⟨_, rfl, _, rfl, _, rfl, _, _, rfl, rfl, ⟨by decide, by decide, by decide⟩, (by show 4 ≤ sizeLine; decide), fun q nq => ?_⟩
    have e20' : (10 : Int) ^ (20 : Int).toNat = 100000000000000000000 := by decide
    have pen5' := pen5.same (same_new (o := .lst [.int 0, .int 1, .int (-1), .int (10 ^ (20 : Int).toNat)]) nq)
    refine ⟨p, l, q, N + 2 + 1 + 1, _, rfl, pen5', by omega, upd_same, pen_new pen5 nq, (by show 0 < 4; decide), (by show 4 ≤ 1000; decide), fun i v H6 hv sb6 pen6 => ?_⟩
    have sb16 : SameBut p H H6 := sb15.trans ((Same.but (same_new nq)).trans sb6)
    clear sb15 sb6 pen5' pen5 hb5
    obtain ⟨u, rfl, u0, u1⟩ : ∃ u : Int, v = .int u ∧ -1 ≤ u ∧ u ≤ 100000000000000000000 := by
      have hv := List.mem_of_getElem? hv
      simp only [List.mem_cons, List.not_mem_nil, or_false] at hv
      rcases hv with rfl | rfl | rfl | rfl
      · exact ⟨_, rfl, by decide, by decide⟩
      · exact ⟨_, rfl, by decide, by decide⟩
      · exact ⟨_, rfl, by decide, by decide⟩
      · exact ⟨_, rfl, by decide, by decide⟩
    have m1 : ls.sum * u ≤ 60 * 100000000000000000000 := Int.le_trans (Int.mul_le_mul_of_nonneg_left u1 (by omega)) (by omega)
    have m0 : -60 ≤ ls.sum * u := by
      have : ls.sum * (-1) ≤ ls.sum * u := Int.mul_le_mul_of_nonneg_left u0 (by omega)
      omega
    refine ⟨_, _, rfl, rfl, small_mul (by omega) (by omega), _, _, rfl, rfl, ?_⟩
    -- one of them
    refine ⟨_, rfl, _, rfl, _, rfl, _, rfl, _, rfl, _, rfl, ?_⟩
    refine ⟨_, rfl, _, _, rfl, rfl, ⟨by decide, by decide, by decide⟩, p, l, N + 2 + 1 + 1 + 1, _, rfl, pen6.le (by omega), by rw [e40']; decide, by rw [e40']; decide, by omega, fun r4 H7 y0 y1 sb7 pen7 => ⟨(by show 6 ≤ sizeLine; decide), fun q2 nq2 => ?_⟩⟩
    rw [e40'] at y1
    have pen7' := pen7.same (same_new (o := .lst [.int (r1 - 2 * ls.sum), .int (r1 - 2 * ls.sum), .int (e + ls.sum * u), .int (e + ls.sum * u), .int far, .int r4]) nq2)
    refine ⟨p, l, q2, N + 2 + 1 + 1 + 1 + 1, _, rfl, pen7', by omega, upd_same, pen_new pen7 nq2, (by show 0 < 6; decide), (by show 6 ≤ 1000; decide), fun i v H8 hv sb8 pen8 => ?_⟩
    have sb18 : SameBut p H H8 := sb16.trans (sb7.trans ((Same.but (same_new nq2)).trans sb8))
    have hv := List.mem_of_getElem? hv
    simp only [List.mem_cons, List.not_mem_nil, or_false] at hv
    have pen8' := pen8.le (M := N + 10) (by omega)
    have near0 : 1 - 10 ^ 60 ≤ r1 - 2 * ls.sum ∧ r1 - 2 * ls.sum ≤ 10 ^ 60 - 1 := by rw [e60]; omega
    have edge0 : 1 - 10 ^ 60 ≤ e + ls.sum * u ∧ e + ls.sum * u ≤ 10 ^ 60 - 1 := by rw [e60]; omega
    have last0 : 1 - 10 ^ 60 ≤ r4 ∧ r4 ≤ 10 ^ 60 - 1 := by rw [e60]; omega
    rcases hv with rfl | rfl | rfl | rfl | rfl | rfl
    · exact k _ H8 (dayB_of near0.1 near0.2) sb18 pen8'
    · exact k _ H8 (dayB_of near0.1 near0.2) sb18 pen8'
    · exact k _ H8 (dayB_of edge0.1 edge0.2) sb18 pen8'
    · exact k _ H8 (dayB_of edge0.1 edge0.2) sb18 pen8'
    · exact k _ H8 (dayB_of f0 f1) sb18 pen8'
    · exact k _ H8 (dayB_of last0.1 last0.2) sb18 pen8'
end
end My
namespace My
open PySem PySem.Spec PyProof.Rows L2
abbrev sRight : Stmt := top 30
def gD {α : Type} : List α → List α → List α
  | [a], [d] => [a, d]
  | _, _ => []
theorem rel_D {vs : List V} {us : List Value} {zs : List V} {ws : List Value} (r1 : Vals vs us) (r2 : Vals zs ws) : Vals (gD vs zs) (gD us ws) := by
  cases r1 with
  | nil => exact .nil
  | cons h1 t1 =>
    cases t1 with
    | cons _ _ => exact .nil
    | nil =>
      cases r2 with
      | nil => exact .nil
      | cons h2 t2 =>
        cases t2 with
        | nil => exact .cons h1 (.cons h2 .nil)
        | cons _ _ => exact .nil
/-- one positional argument, one by the name k -/
theorem kb_D {K : PySem.W.Frag} {x qual k : Str} {st : Stmt} {f : Addr} {fd : FuncData} (F : Fun K x qual st f fd) (h : ∀ (kV doc pm : Value) (an : Option Addr) (cdv ct a d : Value), bindArgs (PySem.W.fnOf x qual (defArgs st) (defBody st) (defScope st) .none kV doc pm an cdv ct) ⟨[a], [(k, d)]⟩ = pure [(("self" : Str), a), (k, d)]) :
    KBinds K fd ["self", k] [k] gD gD := by
  obtain ⟨oc, od, kV, doc, pm, an, cdv, ct, osl, rfl, lk, hcd⟩ := F.ex
  refine ⟨fun s us ws _ hl => ?_, rel_D⟩
  match us, ws, hl with
  | [a], [d], _ => exact .of_eq (h kV doc pm an cdv ct a d)
  | [], _, hl => exact absurd hl (by simp [gD])
  | [_], [], hl => exact absurd hl (by simp [gD])
  | [_], _ :: _ :: _, hl => exact absurd hl (by simp [gD])
  | _ :: _ :: _, _, hl => exact absurd hl (by simp [gD])
theorem list_shown {xs : List Int} (h : ∀ i ∈ xs, i.natAbs < 10 ^ 70) (n : xs.length ≤ 1000) : (PyData.shown (.list (xs.map PyData.int))).length ≤ 94000 := by
  have e : PyData.shown (.list (xs.map PyData.int)) = listText (xs.map fun i => PyData.shown (.int i)) := by simp only [PyData.shown, shownAll_map]
  rw [e]
  unfold listText
  have hf := from_le (B := 71) (xs.map fun i => PyData.shown (.int i)) 0 "[" fun t ht => by
    obtain ⟨i, hi, rfl⟩ := List.mem_map.mp ht
    exact int_shown (h i hi)
  rw [List.length_map] at hf
  rw [strLen_append]
  have k1 : (("[" : Str)).length = 1 := by decide
  have k2 : (("]" : Str)).length = 1 := by decide
  rw [k1] at hf
  omega
theorem ints_show {K : PySem.W.Frag} {H : Hp} {p : Addr} {xs : List Int} (hp : H p = some (.lst (xs.map V.int))) (h : ∀ i ∈ xs, i.natAbs < 10 ^ 70) (n : xs.length ≤ 1000) : Shows K H (.ref p) (.list (xs.map PyData.int)) := by
  refine ⟨.inl ⟨.lst (SqL.of hp) (dp_ints xs), ?_⟩, ?_, ?_, Nat.le_trans (list_shown h n) (by decide)⟩
  · simp only [PyData.hasDict, noDict_ints]
  · simp only [PyData.showable, showAll_ints xs h]
  · have d1 := PySem.W.depthAll_ints xs
    simp only [PyData.depth]
    omega
theorem abs70 {i : Int} (h0 : -(10 ^ 65) ≤ i) (h1 : i ≤ 10 ^ 65) : i.natAbs < 10 ^ 70 := by
  have e1 : (10 : Int) ^ 65 = 100000000000000000000000000000000000000000000000000000000000000000 := by decide
  have e2 : (10 : Nat) ^ 70 = 10000000000000000000000000000000000000000000000000000000000000000000000 := by decide
  rw [e1] at h0 h1
  rw [e2]
  omega
theorem turn_rng {ls : List Int} (g : Good ls) {d : Int} (hd : dayB d = true) : -(10 ^ 60) ≤ d / ls.sum ∧ d / ls.sum ≤ 10 ^ 60 := by
  unfold dayB at hd
  obtain ⟨h1, h2⟩ := Bool.and_eq_true_iff.mp hd
  have h1 := of_decide_eq_true h1
  have h2 := of_decide_eq_true h2
  have T0 := g.ok.sum
  have m1 : (10 : Int) ^ 60 * 1 ≤ 10 ^ 60 * ls.sum := Int.mul_le_mul_of_nonneg_left (by omega) (by decide)
  have m2 : -(10 : Int) ^ 60 * ls.sum = -(10 ^ 60 * ls.sum) := Int.neg_mul ..
  refine ⟨Int.le_ediv_of_mul_le T0 ?_, Int.ediv_le_of_le_mul T0 ?_⟩
  · rw [m2]; omega
  · omega
theorem blk_rng {ls : List Int} (g : Good ls) {d : Int} (hd : dayB d = true) : -(12 * 10 ^ 60) ≤ blkD ls d ∧ blkD ls d ≤ 12 * 10 ^ 60 + 12 := by
  obtain ⟨t1, t2⟩ := turn_rng g hd
  have N0 := g.ne
  have N1 := g.few
  have x := (ix_lt g.ok d).1
  have l1 : (ls.length : Int) ≤ 12 := by omega
  have a1 : d / ls.sum * (ls.length : Int) ≤ 10 ^ 60 * ls.length := Int.mul_le_mul_of_nonneg_right t2 (by omega)
  have a2 : (10 : Int) ^ 60 * ls.length ≤ 10 ^ 60 * 12 := Int.mul_le_mul_of_nonneg_left l1 (by decide)
  have b1 : -(10 ^ 60) * (ls.length : Int) ≤ d / ls.sum * ls.length := Int.mul_le_mul_of_nonneg_right t1 (by omega)
  have b2 : -(10 : Int) ^ 60 * ls.length = -(10 ^ 60 * ls.length) := Int.neg_mul ..
  show -(12 * 10 ^ 60) ≤ d / ls.sum * ls.length + ((ixD ls d : Nat) : Int) ∧ d / ls.sum * ls.length + ((ixD ls d : Nat) : Int) ≤ 12 * 10 ^ 60 + 12
  omega
/-- what the methods tell of a day -/
def toldL (ls : List Int) (d : Int) : List Int := [blkD ls d, fstD ls d, lastD ls d, plcD ls d, lenD ls d]
theorem told_small {ls : List Int} (g : Good ls) {d : Int} (hd : dayB d = true) : ∀ i ∈ toldL ls d, i.natAbs < 10 ^ 70 := fun i hi => by
  obtain ⟨b1, b2⟩ := blk_rng g hd
  obtain ⟨r1, r2⟩ := day_range g.ok d
  have l1 := len60 g d
  unfold dayB at hd
  obtain ⟨h1, h2⟩ := Bool.and_eq_true_iff.mp hd
  have h1 := of_decide_eq_true h1
  have h2 := of_decide_eq_true h2
  have e0 : (10 : Int) ^ 60 = 1000000000000000000000000000000000000000000000000000000000000 := by decide
  have e1 : (10 : Int) ^ 65 = 100000000000000000000000000000000000000000000000000000000000000000 := by decide
  have p1 : plcD ls d = d - fstD ls d := by show plcD ls d = d - (d - plcD ls d); omega
  have p2 : lastD ls d = fstD ls d + lenD ls d - 1 := rfl
  rw [e0] at h1 h2 b1 b2
  refine abs70 ?_ ?_ <;> rw [e1] <;> (simp only [toldL, List.mem_cons, List.not_mem_nil, or_false] at hi; rcases hi with rfl | rfl | rfl | rfl | rfl <;> omega)
theorem two_small {ls : List Int} (g : Good ls) {d : Int} (hd : dayB d = true) : ∀ i ∈ [d % ls.sum, d / ls.sum], i.natAbs < 10 ^ 70 := fun i hi => by
  obtain ⟨b1, b2⟩ := turn_rng g hd
  have T0 := g.ok.sum
  have T1 := g.sum
  have r0 := Int.emod_nonneg d (show ls.sum ≠ 0 by omega)
  have r1 := Int.emod_lt_of_pos d T0
  have e0 : (10 : Int) ^ 60 = 1000000000000000000000000000000000000000000000000000000000000 := by decide
  have e1 : (10 : Int) ^ 65 = 100000000000000000000000000000000000000000000000000000000000000000 := by decide
  rw [e0] at b1 b2
  refine abs70 ?_ ?_ <;> rw [e1] <;> (simp only [List.mem_cons, List.not_mem_nil, or_false] at hi; rcases hi with rfl | rfl <;> omega)
section
variable {P : Program} {w : World} {K : PySem.W.Frag} {mg : Str → Option Value} {base : Heap} {C fWhole fBetw fDay fChk fDraw fPick fBlk : Addr} {dDraw dPick dBlk : FuncData}
structure GoodM (P : Program) (w : World) (K : PySem.W.Frag) (mg : Str → Option Value) (base : Heap) (C : Addr) (m : Str) (g : List Int → Int → Int) (f : Addr) (fd : FuncData) : Prop where
  F : FnOk P w K mg base CX0 4 f fd ["self", "day"] (spOfDay C g)
  b : Binds K fd ["self", "day"] []
  kb : KBinds K fd ["self", "day"] ["day"] gD gD
  m : Meth K C m f
structure GoodO (P : Program) (w : World) (K : PySem.W.Frag) (mg : Str → Option Value) (base : Heap) (C : Addr) (op : Operator) (g : List Int → Int → Int) (f0 f : Addr) (fd : FuncData) : Prop where
  F : FnOk P w K mg base CX0 4 f fd ["self", "other"] (spOfDay C g)
  b : Binds K fd ["self", "other"] []
  r : ROp K C op f0 f
theorem rd_meth {σ : L2.St} {H : Hp} {Q : VK} {p : Addr} {ls : List Int} {d : Int} {m : Str} {g : List Int → Int → Int} (cy : CycAt C H p ls) (hd : dayB d = true) (h0 : σ[0]? = some (some (.ref p))) (h1 : σ[2]? = some (some (.int d))) (n1 : ¬ m = "_total") (n2 : ¬ m = "_lengths") (k : ∀ H', Same H H' → Q (.int (g ls d)) H') :
    tMeth C m (spOfDay C g) [] E0 (tVar 0) (tCons (tVar 2) tNil) σ H Q := by
  obtain ⟨dx, tt, g1, g2⟩ := cy.ob
  exact ⟨_, h0, p, dx, _, rfl, g1, flds_no _ _ n1 n2, _, h1, p, ls, d, rfl, cy, hd, k⟩
theorem rd_methK {σ : L2.St} {H : Hp} {Q : VK} {p : Addr} {ls : List Int} {d : Int} {m : Str} {g : List Int → Int → Int} (cy : CycAt C H p ls) (hd : dayB d = true) (h0 : σ[0]? = some (some (.ref p))) (h1 : σ[2]? = some (some (.int d))) (n1 : ¬ m = "_total") (n2 : ¬ m = "_lengths") (k : ∀ H', Same H H' → Q (.int (g ls d)) H') :
    tMethK C m (spOfDay C g) gD E0 (tVar 0) (tCons (tVar 2) tNil) σ H Q := by
  obtain ⟨dx, tt, g1, g2⟩ := cy.ob
  exact ⟨_, h0, p, dx, _, rfl, g1, flds_no _ _ n1 n2, _, h1, p, ls, d, rfl, cy, hd, k⟩
def spRight (C : Addr) : Sp := fun vs H Q _ => ∃ (p a : Addr) (ls : List Int) (d : Int), vs = [.ref p, .ref a, .int d] ∧ CycAt C H p ls ∧ H a = some (.lst (ls.map V.int)) ∧ dayB d = true ∧ ∀ H', Same H H' → Q (.bl true) H'
theorem scRight : FnScope ["_law_made", "_law_lengths_so", "_law_spot", "_law_first", "_law_last", "_law_number", "_law_told", "_law_total"] ["_law_made", "_law_lengths_so", "_law_spot"] (defScope sRight) := ⟨rfl, rfl, rfl, by decide +kernel, rfl, by decide +kernel, by decide +kernel⟩
variable {f0 f1 f2 f3 f4 f5 f5' f6 f6' : Addr} {d0 d1 d2 d3 d4 d5 d6 : FuncData}
set_option maxHeartbeats 4000000 in
theorem ok_right {f : Addr} {fd : FuncData} (F : Fun K "_law_right" "_law_right" sRight f fd) (T : Txt K mg C fWhole fBetw fDay fChk) (zRepr : mg "repr" = none) (B : Df P w K mg base "_law_block" 1 fBlk dBlk ["_law_lengths_so", "_law_spot"] (spBlock K))
    (M0 : GoodM P w K mg base C "block" blkD f0 d0) (M1 : GoodM P w K mg base C "first" fstD f1 d1) (M2 : GoodM P w K mg base C "last" lastD f2 d2) (M3 : GoodM P w K mg base C "place" plcD f3 d3) (M4 : GoodM P w K mg base C "length" lenD f4 d4)
    (O5 : GoodO P w K mg base C .Mod remD f5' f5 d5) (O6 : GoodO P w K mg base C .FloorDiv turnD f6' f6 d6) : FnG P w K mg base CX0 5 f fd ["_law_made", "_law_lengths_so", "_law_spot"] (spRight C) := by
  refine okG F scRight (fun vs H Q E h => ?_) (fun cdv A outer s H vs Q E gd hr h => ?_)
  · obtain ⟨p, a, ls, d, rfl, _⟩ := h
    rfl
  · obtain ⟨p, a, ls, d, rfl, cy, ha, hd, k⟩ := h
    have hu70 : (A.deeper (envOfC "_law_right" (defScope sRight) s.heap.objs.size f cdv)).units + 70 < cLine := by have := hr.un; omega
    have hr1 : Room 1 _ := hr.mono (by decide)
    refine ⟨_, pss_cons (ps_asg (pe_call B.F hr1 rfl B.g B.kp B.b .nil pass0 (pa_cons (pv 1) (pa_cons (pv 2) pa_nil))) (pg_tup rfl (pgs_cons (pg_name (i := 3) scRight.nd rfl (.inl rfl)) (pgs_cons (pg_name (i := 4) scRight.nd rfl (.inl rfl)) (pgs_cons (pg_name (i := 5) scRight.nd rfl (.inl rfl)) pgs_nil)))))
      (pss_cons (ps_set (i := 6) scRight.nd rfl (Or.inl rfl) (pe_lst (pa_cons (pe_meth (pv 0) T.cl M0.m M0.F hr M0.b .nil pass0 (pa_cons (pv 2) pa_nil)) (pa_cons (pe_meth (pv 0) T.cl M1.m M1.F hr M1.b .nil pass0 (pa_cons (pv 2) pa_nil)) (pa_cons (pe_meth (pv 0) T.cl M2.m M2.F hr M2.b .nil pass0 (pa_cons (pv 2) pa_nil))
        (pa_cons (pe_meth (pv 0) T.cl M3.m M3.F hr M3.b .nil pass0 (pa_cons (pv 2) pa_nil)) (pa_cons (pe_meth (pv 0) T.cl M4.m M4.F hr M4.b .nil pass0 (pa_cons (pv 2) pa_nil)) pa_nil)))))))
      (pss_cons (ps_if (pt_cmpR op_ne (pe_callB (cr_reprO gd hu70) (by rfl) zRepr (by decide +kernel) (pa_cons (pv 6) pa_nil)) (pe_callB (cr_reprO gd hu70) (by rfl) zRepr (by decide +kernel) (pa_cons (pe_lst (pa_cons (pv 5) (pa_cons (pv 3) (pa_cons (pv 4) (pa_cons (pe_op op_sub (pv 2) (pv 3)) (pa_cons (pe_op op_add (pe_op op_sub (pv 4) (pv 3)) pe_int) pa_nil)))))) pa_nil)) (nomark _)) pss_never pss_nil)
      (pss_cons (ps_if (pt_cmpR (op_neD hr.units) (pe_lst (pa_cons (pe_methK (pv 0) T.cl M0.m M0.F hr M0.kb pass0 (pk_cons (pv 2) pk_nil)) (pa_cons (pe_methK (pv 0) T.cl M1.m M1.F hr M1.kb pass0 (pk_cons (pv 2) pk_nil)) (pa_cons (pe_methK (pv 0) T.cl M2.m M2.F hr M2.kb pass0 (pk_cons (pv 2) pk_nil)) pa_nil))))
          (pe_slice sl_list (pv 6) po_none (po_some pe_int)) (nomark _)) pss_never pss_nil)
      (pss_cons (ps_if (pt_cmpR (op_neD hr.units) (pe_lst (pa_cons (pe_methK (pv 0) T.cl M3.m M3.F hr M3.kb pass0 (pk_cons (pv 2) pk_nil)) (pa_cons (pe_methK (pv 0) T.cl M4.m M4.F hr M4.kb pass0 (pk_cons (pv 2) pk_nil)) pa_nil)))
          (pe_slice sl_list (pv 6) (po_some pe_int) po_none) (nomark _)) pss_never pss_nil)
      (pss_cons (ps_set (i := 7) scRight.nd rfl (Or.inl rfl) (pe_callB (cr_sum rfl) (by rfl) T.zSum (by decide +kernel) (pa_cons (pv 1) pa_nil)))
      (pss_one (ps_ret (pe_cmpR op_eq (pe_callB (cr_reprO gd hu70) (by rfl) zRepr (by decide +kernel) (pa_cons (pe_lst (pa_cons (pe_op (op_rmod O5.r (O5.F.raw O5.b .nil) hr pass0) (pv 2) (pv 0)) (pa_cons (pe_op (op_rfdiv O6.r (O6.F.raw O6.b .nil) hr pass0) (pv 2) (pv 0)) pa_nil))) pa_nil))
        (pe_callB (cr_reprO gd hu70) (by rfl) zRepr (by decide +kernel) (pa_cons (pe_lst (pa_cons (pe_op op_mod (pe_callTy call_int1 (by rfl) T.zInt (by decide +kernel) (pa_cons (pv 2) pa_nil)) (pv 7)) (pa_cons (pe_op op_fdiv (pe_callTy call_int1 (by rfl) T.zInt (by decide +kernel) (pa_cons (pv 2) pa_nil)) (pv 7)) pa_nil))) pa_nil)) (nomark _))))))))), ?_⟩
    have g := cy.ok
    have o := g.ok
    have T0 := o.sum
    have T1 := g.sum
    refine ⟨_, rfl, _, rfl, a, ls, d, rfl, ha, g, fun tb H1 s1 hb => ⟨tb, _, rfl, SqT.of hb, rfl, _, _, rfl, _, _, rfl, _, _, rfl, rfl, ?_⟩⟩
    have cy1 := cy.same s1
    refine rd_meth cy1 hd rfl rfl (by decide +kernel) (by decide +kernel) fun H2 s2 => rd_meth (cy1.same s2) hd rfl rfl (by decide +kernel) (by decide +kernel) fun H3 s3 => rd_meth ((cy1.same s2).same s3) hd rfl rfl (by decide +kernel) (by decide +kernel) fun H4 s4 =>
      rd_meth (((cy1.same s2).same s3).same s4) hd rfl rfl (by decide +kernel) (by decide +kernel) fun H5 s5 => rd_meth ((((cy1.same s2).same s3).same s4).same s5) hd rfl rfl (by decide +kernel) (by decide +kernel) fun H6 s6 => ⟨(by show 5 ≤ sizeLine; decide), fun L nL => ?_⟩
    have hL : (upd H6 L (.lst [.int (blkD ls d), .int (fstD ls d), .int (lastD ls d), .int (plcD ls d), .int (lenD ls d)])) L = some (.lst ((toldL ls d).map V.int)) := upd_same
    have s7 : Same H6 (upd H6 L (.lst [.int (blkD ls d), .int (fstD ls d), .int (lastD ls d), .int (plcD ls d), .int (lenD ls d)])) := same_new nL
    have s17 := s1.trans (s2.trans (s3.trans (s4.trans (s5.trans (s6.trans s7)))))
    generalize upd H6 L (.lst [.int (blkD ls d), .int (fstD ls d), .int (lastD ls d), .int (plcD ls d), .int (lenD ls d)]) = H7 at hL s17 ⊢
    clear s1 s2 s3 s4 s5 s6 s7 cy1 nL hb
    have sh1 := ints_show (K := K) hL (told_small g hd) (by show 5 ≤ 1000; decide)
    have p1 : d - fstD ls d = plcD ls d := by show d - (d - plcD ls d) = plcD ls d; omega
    have p2 : lastD ls d - fstD ls d + 1 = lenD ls d := by show fstD ls d + lenD ls d - 1 - fstD ls d + 1 = lenD ls d; omega
    refine ⟨_, rfl, .ref L, _, rfl, sh1.dp, sh1.sh, sh1.dep, sh1.sz, ?_⟩
    refine ⟨_, rfl, _, rfl, _, rfl, _, rfl, _, rfl, _, _, rfl, rfl, _, rfl, _, rfl, _, _, rfl, rfl, _, _, rfl, rfl, (by show 5 ≤ sizeLine; decide), fun q nq => ?_⟩
    dsimp only
    rw [p1, p2]
    have hq : (upd H7 q (.lst [.int (blkD ls d), .int (fstD ls d), .int (lastD ls d), .int (plcD ls d), .int (lenD ls d)])) q = some (.lst ((toldL ls d).map V.int)) := upd_same
    have s8 : Same H7 (upd H7 q (.lst [.int (blkD ls d), .int (fstD ls d), .int (lastD ls d), .int (plcD ls d), .int (lenD ls d)])) := same_new nq
    generalize upd H7 q (.lst [.int (blkD ls d), .int (fstD ls d), .int (lastD ls d), .int (plcD ls d), .int (lenD ls d)]) = H8 at hq s8 ⊢
    have sh2 := ints_show (K := K) hq (told_small g hd) (by show 5 ≤ 1000; decide)
    refine ⟨.ref q, _, rfl, sh2.dp, sh2.sh, sh2.dep, sh2.sz, rfl, _, rfl, ?_⟩
    rw [decide_eq_true rfl]
    refine iteF ?_
    have s18 := s17.trans s8
    have hL8 := s8 _ _ hL
    have cy8 := cy.same s18
    clear hq s8 sh1 sh2 s17 hL nq p1 p2
    -- the methods by the argument's name
    refine rd_methK cy8 hd rfl rfl (by decide +kernel) (by decide +kernel) fun H9 s9 => rd_methK (cy8.same s9) hd rfl rfl (by decide +kernel) (by decide +kernel) fun H10 s10 => rd_methK ((cy8.same s9).same s10) hd rfl rfl (by decide +kernel) (by decide +kernel) fun H11 s11 => ⟨(by show 3 ≤ sizeLine; decide), fun x nx => ?_⟩
    have hx : (upd H11 x (.lst [.int (blkD ls d), .int (fstD ls d), .int (lastD ls d)])) x = some (.lst ([blkD ls d, fstD ls d, lastD ls d].map V.int)) := upd_same
    have s12 : Same H8 (upd H11 x (.lst [.int (blkD ls d), .int (fstD ls d), .int (lastD ls d)])) := s9.trans (s10.trans (s11.trans (same_new nx)))
    generalize upd H11 x (.lst [.int (blkD ls d), .int (fstD ls d), .int (lastD ls d)]) = H12 at hx s12 ⊢
    clear s9 s10 s11 nx
    refine ⟨_, rfl, _, rfl, L, _, rfl, SqL.of (s12 _ _ hL8), fun y ny => ?_⟩
    have e3 : cutV ((toldL ls d).map V.int) none (some 3) = [blkD ls d, fstD ls d, lastD ls d].map V.int := rfl
    rw [e3]
    have hy := upd_same (H := H12) (a := y) (o := .lst ([blkD ls d, fstD ls d, lastD ls d].map V.int))
    have s13 : Same H12 (upd H12 y (.lst ([blkD ls d, fstD ls d, lastD ls d].map V.int))) := same_new ny
    generalize upd H12 y (.lst ([blkD ls d, fstD ls d, lastD ls d].map V.int)) = H13 at hy s13 ⊢
    refine ⟨_, _, .lst (SqL.of (s13 _ _ hx)) (dp_ints _), .lst (SqL.of hy) (dp_ints _), PySem.W.shaped_ints _, PySem.W.shaped_ints _, _, rfl, ?_⟩
    rw [SeqAt.eqv_refl _ (SeqAt.canLay_of_shaped (PySem.W.shaped_ints _))]
    refine iteF ?_
    have s8' := s12.trans s13
    have cyA := cy8.same s8'
    have hLA := s8' _ _ hL8
    have sA := s18.trans s8'
    clear hx hy s12 s13 e3 ny cy8 hL8 s18 s8'
    refine rd_methK cyA hd rfl rfl (by decide +kernel) (by decide +kernel) fun H9 s9 => rd_methK (cyA.same s9) hd rfl rfl (by decide +kernel) (by decide +kernel) fun H10 s10 => ⟨(by show 2 ≤ sizeLine; decide), fun x nx => ?_⟩
    have hx : (upd H10 x (.lst [.int (plcD ls d), .int (lenD ls d)])) x = some (.lst ([plcD ls d, lenD ls d].map V.int)) := upd_same
    have s12 : Same H13 (upd H10 x (.lst [.int (plcD ls d), .int (lenD ls d)])) := s9.trans (s10.trans (same_new nx))
    generalize upd H10 x (.lst [.int (plcD ls d), .int (lenD ls d)]) = H14 at hx s12 ⊢
    clear s9 s10 nx
    refine ⟨_, rfl, _, rfl, L, _, rfl, SqL.of (s12 _ _ hLA), fun y ny => ?_⟩
    have e3 : cutV ((toldL ls d).map V.int) (some 3) none = [plcD ls d, lenD ls d].map V.int := rfl
    rw [e3]
    have hy := upd_same (H := H14) (a := y) (o := .lst ([plcD ls d, lenD ls d].map V.int))
    have s13 : Same H14 (upd H14 y (.lst ([plcD ls d, lenD ls d].map V.int))) := same_new ny
    generalize upd H14 y (.lst ([plcD ls d, lenD ls d].map V.int)) = H15 at hy s13 ⊢
    refine ⟨_, _, .lst (SqL.of (s13 _ _ hx)) (dp_ints _), .lst (SqL.of hy) (dp_ints _), PySem.W.shaped_ints _, PySem.W.shaped_ints _, _, rfl, ?_⟩
    rw [SeqAt.eqv_refl _ (SeqAt.canLay_of_shaped (PySem.W.shaped_ints _))]
    refine iteF ?_
    have sB := sA.trans (s12.trans s13)
    have cyB := cy.same sB
    have haB := sB _ _ ha
    clear hx hy s12 s13 e3 ny cyA hLA sA
    -- rest and turns
    refine ⟨_, rfl, a, ls, rfl, SqL.of haB, ?_⟩
    obtain ⟨dx, tt, g1, g2⟩ := cyB.ob
    refine ⟨_, rfl, _, rfl, d, p, dx, _, rfl, rfl, g1, p, ls, d, rfl, cyB, hd, fun Ha sa => ?_⟩
    refine ⟨_, rfl, _, rfl, d, p, dx, _, rfl, rfl, sa _ _ g1, p, ls, d, rfl, cyB.same sa, hd, fun Hb sb => ⟨(by show 2 ≤ sizeLine; decide), fun x nx => ?_⟩⟩
    have hx : (upd Hb x (.lst [.int (remD ls d), .int (turnD ls d)])) x = some (.lst ([d % ls.sum, d / ls.sum].map V.int)) := upd_same
    have sc : Same H15 (upd Hb x (.lst [.int (remD ls d), .int (turnD ls d)])) := sa.trans (sb.trans (same_new nx))
    generalize upd Hb x (.lst [.int (remD ls d), .int (turnD ls d)]) = H16 at hx sc ⊢
    clear sa sb nx
    have sh1 := ints_show (K := K) hx (two_small g hd) (by show 2 ≤ 1000; decide)
    refine ⟨.ref x, _, rfl, sh1.dp, sh1.sh, sh1.dep, sh1.sz, ?_⟩
    refine ⟨_, rfl, .inl ⟨_, rfl, _, rfl, _, _, rfl, rfl, T0, ?_⟩⟩
    refine ⟨_, rfl, .inl ⟨_, rfl, _, rfl, _, _, rfl, rfl, ⟨T0, by omega⟩, (by show 2 ≤ sizeLine; decide), fun y ny => ?_⟩⟩
    have hy : (upd H16 y (.lst [.int (d % ls.sum), .int (d / ls.sum)])) y = some (.lst ([d % ls.sum, d / ls.sum].map V.int)) := upd_same
    have se : Same H16 (upd H16 y (.lst [.int (d % ls.sum), .int (d / ls.sum)])) := same_new ny
    generalize upd H16 y (.lst [.int (d % ls.sum), .int (d / ls.sum)]) = H17 at hy se ⊢
    have sh2 := ints_show (K := K) hy (two_small g hd) (by show 2 ≤ 1000; decide)
    refine ⟨.ref y, _, rfl, sh2.dp, sh2.sh, sh2.dep, sh2.sz, rfl, ?_⟩
    rw [decide_eq_true rfl]
    exact k H17 (sB.trans (sc.trans se))
end
end My
namespace My
open PySem PySem.Spec PyProof.Rows L2
abbrev sLaw : Stmt := top 32
section
variable {X : Cx} {CX : CXT} {k : Nat} {f : Addr} {fd : FuncData} {ps : List Str} {sp : Sp} {E : XK} {x : Str} {e : Expr} {es : List Expr} {t : TA} {p pos : Pos}
/-- x(e, ..) of a def that is called while no repr is under way -/
def tCallG (sp : Sp) (E : XK) (t : TA) : TE := fun σ H Q => t σ H fun vs H1 => sp vs H1 Q E
theorem pe_callG (F : FnG X.prog X.w X.K X.mg X.base CX k f fd ps sp) (gd : X.A.guards = some []) (hr : Room k X.A) (hg : Gl X x) (hm : X.mg x = some (.ref f)) (hk : PySem.W.keepIn X.K (.ref f) = true) (hb : Binds X.K fd ps []) (hx : Passes CX X E) (ha : PA X (e :: es) t)
    (hdb : (x == ("__debug__" : Str)) = false := by decide) (he : starEach (e :: es) X.env = (false, eval e X.env) :: starEach es X.env := by rfl) (hpl : (backTo pos (starEach es X.env)).any (·.1) = false := by rfl) : PE X (.Call (.Name x p) (e :: es) [] pos) (tCallG sp E t) := by
  refine ⟨fun pins s σ H Q I h => wpAny_Call_Name_kw (ld_glob I hg hm (PySem.W.callWith_K (h₀ := X.base) I.ok.mod.kin hk (thn (ha.run pos pins s σ H _ I h) fun us s1 z => ?_) he hpl) hdb)⟩
  obtain ⟨vs, H1, I1, r, q⟩ := z
  refine ⟨I1.kIn, wpAny_call (codeAny_mono (F.run X.A X.stack s1 H1 ⟨us, []⟩ us vs Q E gd hr I1.env0 ?_ r q) fun res s2 hq => ?_)⟩
  · have hl : (us ++ []).length = ps.length := by
      rw [List.append_nil, ← r.length]
      exact F.len _ _ _ _ q
    have := hb s1 us I1.kIn hl
    rw [List.append_nil] at this
    exact this
  · match res, hq with
    | .error e, hq => exact hx pins σ H1 s1 e s2 I1 hq
    | .ok (.ret u), hq => exact I1.after hq
    | .ok .next, hq => exact hq.elim
    | .ok .brk, hq => exact hq.elim
    | .ok .cont, hq => exact hq.elim
end
def spStar (C : Addr) : Sp := fun vs H Q E => ∃ ws rest, vs = ws ++ rest ∧ ws.length = (["self"] : List Str).length ∧ rest.length ≤ sizeLine ∧ ∀ p, H p = none → spInitB C (ws ++ [V.ref p]) (upd H p (.tup rest)) Q E
theorem cyc_make {C : Addr} {ls : List Int} {us : List V} {H : Hp} {R : Hp → Prop} {E : XK} (g : Good ls) (hu : us = ls.map V.int) {x dx : Addr} (nx : H x = none) (nd : H dx = none) (ne : dx ≠ x) (kk : ∀ H', Same H H' → CycAt C H' x ls → R H') :
    spStar C (V.ref x :: us) (upd (upd H dx (.own x)) x (.ins C dx [])) (fun v H2 => v = .non ∧ R H2) E := by
  subst hu
  refine ⟨[.ref x], ls.map V.int, rfl, rfl, ?_, fun t nt => ?_⟩
  · rw [List.length_map]
    exact Nat.le_trans g.few (by decide)
  have nxt : x ≠ t := fun z => by
    rw [← z, upd_same] at nt
    cases nt
  have hx : (upd (upd (upd H dx (.own x)) x (.ins C dx [])) t (.tup (ls.map V.int))) x = some (.ins C dx []) := by
    rw [upd_ne nxt, upd_same]
  refine ⟨x, t, dx, ls, rfl, hx, upd_same, g, fun H' keep hx' => ⟨rfl, ?_⟩⟩
  refine kk H' (fun b o e => ?_) ⟨⟨dx, t, hx', keep _ _ upd_same (Ne.symm nxt)⟩, g⟩
  have e1 : (upd (upd H dx (.own x)) x (.ins C dx [])) b = some o := by
    rw [upd_ne (ne_of_none e nx), upd_ne (ne_of_none e nd)]
    exact e
  exact keep _ _ ((same_new nt) _ _ e1) (ne_of_none e nx)
theorem pen_ext {H H' : Hp} {p l : Addr} {N : Int} (h : PenAt H p l N) (s : LamX.ExtN H H') : PenAt H' p l N := by
  obtain ⟨ms, n, c, e1, e2, z⟩ := h.ex
  exact ⟨ms, n, c, s _ _ e1 (fun _ q => by cases q), s _ _ e2 (fun _ q => by cases q), z⟩
/-- the cycle at x, the lengths at a, the pen, the table -/
structure OkS (C Pt : Addr) (q : Str) (x a p l : Addr) (ls : List Int) (H : Hp) (N : Int) : Prop where
  cy : CycAt C H x ls
  li : H a = some (.lst (ls.map V.int))
  na : a ≠ p
  pen : PenAt H p l N
  tb : LamX.Tabs [(Pt, q)] H
theorem OkS.ext {C Pt : Addr} {q : Str} {x a p l : Addr} {ls : List Int} {H H' : Hp} {N : Int} (o : OkS C Pt q x a p l ls H N) (s : LamX.ExtN H H') (t : LamX.Tabs [(Pt, q)] H') : OkS C Pt q x a p l ls H' N := ⟨cyc_ext o.cy s, s _ _ o.li (fun _ q => by cases q), o.na, pen_ext o.pen s, t⟩
theorem OkS.same {C Pt : Addr} {q : Str} {x a p l : Addr} {ls : List Int} {H H' : Hp} {N : Int} (o : OkS C Pt q x a p l ls H N) (s : Same H H') : OkS C Pt q x a p l ls H' N := o.ext (ext_same s) (tabs_same o.tb s)
theorem OkS.but {C Pt : Addr} {q : Str} {x a p l : Addr} {ls : List Int} {H H' : Hp} {N M : Int} (o : OkS C Pt q x a p l ls H N) (s : SameBut p H H') (pn : PenAt H' p l M) : OkS C Pt q x a p l ls H' M :=
  ⟨let ⟨_, e⟩ := o.pen.lst; o.cy.but s e, s _ _ o.na o.li, o.na, pn, let ⟨_, e⟩ := o.pen.lst; tabs_but o.tb s e⟩
theorem OkS.le {C Pt : Addr} {q : Str} {x a p l : Addr} {ls : List Int} {H : Hp} {N M : Int} (o : OkS C Pt q x a p l ls H N) (z : N ≤ M) : OkS C Pt q x a p l ls H M := ⟨o.cy, o.li, o.na, o.pen.le z, o.tb⟩
section
variable {P : Program} {w : World} {K : PySem.W.Frag} {mg : Str → Option Value} {base : Heap} {C fWhole fBetw fDay fChk fPen fDraw fPick fBlk fLens fDayOf fRight fRef fOf pOf fCI pGl fGl Pt : Addr} {dPen dDraw dPick dBlk dLens dDayOf dRight dRef dOf dGl : FuncData} {mc : Value} {f0 f1 : Addr} {d0 d1 : FuncData}
structure CP (P : Program) (w : World) (K : PySem.W.Frag) (mg : Str → Option Value) (base : Heap) (C : Addr) (x : Str) (sp : Sp) (pr f : Addr) (fd : FuncData) : Prop where
  F : FnOk P w K mg base CX0 1 f fd ["self"] sp
  b : Binds K fd ["self"] []
  p : PropOf K C x pr f
theorem shaped_tints (ns : List Int) : SeqAt.shaped (.tuple (ns.map PyData.int)) = true := by
  have h1 := PySem.W.depthAll_ints ns
  have h2 : PyData.depth (.tuple (ns.map PyData.int)) ≤ 64 := by simp only [PyData.depth]; omega
  show (PyData.canLay0 (.tuple (ns.map PyData.int)) && decide (PyData.depth (.tuple (ns.map PyData.int)) ≤ 64)) = true
  rw [Bool.and_eq_true]
  exact ⟨by simp only [PyData.canLay0]; exact PySem.W.canLayAll0_ints ns, decide_eq_true h2⟩
theorem eqvAll_ints : ∀ ns : List Int, PyData.eqvAll (ns.map PyData.int) (ns.map PyData.int) = true
  | [] => by simp [PyData.eqvAll]
  | n :: r => by simp [PyData.eqvAll, PyData.eqv, eqvAll_ints r]
theorem eqv_tints {xs ys : List Int} (h : xs = ys) : PyData.eqv (.tuple (xs.map PyData.int)) (.tuple (ys.map PyData.int)) = true := by
  subst h
  show PyData.eqvAll _ _ = true
  exact eqvAll_ints xs
theorem ne_tups {H : Hp} {a b : Addr} {xs ys : List Int} {Q : VK} (ha : H a = some (.tup (xs.map V.int))) (hb : H b = some (.tup (ys.map V.int))) (h : xs = ys) (k : Q (.bl false) H) : rNeD K (.ref a) (.ref b) H Q := by
  refine ⟨_, _, .tup (SqT.of ha) (dp_ints xs), .tup (SqT.of hb) (dp_ints ys), shaped_tints xs, shaped_tints ys, ?_⟩
  rw [eqv_tints h]
  exact k
def spLawT (K : PySem.W.Frag) (Pt : Addr) : Sp := fun vs H Q _ => ∃ (a : Addr) (ns : List Int), vs = [.ref a] ∧ H Pt = some (.tbl #[]) ∧ SqL K H a (ns.map V.int) ∧ ns.length ≤ 63 ∧ ∀ H', Q (.bl true) H'
theorem scLaw : FnScope ["_law_script", "_law_pen_here", "_law_turn", "_law_lengths_so", "_law_made", "_law_step", "_law_odd"] ["_law_script"] (defScope sLaw) := ⟨rfl, rfl, rfl, by decide +kernel, rfl, by decide +kernel, by decide +kernel⟩
set_option maxHeartbeats 8000000 in
theorem ok_law {f : Addr} {fd : FuncData} (F : Fun K "law" "law" sLaw f fd) (T : Txt K mg C fWhole fBetw fDay fChk) (DP : Df P w K mg base "_law_pen" 1 fPen dPen ["_law_script"] (spPen K))
    (DI : Df P w K mg base "_law_pick" 2 fPick dPick ["_law_pen_here", "_law_some"] spPick) (DL : Df P w K mg base "_law_lengths" 3 fLens dLens ["_law_pen_here"] spLens) (DY : Df P w K mg base "_law_day" 3 fDayOf dDayOf ["_law_pen_here", "_law_lengths_so"] spDayOf)
    (RF : FnG P w K mg base CX0 5 fRight dRight ["_law_made", "_law_lengths_so", "_law_spot"] (spRight C)) (bR : Binds K dRight ["_law_made", "_law_lengths_so", "_law_spot"] []) (kR : PySem.W.keepIn K (.ref fRight) = true) (gR : mg "_law_right" = some (.ref fRight))
    (XF : FnG P w K mg base CX0 7 fRef dRef ["_law_made", "_law_odd"] (spRefused C Pt ((Str.ofString "_law_refused" ++ Str.ofString ".<locals>.") ++ Str.ofString "<lambda>"))) (bX : Binds K dRef ["_law_made", "_law_odd"] []) (kX : PySem.W.keepIn K (.ref fRef) = true) (gX : mg "_law_refused" = some (.ref fRef))
    (GL : CP P w K mg base C "lengths" (spGetL C) pGl fGl dGl) (CI : FnR P w K mg base CX0 4 fCI (spStar C)) (MI : Mk K C fCI) (OF : FnOk P w K mg base CX0 6 fOf dOf ["cls", "lengths"] (spOf K C)) (bOf : Binds K dOf ["cls", "lengths"] []) (cr : ClX.CRead K C mc) (cm : ClX.CMet K C mc "of" pOf fOf)
    (M0 : GoodM P w K mg base C "block" blkD f0 d0) (M1 : GoodM P w K mg base C "first" fstD f1 d1) : FnG P w K mg base CX0 8 f fd ["_law_script"] (spLawT K Pt) := by
  refine okG F scLaw (fun vs H Q E h => ?_) (fun cdv A outer s H vs Q E gd hr h => ?_)
  · obtain ⟨a, ns, rfl, _⟩ := h
    rfl
  · obtain ⟨a, ns, rfl, hT, hS, hlen, kk⟩ := h
    have hr1 : Room 1 _ := hr.mono (by decide)
    have hr2 : Room 2 _ := hr.mono (by decide)
    have hr3 : Room 3 _ := hr.mono (by decide)
    have hr4 : Room 4 _ := hr.mono (by decide)
    have hr5 : Room 5 _ := hr.mono (by decide)
    have hr6 : Room 6 _ := hr.mono (by decide)
    refine ⟨_, pss_cons (ps_set (i := 1) scLaw.nd rfl (Or.inl rfl) (pe_call DP.F hr1 rfl DP.g DP.kp DP.b .nil pass0 (pa_cons (pv 0) pa_nil)))
      (pss_cons (ps_for PassesOwn.never rfl (pi_range1 rfl T.zRange (pa_cons pe_int pa_nil)) (pg_name (i := 2) scLaw.nd rfl (.inl rfl))
        (pss_cons (ps_set (i := 3) scLaw.nd rfl (Or.inl rfl) (pe_call DL.F hr3 rfl DL.g DL.kp DL.b .nil pass0 (pa_cons (pv 1) pa_nil)))
        (pss_cons (ps_set (i := 4) scLaw.nd rfl (Or.inl rfl) (ClX.pe_cmeth (pe_glob (v := .ref C) rfl T.gCyc rfl) cr cm (OF.raw bOf .nil) hr6 pass0 (pa_cons (pv 3) pa_nil)))
        (pss_cons (ps_for PassesOwn.never rfl (pi_range1 rfl T.zRange (pa_cons pe_int pa_nil)) (pg_name (i := 5) scLaw.nd rfl (.inl rfl))
          (pss_one (ps_if (pt_not (pt_val (pe_callG RF gd hr5 rfl gR kR bR pass0 (pa_cons (pv 4) (pa_cons (pv 3) (pa_cons (pe_call DY.F hr3 rfl DY.g DY.kp DY.b .nil pass0 (pa_cons (pv 1) (pa_cons (pv 3) pa_nil))) pa_nil)))))) pss_never pss_nil)))
        (pss_cons (ps_set (i := 6) scLaw.nd rfl (Or.inl rfl) (pe_call DI.F hr2 rfl DI.g DI.kp DI.b .nil pass0 (pa_cons (pv 1) (pa_cons (pe_lst (pa_cons pe_non (pa_cons pe_bl (pa_cons pe_bl (pa_cons pe_str (pa_cons pe_str (pa_cons (pe_tup (pa_cons pe_int pa_nil)) (pa_cons (pe_lst (pa_cons pe_int pa_nil)) (pa_cons pe_dnewK
          (pa_cons (pe_op op_pow pe_int pe_int) (pa_cons (pe_un un_neg (pe_op op_pow pe_int pe_int)) (pa_cons (pe_op op_pow pe_int pe_int) pa_nil)))))))))))) pa_nil))))
        (pss_one (ps_if (PW.pt (pw_or (pt_not (pt_val (pe_callG XF gd hr rfl gX kX bX pass0 (pa_cons (pv 4) (pa_cons (pv 6) pa_nil))))) (pw_or1 (pt_cmpR (op_neD hr.units) (pe_prop (pv 4) T.cl GL.p GL.F hr2 GL.b .nil pass0 rfl) (pe_tupleOf (by rfl) T.zTuple (pv 3)) (nomark _))))) pss_never pss_nil))))))
      )
      (pss_one (ps_ret (pe_cmpR (op_eqD hr.units) (pe_lst (pa_cons (pe_meth (StX.pe_makeR MI CI hr5 rfl T.gCyc pass0 (pa_cons pe_int (pa_cons pe_int pa_nil))) T.cl M0.m M0.F hr4 M0.b .nil pass0 (pa_cons pe_int pa_nil))
        (pa_cons (pe_meth (StX.pe_makeR MI CI hr5 rfl T.gCyc pass0 (pa_cons pe_int (pa_cons pe_int pa_nil))) T.cl M1.m M1.F hr4 M1.b .nil pass0 (pa_cons pe_int pa_nil))
        (pa_cons (pe_meth (StX.pe_makeR MI CI hr5 rfl T.gCyc pass0 (pa_cons pe_int pa_nil)) T.cl M0.m M0.F hr4 M0.b .nil pass0 (pa_cons (pe_un un_neg pe_int) pa_nil)) pa_nil)))) (pe_lst (pa_cons pe_int (pa_cons pe_int (pa_cons (pe_un un_neg pe_int) pa_nil)))) (nomark _))))), ?_⟩
    refine ⟨_, rfl, a, ns, rfl, hS, hlen, fun p l H1 s1 pen0 => ?_⟩
    have tb0 : LamX.Tabs [(Pt, ((Str.ofString "_law_refused" ++ Str.ofString ".<locals>.") ++ Str.ofString "<lambda>"))] H1 := fun q hq => by
      rw [List.mem_singleton.mp hq]
      exact .nil (s1 _ _ hT)
    generalize hQ : ((Str.ofString "_law_refused" ++ Str.ofString ".<locals>.") ++ Str.ofString "<lambda>") = qq at tb0 ⊢
    refine ⟨8, rfl, by decide, by decide, for_range (lo := 0) (n := 8) (fun i σ H' => ∃ v2 v3 v4 v5 v6 : Option V, σ = [some (.ref a), some (.ref p), v2, v3, v4, v5, v6] ∧ PenAt H' p l (200 * i) ∧ LamX.Tabs [(Pt, qq)] H') ⟨none, none, none, none, none, rfl, pen0.le (by omega), tb0⟩ ?_ ?_⟩
    · rintro i σ H2 hi ⟨v2, v3, v4, v5, v6, rfl, pen, tb⟩
      refine ⟨_, rfl, p, l, 200 * i, rfl, pen, by omega, fun a3 ls H3 sb3 pen3 hA3 nA3 g => ?_⟩
      have tb3 : LamX.Tabs [(Pt, qq)] H3 := let ⟨_, e⟩ := pen.lst; tabs_but tb sb3 e
      refine ⟨rfl, _, rfl, a3, ls, rfl, SqL.of hA3, g, fun x H4 s4 nx c => ?_⟩
      have o4 : OkS C Pt qq x a3 p l ls H4 (200 * i + 20) := ⟨c, s4 _ _ hA3, nA3, pen3.same s4, tabs_same tb3 s4⟩
      clear c s4 pen3 tb3 hA3 nA3 sb3 tb pen nx
      refine ⟨8, rfl, by decide, by decide, for_range (lo := 0) (n := 8) (fun j σ H' => ∃ v5 v6 : Option V, σ = [some (.ref a), some (.ref p), some (.int (0 + i)), some (.ref a3), some (.ref x), v5, v6] ∧ OkS C Pt qq x a3 p l ls H' (200 * i + 20 + 10 * j)) ⟨v5, v6, rfl, o4.le (by omega)⟩ ?_ ?_⟩
      · rintro j σ H5 hj ⟨w5, w6, rfl, o5⟩
        refine ⟨_, rfl, _, rfl, _, rfl, _, rfl, p, l, a3, 200 * i + 20 + 10 * j, ls, rfl, o5.pen, by omega, o5.li, o5.na, g, fun d H6 hd sb6 pen6 => ?_⟩
        have o6 := o5.but sb6 pen6
        exact ⟨x, a3, ls, d, rfl, o6.cy, o6.li, hd, fun H7 s7 => ⟨_, rfl, iteF ⟨_, _, rfl, (o6.same s7).le (by omega)⟩⟩⟩
      · rintro σ H5 ⟨w5, w6, rfl, o5⟩
        refine ⟨_, rfl, (by show 1 ≤ sizeLine; decide), fun t nt => ⟨(by show 1 ≤ sizeLine; decide), fun u nu => fun d nd => ?_⟩⟩
        have d0 : ((10 : Int) ^ (60 : Int).toNat).natAbs < 10 ^ 70 := by decide
        have d1 : (-(10 : Int) ^ (60 : Int).toNat).natAbs < 10 ^ 70 := by decide
        have d2 : ((10 : Int) ^ (64 : Int).toNat).natAbs < 10 ^ 70 := by decide
        have b0 : dayB ((10 : Int) ^ (60 : Int).toNat) = false := by decide
        have b1 : dayB (-(10 : Int) ^ (60 : Int).toNat) = false := by decide
        have b2 : dayB ((10 : Int) ^ (64 : Int).toNat) = false := by decide
        refine ⟨_, _, rfl, rfl, ⟨by decide, by decide, by decide⟩, _, _, rfl, rfl, ⟨by decide, by decide, by decide⟩, _, rfl, _, _, rfl, rfl, ⟨by decide, by decide, by decide⟩, (by show 11 ≤ sizeLine; decide), fun q nq => ?_⟩
        have k1 := same_new (o := .tup [.int 7]) nt
        have k2 := same_new (o := .lst [.int 7]) nu
        have k3 := same_new (o := .dK []) nd
        have k4 := same_new (o := .lst [.non, .bl true, .bl false, .str "7", .str "", .ref t, .ref u, .ref d, .int (10 ^ (60 : Int).toNat), .int (-10 ^ (60 : Int).toNat), .int (10 ^ (64 : Int).toNat)]) nq
        have o8 := o5.same (k1.trans (k2.trans (k3.trans k4)))
        have ht := (k2.trans (k3.trans k4)) _ _ (upd_same (a := t) (o := .tup [.int 7]))
        have hu := (k3.trans k4) _ _ (upd_same (a := u) (o := .lst [.int 7]))
        have hd := k4 _ _ (upd_same (a := d) (o := .dK []))
        have nup : u ≠ p := pen_new (o5.same k1).pen nu
        have nqp : q ≠ p := pen_new (((o5.same k1).same k2).same k3).pen nq
        clear k1 k2 k3 k4 nu nd nt o5 o4
        refine ⟨p, l, q, _, _, rfl, o8.pen, by omega, upd_same, nqp, (by show 0 < 11; decide), (by show 11 ≤ 1000; decide), fun jj v H8 hv sb8 pen8 => ?_⟩
        have o9 := o8.but sb8 pen8
        have odv : ∃ dd, OddV H8 v dd := by
          have hv := List.mem_of_getElem? hv
          have nlp := o8.pen.lst
          obtain ⟨px, hpx⟩ := nlp
          simp only [List.mem_cons, List.not_mem_nil, or_false] at hv
          rcases hv with rfl | rfl | rfl | rfl | rfl | rfl | rfl | rfl | rfl | rfl | rfl
          · exact ⟨_, .non⟩
          · exact ⟨_, .bl _⟩
          · exact ⟨_, .bl _⟩
          · exact ⟨_, .str _ (by decide +kernel) (by decide +kernel)⟩
          · exact ⟨_, .str _ (by decide +kernel) (by decide +kernel)⟩
          · exact ⟨_, .tup (sb8 _ _ (ne_of ht hpx (by intro z; cases z)) ht)⟩
          · exact ⟨_, .lst (sb8 _ _ nup hu)⟩
          · exact ⟨_, .dct (sb8 _ _ (ne_of hd hpx (by intro z; cases z)) hd)⟩
          · exact ⟨_, .int _ b0 d0⟩
          · exact ⟨_, .int _ b1 d1⟩
          · exact ⟨_, .int _ b2 d2⟩
        obtain ⟨dd, odv⟩ := odv
        clear hv sb8 pen8 ht hu hd nup nqp o8 nq d0 d1 d2 b0 b1 b2
        refine ⟨_, rfl, _, rfl, x, v, dd, ls, rfl, o9.cy, odv, o9.tb, fun H9 e9 t9 => ?_⟩
        have oA := o9.ext e9 t9
        refine ⟨_, rfl, iteF ?_⟩
        obtain ⟨cdx, ct, c1, c2⟩ := oA.cy.ob
        refine ⟨_, rfl, x, cdx, _, rfl, c1, x, ls, rfl, oA.cy, fun tl htl => ?_⟩
        refine ⟨_, rfl, .inl ⟨a3, _, rfl, SqL.of oA.li, fun tq ntq => ?_⟩⟩
        refine ne_tups ((same_new ntq) _ _ htl) upd_same rfl ⟨_, rfl, iteF ?_⟩
        have oB := oA.same (same_new (o := .tup (ls.map V.int)) ntq)
        exact ⟨_, _, _, _, _, rfl, oB.pen.le (by omega), oB.tb⟩
    · rintro σ H2 ⟨v2, v3, v4, v5, v6, rfl, pen, tb⟩
      refine fun x dx nx nd ne => cyc_make (ls := [2, 3]) (good_of (by decide)) rfl nx nd ne (fun H3 s3 cy => ?_)
      obtain ⟨dx3, t3, g1, g2⟩ := cy.ob
      refine ⟨x, dx3, _, rfl, g1, flds_no _ _ (by decide +kernel) (by decide +kernel), x, [2, 3], 9, rfl, cy, by decide +kernel, fun H4 s4 => ?_⟩
      refine fun y dy ny ndy ney => cyc_make (ls := [2, 3]) (good_of (by decide)) rfl ny ndy ney (fun H5 s5 cy2 => ?_)
      obtain ⟨dx4, t4, g3, g4⟩ := cy2.ob
      refine ⟨y, dx4, _, rfl, g3, flds_no _ _ (by decide +kernel) (by decide +kernel), y, [2, 3], 9, rfl, cy2, by decide +kernel, fun H6 s6 => ?_⟩
      refine fun z dz nz ndz nez => cyc_make (ls := [7]) (good_of (by decide)) rfl nz ndz nez (fun H7 s7 cy3 => ?_)
      obtain ⟨dx5, t5, g5, g6⟩ := cy3.ob
      refine ⟨z, dx5, _, rfl, g5, flds_no _ _ (by decide +kernel) (by decide +kernel), _, rfl, z, [7], -1, rfl, cy3, by decide +kernel, fun H8 s8 => ?_⟩
      refine ⟨(by show 3 ≤ sizeLine; decide), fun q nq => ?_⟩
      have e1 : blkD [2, 3] 9 = 3 := by decide +kernel
      have e2 : fstD [2, 3] 9 = 7 := by decide +kernel
      have e3 : blkD [7] (-1) = -1 := by decide +kernel
      rw [e1, e2, e3]
      have hq := upd_same (H := H8) (a := q) (o := .lst ([3, 7, -1].map V.int))
      refine ⟨_, rfl, (by show 3 ≤ sizeLine; decide), fun r nr => ?_⟩
      refine ⟨_, _, .lst (SqL.of ((same_new nr) _ _ hq)) (dp_ints _), .lst (SqL.of (xs := [3, 7, -1].map V.int) upd_same) (dp_ints _), PySem.W.shaped_ints _, PySem.W.shaped_ints _, ?_⟩
      rw [SeqAt.eqv_refl _ (SeqAt.canLay_of_shaped (PySem.W.shaped_ints _))]
      exact kk _
end
end My
namespace My
open PySem PySem.Spec PyProof.Rows L2
theorem kit_self {K : PySem.W.Frag} {t : Value} : PySem.W.kitOne K t t = some true := by
  unfold PySem.W.kitOne
  rw [if_pos (beq_iff_eq.mpr rfl)]
set_option maxHeartbeats 16000000 in
theorem all_mk {l : PySem.W.OpenLaw} {w : World} {K : PySem.W.Frag} {h : Heap} {mg : Str → Option Value} {fa C : Addr} (X : K.In h) (G : h.Ns mainGlobals mg) (hfa : mg "law" = some (.ref fa)) (OT : OwnT K mg h "_law_refused")
    {odF0 anF0 : Option Addr} {slF0 : Array (Option Value)} {ocF0 kVF0 dcF0 pmF0 cdF0 ctF0 : Value} {fF0 : Addr}
    {odF1 anF1 : Option Addr} {slF1 : Array (Option Value)} {ocF1 kVF1 dcF1 pmF1 cdF1 ctF1 : Value} {fF1 : Addr}
    {odF2 anF2 : Option Addr} {slF2 : Array (Option Value)} {ocF2 kVF2 dcF2 pmF2 cdF2 ctF2 : Value} {fF2 : Addr}
    {odF3 anF3 : Option Addr} {slF3 : Array (Option Value)} {ocF3 kVF3 dcF3 pmF3 cdF3 ctF3 : Value} {fF3 : Addr}
    {odF4 anF4 : Option Addr} {slF4 : Array (Option Value)} {ocF4 kVF4 dcF4 pmF4 cdF4 ctF4 : Value} {fF4 : Addr}
    {odF5 anF5 : Option Addr} {slF5 : Array (Option Value)} {ocF5 kVF5 dcF5 pmF5 cdF5 ctF5 : Value} {fF5 : Addr}
    {odF6 anF6 : Option Addr} {slF6 : Array (Option Value)} {ocF6 kVF6 dcF6 pmF6 cdF6 ctF6 : Value} {fF6 : Addr}
    {odF7 anF7 : Option Addr} {slF7 : Array (Option Value)} {ocF7 kVF7 dcF7 pmF7 cdF7 ctF7 : Value} {fF7 : Addr}
    {odF8 anF8 : Option Addr} {slF8 : Array (Option Value)} {ocF8 kVF8 dcF8 pmF8 cdF8 ctF8 : Value} {fF8 : Addr}
    {odF9 anF9 : Option Addr} {slF9 : Array (Option Value)} {ocF9 kVF9 dcF9 pmF9 cdF9 ctF9 : Value} {fF9 : Addr}
    {odF10 anF10 : Option Addr} {slF10 : Array (Option Value)} {ocF10 kVF10 dcF10 pmF10 cdF10 ctF10 : Value} {fF10 : Addr}
    {odF11 anF11 : Option Addr} {slF11 : Array (Option Value)} {ocF11 kVF11 dcF11 pmF11 cdF11 ctF11 : Value} {fF11 : Addr}
    {odF12 anF12 : Option Addr} {slF12 : Array (Option Value)} {ocF12 kVF12 dcF12 pmF12 cdF12 ctF12 : Value} {fF12 : Addr}
    {odF13 anF13 : Option Addr} {slF13 : Array (Option Value)} {ocF13 kVF13 dcF13 pmF13 cdF13 ctF13 : Value} {fF13 : Addr}
    {odM0 anM0 : Option Addr} {slM0 : Array (Option Value)} {ocM0 kVM0 dcM0 pmM0 cdM0 ctM0 : Value} {fM0 : Addr}
    {odM1 anM1 : Option Addr} {slM1 : Array (Option Value)} {ocM1 kVM1 dcM1 pmM1 cdM1 ctM1 : Value} {fM1 : Addr}
    {odM2 anM2 : Option Addr} {slM2 : Array (Option Value)} {ocM2 kVM2 dcM2 pmM2 cdM2 ctM2 : Value} {fM2 : Addr}
    {odM3 anM3 : Option Addr} {slM3 : Array (Option Value)} {ocM3 kVM3 dcM3 pmM3 cdM3 ctM3 : Value} {fM3 : Addr}
    {odM4 anM4 : Option Addr} {slM4 : Array (Option Value)} {ocM4 kVM4 dcM4 pmM4 cdM4 ctM4 : Value} {fM4 : Addr}
    {odM5 anM5 : Option Addr} {slM5 : Array (Option Value)} {ocM5 kVM5 dcM5 pmM5 cdM5 ctM5 : Value} {fM5 : Addr}
    {odM6 anM6 : Option Addr} {slM6 : Array (Option Value)} {ocM6 kVM6 dcM6 pmM6 cdM6 ctM6 : Value} {fM6 : Addr}
    {odM7 anM7 : Option Addr} {slM7 : Array (Option Value)} {ocM7 kVM7 dcM7 pmM7 cdM7 ctM7 : Value} {fM7 : Addr}
    {odM8 anM8 : Option Addr} {slM8 : Array (Option Value)} {ocM8 kVM8 dcM8 pmM8 cdM8 ctM8 : Value} {fM8 : Addr}
    {odM9 anM9 : Option Addr} {slM9 : Array (Option Value)} {ocM9 kVM9 dcM9 pmM9 cdM9 ctM9 : Value} {fM9 : Addr}
    {odP0 anP0 : Option Addr} {slP0 : Array (Option Value)} {ocP0 kVP0 dcP0 pmP0 cdP0 ctP0 : Value} {fP0 : Addr}
    {qP0 : Addr} {rsP0 : List Value}
    {odO1 anO1 : Option Addr} {slO1 : Array (Option Value)} {ocO1 kVO1 dcO1 pmO1 cdO1 ctO1 : Value} {fO1 : Addr}
    {qO1 : Addr} {rsO1 : List Value}
    {fMod fFdv : Addr} {tkB tkMB tkMT : Tok}
    {cDE : Addr}
    {odJBD anJBD : Option Addr} {slJBD : Array (Option Value)} {ocJBD kVJBD dcJBD pmJBD cdJBD ctJBD : Value} {fJBD : Addr}
    {cBD : Addr} {nmBD qBD : Str} {NBD : Addr} {bsBD : List Value} {snBD : List Str} {subBD : List Value} {abBD : Bool} {colBD : Option Bool} {ddBD : Option Addr} {m0BD m1BD m2BD m3BD m5BD : Option Value}
    {cR Pt : Addr} {eR : Value} {dR : Option Addr} {vR : Array Value} {sR : Array (Option Value)}
    (aC : PySem.W.nsIn K mainGlobals "Cycle" = some (some (.ref C)))
    (aF0 : PySem.W.nsIn K mainGlobals "is_whole" = some (some (.ref fF0)))
    (lF0 : K.lookup fF0 = some ⟨ocF0, odF0, .func (PySem.W.fnOf "is_whole" "is_whole" (defArgs sWhole) (defBody sWhole) (defScope sWhole) .none kVF0 dcF0 pmF0 anF0 cdF0 ctF0), slF0⟩)
    (cF0 : PySem.W.codeIn K cdF0 "is_whole" = true)
    (kF0 : PySem.W.keepIn K (.ref fF0) = true)
    (aF1 : PySem.W.nsIn K mainGlobals "is_between" = some (some (.ref fF1)))
    (lF1 : K.lookup fF1 = some ⟨ocF1, odF1, .func (PySem.W.fnOf "is_between" "is_between" (defArgs sBetw) (defBody sBetw) (defScope sBetw) .none kVF1 dcF1 pmF1 anF1 cdF1 ctF1), slF1⟩)
    (cF1 : PySem.W.codeIn K cdF1 "is_between" = true)
    (kF1 : PySem.W.keepIn K (.ref fF1) = true)
    (aF2 : PySem.W.nsIn K mainGlobals "is_day" = some (some (.ref fF2)))
    (lF2 : K.lookup fF2 = some ⟨ocF2, odF2, .func (PySem.W.fnOf "is_day" "is_day" (defArgs sDay) (defBody sDay) (defScope sDay) .none kVF2 dcF2 pmF2 anF2 cdF2 ctF2), slF2⟩)
    (cF2 : PySem.W.codeIn K cdF2 "is_day" = true)
    (kF2 : PySem.W.keepIn K (.ref fF2) = true)
    (aF3 : PySem.W.nsIn K mainGlobals "check_lengths" = some (some (.ref fF3)))
    (lF3 : K.lookup fF3 = some ⟨ocF3, odF3, .func (PySem.W.fnOf "check_lengths" "check_lengths" (defArgs sChk) (defBody sChk) (defScope sChk) .none kVF3 dcF3 pmF3 anF3 cdF3 ctF3), slF3⟩)
    (cF3 : PySem.W.codeIn K cdF3 "check_lengths" = true)
    (kF3 : PySem.W.keepIn K (.ref fF3) = true)
    (aF4 : PySem.W.nsIn K mainGlobals "_law_pen" = some (some (.ref fF4)))
    (lF4 : K.lookup fF4 = some ⟨ocF4, odF4, .func (PySem.W.fnOf "_law_pen" "_law_pen" (defArgs sPen) (defBody sPen) (defScope sPen) .none kVF4 dcF4 pmF4 anF4 cdF4 ctF4), slF4⟩)
    (cF4 : PySem.W.codeIn K cdF4 "_law_pen" = true)
    (kF4 : PySem.W.keepIn K (.ref fF4) = true)
    (aF5 : PySem.W.nsIn K mainGlobals "_law_draw" = some (some (.ref fF5)))
    (lF5 : K.lookup fF5 = some ⟨ocF5, odF5, .func (PySem.W.fnOf "_law_draw" "_law_draw" (defArgs sDraw) (defBody sDraw) (defScope sDraw) .none kVF5 dcF5 pmF5 anF5 cdF5 ctF5), slF5⟩)
    (cF5 : PySem.W.codeIn K cdF5 "_law_draw" = true)
    (kF5 : PySem.W.keepIn K (.ref fF5) = true)
    (aF6 : PySem.W.nsIn K mainGlobals "_law_pick" = some (some (.ref fF6)))
    (lF6 : K.lookup fF6 = some ⟨ocF6, odF6, .func (PySem.W.fnOf "_law_pick" "_law_pick" (defArgs sPick) (defBody sPick) (defScope sPick) .none kVF6 dcF6 pmF6 anF6 cdF6 ctF6), slF6⟩)
    (cF6 : PySem.W.codeIn K cdF6 "_law_pick" = true)
    (kF6 : PySem.W.keepIn K (.ref fF6) = true)
    (aF7 : PySem.W.nsIn K mainGlobals "_law_block" = some (some (.ref fF7)))
    (lF7 : K.lookup fF7 = some ⟨ocF7, odF7, .func (PySem.W.fnOf "_law_block" "_law_block" (defArgs sBlk) (defBody sBlk) (defScope sBlk) .none kVF7 dcF7 pmF7 anF7 cdF7 ctF7), slF7⟩)
    (cF7 : PySem.W.codeIn K cdF7 "_law_block" = true)
    (kF7 : PySem.W.keepIn K (.ref fF7) = true)
    (aF8 : PySem.W.nsIn K mainGlobals "_law_lengths" = some (some (.ref fF8)))
    (lF8 : K.lookup fF8 = some ⟨ocF8, odF8, .func (PySem.W.fnOf "_law_lengths" "_law_lengths" (defArgs sLens) (defBody sLens) (defScope sLens) .none kVF8 dcF8 pmF8 anF8 cdF8 ctF8), slF8⟩)
    (cF8 : PySem.W.codeIn K cdF8 "_law_lengths" = true)
    (kF8 : PySem.W.keepIn K (.ref fF8) = true)
    (aF9 : PySem.W.nsIn K mainGlobals "_law_heard" = some (some (.ref fF9)))
    (lF9 : K.lookup fF9 = some ⟨ocF9, odF9, .func (PySem.W.fnOf "_law_heard" "_law_heard" (defArgs sHeard) (defBody sHeard) (defScope sHeard) .none kVF9 dcF9 pmF9 anF9 cdF9 ctF9), slF9⟩)
    (cF9 : PySem.W.codeIn K cdF9 "_law_heard" = true)
    (kF9 : PySem.W.keepIn K (.ref fF9) = true)
    (aF10 : PySem.W.nsIn K mainGlobals "_law_day" = some (some (.ref fF10)))
    (lF10 : K.lookup fF10 = some ⟨ocF10, odF10, .func (PySem.W.fnOf "_law_day" "_law_day" (defArgs sDayOf) (defBody sDayOf) (defScope sDayOf) .none kVF10 dcF10 pmF10 anF10 cdF10 ctF10), slF10⟩)
    (cF10 : PySem.W.codeIn K cdF10 "_law_day" = true)
    (kF10 : PySem.W.keepIn K (.ref fF10) = true)
    (aF11 : PySem.W.nsIn K mainGlobals "_law_right" = some (some (.ref fF11)))
    (lF11 : K.lookup fF11 = some ⟨ocF11, odF11, .func (PySem.W.fnOf "_law_right" "_law_right" (defArgs sRight) (defBody sRight) (defScope sRight) .none kVF11 dcF11 pmF11 anF11 cdF11 ctF11), slF11⟩)
    (cF11 : PySem.W.codeIn K cdF11 "_law_right" = true)
    (kF11 : PySem.W.keepIn K (.ref fF11) = true)
    (aF12 : PySem.W.nsIn K mainGlobals "_law_refused" = some (some (.ref fF12)))
    (lF12 : K.lookup fF12 = some ⟨ocF12, odF12, .func (PySem.W.fnOf "_law_refused" "_law_refused" (defArgs sRefused) (defBody sRefused) (defScope sRefused) .none kVF12 dcF12 pmF12 anF12 cdF12 ctF12), slF12⟩)
    (cF12 : PySem.W.codeIn K cdF12 "_law_refused" = true)
    (kF12 : PySem.W.keepIn K (.ref fF12) = true)
    (aF13 : PySem.W.nsIn K mainGlobals "law" = some (some (.ref fF13)))
    (lF13 : K.lookup fF13 = some ⟨ocF13, odF13, .func (PySem.W.fnOf "law" "law" (defArgs sLaw) (defBody sLaw) (defScope sLaw) .none kVF13 dcF13 pmF13 anF13 cdF13 ctF13), slF13⟩)
    (cF13 : PySem.W.codeIn K cdF13 "law" = true)
    (kF13 : PySem.W.keepIn K (.ref fF13) = true)
    (aM0 : PySem.W.findIn K (.ref C) "__init__" = some (some (.ref fM0)))
    (iM0 : PySem.W.isFn K (.ref fM0) = true)
    (lM0 : K.lookup fM0 = some ⟨ocM0, odM0, .func (PySem.W.fnOf "__init__" "Cycle.__init__" (defArgs sInit) (defBody sInit) (defScope sInit) .none kVM0 dcM0 pmM0 anM0 cdM0 ctM0), slM0⟩)
    (cM0 : PySem.W.codeIn K cdM0 "Cycle.__init__" = true)
    (kM0 : PySem.W.keepIn K (.ref fM0) = true)
    (aM1 : PySem.W.findIn K (.ref C) "block" = some (some (.ref fM1)))
    (iM1 : PySem.W.isFn K (.ref fM1) = true)
    (lM1 : K.lookup fM1 = some ⟨ocM1, odM1, .func (PySem.W.fnOf "block" "Cycle.block" (defArgs sBlock) (defBody sBlock) (defScope sBlock) .none kVM1 dcM1 pmM1 anM1 cdM1 ctM1), slM1⟩)
    (cM1 : PySem.W.codeIn K cdM1 "Cycle.block" = true)
    (kM1 : PySem.W.keepIn K (.ref fM1) = true)
    (aM2 : PySem.W.findIn K (.ref C) "first" = some (some (.ref fM2)))
    (iM2 : PySem.W.isFn K (.ref fM2) = true)
    (lM2 : K.lookup fM2 = some ⟨ocM2, odM2, .func (PySem.W.fnOf "first" "Cycle.first" (defArgs sFirst) (defBody sFirst) (defScope sFirst) .none kVM2 dcM2 pmM2 anM2 cdM2 ctM2), slM2⟩)
    (cM2 : PySem.W.codeIn K cdM2 "Cycle.first" = true)
    (kM2 : PySem.W.keepIn K (.ref fM2) = true)
    (aM3 : PySem.W.findIn K (.ref C) "last" = some (some (.ref fM3)))
    (iM3 : PySem.W.isFn K (.ref fM3) = true)
    (lM3 : K.lookup fM3 = some ⟨ocM3, odM3, .func (PySem.W.fnOf "last" "Cycle.last" (defArgs sLast) (defBody sLast) (defScope sLast) .none kVM3 dcM3 pmM3 anM3 cdM3 ctM3), slM3⟩)
    (cM3 : PySem.W.codeIn K cdM3 "Cycle.last" = true)
    (kM3 : PySem.W.keepIn K (.ref fM3) = true)
    (aM4 : PySem.W.findIn K (.ref C) "place" = some (some (.ref fM4)))
    (iM4 : PySem.W.isFn K (.ref fM4) = true)
    (lM4 : K.lookup fM4 = some ⟨ocM4, odM4, .func (PySem.W.fnOf "place" "Cycle.place" (defArgs sPlace) (defBody sPlace) (defScope sPlace) .none kVM4 dcM4 pmM4 anM4 cdM4 ctM4), slM4⟩)
    (cM4 : PySem.W.codeIn K cdM4 "Cycle.place" = true)
    (kM4 : PySem.W.keepIn K (.ref fM4) = true)
    (aM5 : PySem.W.findIn K (.ref C) "length" = some (some (.ref fM5)))
    (iM5 : PySem.W.isFn K (.ref fM5) = true)
    (lM5 : K.lookup fM5 = some ⟨ocM5, odM5, .func (PySem.W.fnOf "length" "Cycle.length" (defArgs sLength) (defBody sLength) (defScope sLength) .none kVM5 dcM5 pmM5 anM5 cdM5 ctM5), slM5⟩)
    (cM5 : PySem.W.codeIn K cdM5 "Cycle.length" = true)
    (kM5 : PySem.W.keepIn K (.ref fM5) = true)
    (aM6 : PySem.W.findIn K (.ref C) "__rmod__" = some (some (.ref fM6)))
    (iM6 : PySem.W.isFn K (.ref fM6) = true)
    (lM6 : K.lookup fM6 = some ⟨ocM6, odM6, .func (PySem.W.fnOf "__rmod__" "Cycle.__rmod__" (defArgs sRmod) (defBody sRmod) (defScope sRmod) .none kVM6 dcM6 pmM6 anM6 cdM6 ctM6), slM6⟩)
    (cM6 : PySem.W.codeIn K cdM6 "Cycle.__rmod__" = true)
    (kM6 : PySem.W.keepIn K (.ref fM6) = true)
    (aM7 : PySem.W.findIn K (.ref C) "__rfloordiv__" = some (some (.ref fM7)))
    (iM7 : PySem.W.isFn K (.ref fM7) = true)
    (lM7 : K.lookup fM7 = some ⟨ocM7, odM7, .func (PySem.W.fnOf "__rfloordiv__" "Cycle.__rfloordiv__" (defArgs sRfdiv) (defBody sRfdiv) (defScope sRfdiv) .none kVM7 dcM7 pmM7 anM7 cdM7 ctM7), slM7⟩)
    (cM7 : PySem.W.codeIn K cdM7 "Cycle.__rfloordiv__" = true)
    (kM7 : PySem.W.keepIn K (.ref fM7) = true)
    (aM8 : PySem.W.findIn K (.ref C) "spot" = some (some (.ref fM8)))
    (iM8 : PySem.W.isFn K (.ref fM8) = true)
    (lM8 : K.lookup fM8 = some ⟨ocM8, odM8, .func (PySem.W.fnOf "spot" "Cycle.spot" (defArgs sSpot) (defBody sSpot) (defScope sSpot) .none kVM8 dcM8 pmM8 anM8 cdM8 ctM8), slM8⟩)
    (cM8 : PySem.W.codeIn K cdM8 "Cycle.spot" = true)
    (kM8 : PySem.W.keepIn K (.ref fM8) = true)
    (aM9 : PySem.W.findIn K (.ref C) "ends" = some (some (.ref fM9)))
    (iM9 : PySem.W.isFn K (.ref fM9) = true)
    (lM9 : K.lookup fM9 = some ⟨ocM9, odM9, .func (PySem.W.fnOf "ends" "Cycle.ends" (defArgs sEnds) (defBody sEnds) (defScope sEnds) .none kVM9 dcM9 pmM9 anM9 cdM9 ctM9), slM9⟩)
    (cM9 : PySem.W.codeIn K cdM9 "Cycle.ends" = true)
    (kM9 : PySem.W.keepIn K (.ref fM9) = true)
    (aP0 : PySem.W.findIn K (.ref C) "lengths" = some (some (.ref qP0)))
    (gP0 : PySem.W.specialIn K (.ref qP0) "__get__" = some (some (.builtin "property.__get__")))
    (tP0 : PySem.W.takesIn K (.ref qP0) = some true)
    (rP0 : PySem.W.recIn K qP0 "property" = some (.ref fP0 :: rsP0))
    (lP0 : K.lookup fP0 = some ⟨ocP0, odP0, .func (PySem.W.fnOf "lengths" "Cycle.lengths" (defArgs sLengths) (defBody sLengths) (defScope sLengths) .none kVP0 dcP0 pmP0 anP0 cdP0 ctP0), slP0⟩)
    (cP0 : PySem.W.codeIn K cdP0 "Cycle.lengths" = true)
    (kP0 : PySem.W.keepIn K (.ref fP0) = true)
    (rd : PySem.W.readsIn K C (.type "type") = true)
    (ga : PySem.W.specialIn K (.ref C) "__getattribute__" = some (some (.builtin "type.__getattribute__")))
    (aO1 : PySem.W.findCls K (.ref C) (.type "type") "of" = some (.get (.builtin "classmethod.__get__") (.ref qO1) .none (.ref C)))
    (rO1 : PySem.W.recIn K qO1 "classmethod" = some (.ref fO1 :: rsO1))
    (nO1 : PySem.W.fnIn K fO1 = true)
    (lO1 : K.lookup fO1 = some ⟨ocO1, odO1, .func (PySem.W.fnOf "of" "Cycle.of" (defArgs sOf) (defBody sOf) (defScope sOf) .none kVO1 dcO1 pmO1 anO1 cdO1 ctO1), slO1⟩)
    (cO1 : PySem.W.codeIn K cdO1 "Cycle.of" = true)
    (kO1 : PySem.W.keepIn K (.ref fO1) = true)
    (pg : PySem.W.plainGet K C Str.empty = true)
    (hd : PySem.W.hasDictIn K C = true)
    (po : PySem.W.plainOver K C = true)
    (sa : PySem.W.findIn K (.ref C) "__setattr__" = some (some (.builtin "object.__setattr__")))
    (mk : PySem.W.makesIn K C = true)
    (kc : PySem.W.keepIn K (.ref C) = true)
    (nL : PySem.W.findIn K (.ref C) "_lengths" = some none)
    (nT : PySem.W.findIn K (.ref C) "_total" = some none)
    (sf : PySem.W.selfFirst K C = true)
    (om : PySem.W.findIn K (.ref C) "__mod__" = some (some (.ref fMod)))
    (od : PySem.W.findIn K (.ref C) "__floordiv__" = some (some (.ref fFdv)))
    (si : PySem.W.subIn K (.ref C) (.type "int") = some false)
    (sbo : PySem.W.subIn K (.ref C) (.type "bool") = some false)
    (bey : PySem.W.nsIn K mainGlobals "BEYOND" = some (some (.int (10 ^ 60) tkB)))
    (mb : PySem.W.nsIn K mainGlobals "MOST_BLOCKS" = some (some (.int 12 tkMB)))
    (mt : PySem.W.nsIn K mainGlobals "MOST_TOTAL" = some (some (.int 60 tkMT)))
    (z_isinstance : PySem.W.nsIn K mainGlobals "isinstance" = some none)
    (z_int : PySem.W.nsIn K mainGlobals "int" = some none)
    (z_bool : PySem.W.nsIn K mainGlobals "bool" = some none)
    (z_enumerate : PySem.W.nsIn K mainGlobals "enumerate" = some none)
    (z_len : PySem.W.nsIn K mainGlobals "len" = some none)
    (z_sum : PySem.W.nsIn K mainGlobals "sum" = some none)
    (z_list : PySem.W.nsIn K mainGlobals "list" = some none)
    (z_tuple : PySem.W.nsIn K mainGlobals "tuple" = some none)
    (z_range : PySem.W.nsIn K mainGlobals "range" = some none)
    (z_abs : PySem.W.nsIn K mainGlobals "abs" = some none)
    (z_str : PySem.W.nsIn K mainGlobals "str" = some none)
    (z_repr : PySem.W.nsIn K mainGlobals "repr" = some none)
    (clsG : PySem.W.specialIn K (.builtin "object.__class__") "__get__" = some (some (.builtin "getset_descriptor.__get__")))
    (clsT : PySem.W.takesIn K (.builtin "object.__class__") = some true)
    (aDE : PySem.W.nsIn K mainGlobals "DayError" = some (some (.ref cDE)))
    (exDE : PySem.W.subIn K (.ref cDE) (.type "BaseException") = some true)
    (hdDE : PySem.W.hasDictIn K cDE = true)
    (tyDE : PySem.W.typeIn K (.ref cDE) = some (.type "type"))
    (nBD : PySem.W.nsIn K mainGlobals "BadDay" = some (some (.ref cBD)))
    (xBD : K.lookup cBD = some (excClassObj nmBD qBD cBD NBD bsBD [.ref cDE, .type "ValueError", .type "Exception", .type "BaseException", .type "object"] true snBD subBD abBD colBD ddBD m0BD m1BD m2BD m3BD m5BD "ValueError.__new__"))
    (saBD : PySem.W.findIn K (.ref cBD) "__setattr__" = some (some (.builtin "object.__setattr__")))
    (exBD : PySem.W.subIn K (.ref cBD) (.type "BaseException") = some true)
    (tyBD : PySem.W.typeIn K (.ref cBD) = some (.type "type"))
    (kcBD : PySem.W.keepIn K (.ref cBD) = true)
    (aJBD : PySem.W.findIn K (.ref cBD) "__init__" = some (some (.ref fJBD)))
    (tiBD : PySem.W.typeIn K (.ref fJBD) = some (.type "function"))
    (lJBD : K.lookup fJBD = some ⟨ocJBD, odJBD, .func (PySem.W.fnOf "__init__" "BadDay.__init__" (defArgs sBDI) (defBody sBDI) (defScope sBDI) .none kVJBD dcJBD pmJBD anJBD cdJBD ctJBD), slJBD⟩)
    (cJBD : PySem.W.codeIn K cdJBD "BadDay.__init__" = true)
    (kJBD : PySem.W.keepIn K (.ref fJBD) = true)
    (noBD : PySem.W.findIn K (.ref cBD) "value" = some none)
    (ggBD : PySem.W.findIn K (.ref cBD) "__getattribute__" = some (some (.builtin "BaseException.__getattribute__")))
    (gtBD : PySem.W.findIn K (.ref cBD) "__getattr__" = some none)
    (hdBD : PySem.W.hasDictIn K cBD = true)
    (ccBD : PySem.W.findIn K (.ref cBD) "__class__" = some (some (.builtin "object.__class__")))
    (moBD : PySem.W.mroIn K cBD (.type "object") = some true)
    (sdBD : PySem.W.subIn K (.ref cBD) (.ref cDE) = some true)
    (eCR : cdF12 = .ref cR)
    (lR : K.lookup cR = some ⟨eR, dR, .fields vR, sR⟩)
    (pR : vR[11]? = some (.ref Pt))
    (nR : K.lookup Pt = none)
    : ∃ (fd : FuncData) (c Pt : Addr), (∀ (s : Shared) (v : Value), BindsTo s fd ⟨[v], []⟩ [("_law_script", v)]) ∧ Maker K h c Pt ∧ ∀ base : Heap, K.In base → base.Ns mainGlobals mg → LamX.TabB base mg c Pt → FnG l.prog w K mg base CX0 8 fa fd ["_law_script"] (spLawT K Pt) := by
  subst eCR
  have e := hfa.symm.trans (PySem.W.mg_of X G aF13)
  cases e
  have GF0 := PySem.W.mg_of X G aF0
  have HF0 := fun_mk (st := sWhole) lF0 cF0 kF0
  have GF1 := PySem.W.mg_of X G aF1
  have HF1 := fun_mk (st := sBetw) lF1 cF1 kF1
  have GF2 := PySem.W.mg_of X G aF2
  have HF2 := fun_mk (st := sDay) lF2 cF2 kF2
  have GF3 := PySem.W.mg_of X G aF3
  have HF3 := fun_mk (st := sChk) lF3 cF3 kF3
  have GF4 := PySem.W.mg_of X G aF4
  have HF4 := fun_mk (st := sPen) lF4 cF4 kF4
  have GF5 := PySem.W.mg_of X G aF5
  have HF5 := fun_mk (st := sDraw) lF5 cF5 kF5
  have GF6 := PySem.W.mg_of X G aF6
  have HF6 := fun_mk (st := sPick) lF6 cF6 kF6
  have GF7 := PySem.W.mg_of X G aF7
  have HF7 := fun_mk (st := sBlk) lF7 cF7 kF7
  have GF8 := PySem.W.mg_of X G aF8
  have HF8 := fun_mk (st := sLens) lF8 cF8 kF8
  have GF9 := PySem.W.mg_of X G aF9
  have HF9 := fun_mk (st := sHeard) lF9 cF9 kF9
  have GF10 := PySem.W.mg_of X G aF10
  have HF10 := fun_mk (st := sDayOf) lF10 cF10 kF10
  have GF11 := PySem.W.mg_of X G aF11
  have HF11 := fun_mk (st := sRight) lF11 cF11 kF11
  have GF12 := PySem.W.mg_of X G aF12
  have HF12 := fun_mk (st := sRefused) lF12 cF12 kF12
  have GF13 := PySem.W.mg_of X G aF13
  have HF13 := fun_mk (st := sLaw) lF13 cF13 kF13
  have HM0 := fun_mk (st := sInit) lM0 cM0 kM0
  have HM1 := fun_mk (st := sBlock) lM1 cM1 kM1
  have HM2 := fun_mk (st := sFirst) lM2 cM2 kM2
  have HM3 := fun_mk (st := sLast) lM3 cM3 kM3
  have HM4 := fun_mk (st := sPlace) lM4 cM4 kM4
  have HM5 := fun_mk (st := sLength) lM5 cM5 kM5
  have HM6 := fun_mk (st := sRmod) lM6 cM6 kM6
  have HM7 := fun_mk (st := sRfdiv) lM7 cM7 kM7
  have HM8 := fun_mk (st := sSpot) lM8 cM8 kM8
  have HM9 := fun_mk (st := sEnds) lM9 cM9 kM9
  have HP0 := fun_mk (st := sLengths) lP0 cP0 kP0
  have HO1 := fun_mk (st := sOf) lO1 cO1 kO1
  have HJBD := fun_mk (st := sBDI) lJBD cJBD kJBD
  have bF0 := HF0.binds (ps := ["value"]) fun _ _ _ _ _ _ us hl => match us, hl with | [_], _ => rfl
  have bF1 := HF1.binds (ps := ["value", "low", "high"]) fun _ _ _ _ _ _ us hl => match us, hl with | [_, _, _], _ => rfl
  have bF2 := HF2.binds (ps := ["value"]) fun _ _ _ _ _ _ us hl => match us, hl with | [_], _ => rfl
  have bF3 := HF3.binds (ps := ["lengths"]) fun _ _ _ _ _ _ us hl => match us, hl with | [_], _ => rfl
  have bF4 := HF4.binds (ps := ["_law_script"]) fun _ _ _ _ _ _ us hl => match us, hl with | [_], _ => rfl
  have bF5 := HF5.binds (ps := ["_law_pen_here", "_law_many"]) fun _ _ _ _ _ _ us hl => match us, hl with | [_, _], _ => rfl
  have bF6 := HF6.binds (ps := ["_law_pen_here", "_law_some"]) fun _ _ _ _ _ _ us hl => match us, hl with | [_, _], _ => rfl
  have bF7 := HF7.binds (ps := ["_law_lengths_so", "_law_spot"]) fun _ _ _ _ _ _ us hl => match us, hl with | [_, _], _ => rfl
  have bF8 := HF8.binds (ps := ["_law_pen_here"]) fun _ _ _ _ _ _ us hl => match us, hl with | [_], _ => rfl
  have bF9 := HF9.binds (ps := ["_law_ask"]) fun _ _ _ _ _ _ us hl => match us, hl with | [_], _ => rfl
  have bF10 := HF10.binds (ps := ["_law_pen_here", "_law_lengths_so"]) fun _ _ _ _ _ _ us hl => match us, hl with | [_, _], _ => rfl
  have bF11 := HF11.binds (ps := ["_law_made", "_law_lengths_so", "_law_spot"]) fun _ _ _ _ _ _ us hl => match us, hl with | [_, _, _], _ => rfl
  have bF12 := HF12.binds (ps := ["_law_made", "_law_odd"]) fun _ _ _ _ _ _ us hl => match us, hl with | [_, _], _ => rfl
  have bM1 := HM1.binds (ps := ["self", "day"]) fun _ _ _ _ _ _ us hl => match us, hl with | [_, _], _ => rfl
  have bM2 := HM2.binds (ps := ["self", "day"]) fun _ _ _ _ _ _ us hl => match us, hl with | [_, _], _ => rfl
  have bM3 := HM3.binds (ps := ["self", "day"]) fun _ _ _ _ _ _ us hl => match us, hl with | [_, _], _ => rfl
  have bM4 := HM4.binds (ps := ["self", "day"]) fun _ _ _ _ _ _ us hl => match us, hl with | [_, _], _ => rfl
  have bM5 := HM5.binds (ps := ["self", "day"]) fun _ _ _ _ _ _ us hl => match us, hl with | [_, _], _ => rfl
  have bM6 := HM6.binds (ps := ["self", "other"]) fun _ _ _ _ _ _ us hl => match us, hl with | [_, _], _ => rfl
  have bM7 := HM7.binds (ps := ["self", "other"]) fun _ _ _ _ _ _ us hl => match us, hl with | [_, _], _ => rfl
  have bM8 := HM8.binds (ps := ["self", "day"]) fun _ _ _ _ _ _ us hl => match us, hl with | [_, _], _ => rfl
  have bM9 := HM9.binds (ps := ["self", "day"]) fun _ _ _ _ _ _ us hl => match us, hl with | [_, _], _ => rfl
  have bP0 := HP0.binds (ps := ["self"]) fun _ _ _ _ _ _ us hl => match us, hl with | [_], _ => rfl
  have bO1 := HO1.binds (ps := ["cls", "lengths"]) fun _ _ _ _ _ _ us hl => match us, hl with | [_, _], _ => rfl
  have bJBD := HJBD.binds (ps := ["self", "value"]) fun _ _ _ _ _ _ us hl => match us, hl with | [_, _], _ => rfl
  have T : Txt K mg C fF0 fF1 fF2 fF3 := ⟨⟨pg, hd, po, sa⟩, nL, nT, PySem.W.mg_of X G aC, GF0, GF1, GF2, GF3, ⟨_, PySem.W.mg_of X G bey⟩, ⟨_, PySem.W.mg_of X G mb⟩, ⟨_, PySem.W.mg_of X G mt⟩, PySem.W.mg_none_of X G z_isinstance, PySem.W.mg_none_of X G z_int, PySem.W.mg_none_of X G z_bool, PySem.W.mg_none_of X G z_enumerate, PySem.W.mg_none_of X G z_len, PySem.W.mg_none_of X G z_sum, PySem.W.mg_none_of X G z_list, PySem.W.mg_none_of X G z_tuple, PySem.W.mg_none_of X G z_range, PySem.W.mg_none_of X G z_abs⟩
  have ZBD : ErC K mg "BadDay" "value" cBD fJBD := ⟨⟨⟨_, _, _, _, _, _, _, _, _, _, _, _, _, _, _, xBD, rfl⟩, saBD, exBD, tyBD, kcBD⟩, aJBD, tiBD, PySem.W.mg_of X G nBD, noBD, ⟨ggBD, gtBD, exBD, hdBD⟩, ⟨ggBD, gtBD, exBD, hdBD, ccBD, clsG, clsT, moBD⟩⟩
  have HT : HeardT K mg cBD cDE fJBD := ⟨ZBD, PySem.W.mg_of X G aDE, PySem.W.exm_ref exDE hdDE tyDE sdBD, kit_self, PySem.W.mg_none_of X G z_isinstance, PySem.W.mg_none_of X G z_repr⟩
  obtain ⟨tabR, codR⟩ := OT fF12 cR Pt _ _ eR dR vR sR GF12 lF12 rfl rfl lR pR
  refine ⟨PySem.W.fnOf "law" "law" (defArgs sLaw) (defBody sLaw) (defScope sLaw) .none kVF13 dcF13 pmF13 anF13 cdF13 ctF13, cR, Pt, fun s v => .of_eq rfl, ⟨tabR, nR, codR⟩, fun base _ _ TB => ?_⟩
  have DD : DayM l.prog w K mg base fF2 _ := ⟨ok_day HF2 T HF0 bF0 HF1 bF1, bF2, HF2.kp⟩
  have SS : SpotM l.prog w K mg base C fM8 _ := ⟨ok_spot HM8 T, bM8, ⟨aM8, iM8, kM8⟩⟩
  have EE : EndsM l.prog w K mg base C fM9 _ := ⟨ok_ends HM9 T SS, bM9, ⟨aM9, iM9, kM9⟩⟩
  have EM : ErM l.prog w K mg base "BadDay" "value" cBD fJBD _ := ⟨ZBD, ok_bdi HJBD ZBD, bJBD⟩
  have GM0 : GoodM l.prog w K mg base C "block" blkD fM1 _ := ⟨ok_block HM1 T SS DD, bM1, kb_D HM1 fun _ _ _ _ _ _ _ _ => rfl, ⟨aM1, iM1, kM1⟩⟩
  have BM0 : BadM l.prog w K mg base C cBD "block" fM1 _ := ⟨bad_block HM1 T DD EM, bM1, ⟨aM1, iM1, kM1⟩⟩
  have GM1 : GoodM l.prog w K mg base C "first" fstD fM2 _ := ⟨ok_first HM2 T EE DD, bM2, kb_D HM2 fun _ _ _ _ _ _ _ _ => rfl, ⟨aM2, iM2, kM2⟩⟩
  have BM1 : BadM l.prog w K mg base C cBD "first" fM2 _ := ⟨bad_first HM2 T DD EM, bM2, ⟨aM2, iM2, kM2⟩⟩
  have GM2 : GoodM l.prog w K mg base C "last" lastD fM3 _ := ⟨ok_last HM3 T EE DD, bM3, kb_D HM3 fun _ _ _ _ _ _ _ _ => rfl, ⟨aM3, iM3, kM3⟩⟩
  have BM2 : BadM l.prog w K mg base C cBD "last" fM3 _ := ⟨bad_last HM3 T DD EM, bM3, ⟨aM3, iM3, kM3⟩⟩
  have GM3 : GoodM l.prog w K mg base C "place" plcD fM4 _ := ⟨ok_place HM4 T SS DD, bM4, kb_D HM4 fun _ _ _ _ _ _ _ _ => rfl, ⟨aM4, iM4, kM4⟩⟩
  have BM3 : BadM l.prog w K mg base C cBD "place" fM4 _ := ⟨bad_place HM4 T DD EM, bM4, ⟨aM4, iM4, kM4⟩⟩
  have GM4 : GoodM l.prog w K mg base C "length" lenD fM5 _ := ⟨ok_length HM5 T SS DD, bM5, kb_D HM5 fun _ _ _ _ _ _ _ _ => rfl, ⟨aM5, iM5, kM5⟩⟩
  have BM4 : BadM l.prog w K mg base C cBD "length" fM5 _ := ⟨bad_length HM5 T DD EM, bM5, ⟨aM5, iM5, kM5⟩⟩
  have GO5 : GoodO l.prog w K mg base C .Mod remD fMod fM6 _ := ⟨ok_rmod HM6 T DD, bM6, ⟨sf, om, aM6, iM6, si⟩⟩
  have BO5 : BadO l.prog w K mg base C cBD .Mod fMod fM6 _ := ⟨bad_rmod HM6 T DD EM, bM6, ⟨sf, om, aM6, iM6, si⟩⟩
  have GO6 : GoodO l.prog w K mg base C .FloorDiv turnD fFdv fM7 _ := ⟨ok_rfdiv HM7 T DD, bM7, ⟨sf, od, aM7, iM7, si⟩⟩
  have BO6 : BadO l.prog w K mg base C cBD .FloorDiv fFdv fM7 _ := ⟨bad_rfloordiv HM7 T DD EM, bM7, ⟨sf, od, aM7, iM7, si⟩⟩
  have GL : CP l.prog w K mg base C "lengths" (spGetL C) qP0 fP0 _ := ⟨ok_lengths HP0 T, bP0, ⟨aP0, gP0, tP0, ⟨_, rP0⟩⟩⟩
  have DP : Df l.prog w K mg base "_law_pen" 1 fF4 _ ["_law_script"] _ := ⟨ok_pen HF4 T, bF4, HF4.kp, GF4⟩
  have DW : Df l.prog w K mg base "_law_draw" 1 fF5 _ ["_law_pen_here", "_law_many"] _ := ⟨ok_draw HF5 T, bF5, HF5.kp, GF5⟩
  have DI : Df l.prog w K mg base "_law_pick" 2 fF6 _ ["_law_pen_here", "_law_some"] _ := ⟨ok_pick HF6 T DW, bF6, HF6.kp, GF6⟩
  have DL : Df l.prog w K mg base "_law_lengths" 3 fF8 _ ["_law_pen_here"] _ := ⟨ok_lens HF8 T DW DI, bF8, HF8.kp, GF8⟩
  have DB : Df l.prog w K mg base "_law_block" 1 fF7 _ ["_law_lengths_so", "_law_spot"] _ := ⟨ok_blk HF7 T, bF7, HF7.kp, GF7⟩
  have DY : Df l.prog w K mg base "_law_day" 3 fF10 _ ["_law_pen_here", "_law_lengths_so"] _ := ⟨ok_dayOf HF10 T DW DI DB, bF10, HF10.kp, GF10⟩
  have RF := ok_right (P := l.prog) (w := w) (base := base) HF11 T (PySem.W.mg_none_of X G z_repr) DB GM0 GM1 GM2 GM3 GM4 GO5 GO6
  have XF := ok_refused (P := l.prog) (w := w) (base := base) HF12 rfl T TB HF9 bF9 GF9 HT (PySem.W.mg_none_of X G z_str) BM0 BM1 BM2 BM3 BM4 BO5 BO6 sbo
  have CI : FnR l.prog w K mg base CX0 4 fM0 (spStar C) := ok_init HM0 T HF0 bF0 HF1 bF1 HF3 bF3
  exact ok_law HF13 T DP DI DL DY RF bF11 HF11.kp GF11 XF bF12 HF12.kp GF12 GL CI ⟨mk, aM0, iM0, kc⟩ (ok_of HO1 T ⟨mk, aM0, iM0, kc⟩ HM0 HF0 bF0 HF1 bF1 HF3 bF3) bO1 ⟨rd, ga⟩ ⟨aO1, ⟨_, rO1⟩, nO1⟩ GM0 GM1
theorem walk {l : PySem.W.OpenLaw} {q : Program} {loose : List Str} {XP : (Str → Option Value) → Heap → Prop} {YP : World → Heap → Prop} {d : DefRec} {K : Params → PySem.W.Frag} (hn : l.most = some 63) (hdf : d.params.defaults = [])
    (hY : ∀ (w : World) (h : Heap), YP w h → (K w.params).In h) (rec : ((recsOf q).any fun e => e.name == ("_law_refused" : Str)) = true)
    (F : ∀ (w : World) (mg : Str → Option Value) (fa : Addr) (h : Heap), (K w.params).In h → h.Ns mainGlobals mg → mg d.name = some (.ref fa) → OwnT (K w.params) mg h "_law_refused" →
      ∃ (fd : FuncData) (c Pt : Addr), (∀ (s : Shared) (u : Value), BindsTo s fd ⟨[u], []⟩ [("_law_script", u)]) ∧ Maker (K w.params) h c Pt ∧ ∀ base : Heap, (K w.params).In base → base.Ns mainGlobals mg → LamX.TabB base mg c Pt → FnG l.prog w (K w.params) mg base CX0 8 fa fd ["_law_script"] (spLawT (K w.params) Pt)) :
    PySem.W.WalkO q loose XP YP l.row.toRowW d [] (fun f vs => PySem.call f vs) :=
  walkT (n := 63) (k := 8) (x := "_law_script") (y := "_law_refused") (sp := fun w Pt => spLawT (K w.params) Pt) hn (by decide) hdf ⟨rfl, by decide, by decide⟩ hY rec F fun w H a Pt ns hl _ hP hS => ⟨a, ns, rfl, hP, hS, hl, fun _ => rfl⟩
end My
open PySem PySem.W PyProof.Rows
set_option maxRecDepth 100000 in
set_option maxHeartbeats 0 in
theorem PySem.Challenge.cw_remadedays_k14_blocks_of_days_holds : PySem.Challenge.rw_remadedays_k14_blocks_of_days.Holds := by
  w_on; o_law; k_headL; (case hw => w_witness2)
  k_fill
  refine My.walk (l := PySem.Challenge.rw_remadedays_k14_blocks_of_days) rfl rfl (fun w h Y => PySem.W.kIn_of Y) ?R ?F
  case R => first | decide +kernel | rfl | kernel_rfl
  case F =>
    intro w mg fa h KX G hmg OT
    refine' My.all_mk KX G hmg OT ?aC ?aF0 ?lF0 ?cF0 ?kF0 ?aF1 ?lF1 ?cF1 ?kF1 ?aF2 ?lF2 ?cF2 ?kF2 ?aF3 ?lF3 ?cF3 ?kF3 ?aF4 ?lF4 ?cF4 ?kF4 ?aF5 ?lF5 ?cF5 ?kF5 ?aF6 ?lF6 ?cF6 ?kF6 ?aF7 ?lF7 ?cF7 ?kF7 ?aF8 ?lF8 ?cF8 ?kF8 ?aF9 ?lF9 ?cF9 ?kF9 ?aF10 ?lF10 ?cF10 ?kF10 ?aF11 ?lF11 ?cF11 ?kF11 ?aF12 ?lF12 ?cF12 ?kF12 ?aF13 ?lF13 ?cF13 ?kF13 ?aM0 ?iM0 ?lM0 ?cM0 ?kM0 ?aM1 ?iM1 ?lM1 ?cM1 ?kM1 ?aM2 ?iM2 ?lM2 ?cM2 ?kM2 ?aM3 ?iM3 ?lM3 ?cM3 ?kM3 ?aM4 ?iM4 ?lM4 ?cM4 ?kM4 ?aM5 ?iM5 ?lM5 ?cM5 ?kM5 ?aM6 ?iM6 ?lM6 ?cM6 ?kM6 ?aM7 ?iM7 ?lM7 ?cM7 ?kM7 ?aM8 ?iM8 ?lM8 ?cM8 ?kM8 ?aM9 ?iM9 ?lM9 ?cM9 ?kM9 ?aP0 ?gP0 ?tP0 ?rP0 ?lP0 ?cP0 ?kP0 ?rd ?ga ?aO1 ?rO1 ?nO1 ?lO1 ?cO1 ?kO1 ?pg ?hd ?po ?sa ?mk ?kc ?nL ?nT ?sf ?om ?od ?si ?sbo ?bey ?mb ?mt ?z_isinstance ?z_int ?z_bool ?z_enumerate ?z_len ?z_sum ?z_list ?z_tuple ?z_range ?z_abs ?z_str ?z_repr ?clsG ?clsT ?aDE ?exDE ?hdDE ?tyDE ?nBD ?xBD ?saBD ?exBD ?tyBD ?kcBD ?aJBD ?tiBD ?lJBD ?cJBD ?kJBD ?noBD ?ggBD ?gtBD ?hdBD ?ccBD ?moBD ?sdBD ?eCR ?lR ?pR ?nR
    (case aC => k_is)
    (case aF0 => k_is)
    (case lF0 => k_is)
    (case cF0 => k_is)
    (case kF0 => k_is)
    (case aF1 => k_is)
    (case lF1 => k_is)
    (case cF1 => k_is)
    (case kF1 => k_is)
    (case aF2 => k_is)
    (case lF2 => k_is)
    (case cF2 => k_is)
    (case kF2 => k_is)
    (case aF3 => k_is)
    (case lF3 => k_is)
    (case cF3 => k_is)
    (case kF3 => k_is)
    (case aF4 => k_is)
    (case lF4 => k_is)
    (case cF4 => k_is)
    (case kF4 => k_is)
    (case aF5 => k_is)
    (case lF5 => k_is)
    (case cF5 => k_is)
    (case kF5 => k_is)
    (case aF6 => k_is)
    (case lF6 => k_is)
    (case cF6 => k_is)
    (case kF6 => k_is)
    (case aF7 => k_is)
    (case lF7 => k_is)
    (case cF7 => k_is)
    (case kF7 => k_is)
    (case aF8 => k_is)
    (case lF8 => k_is)
    (case cF8 => k_is)
    (case kF8 => k_is)
    (case aF9 => k_is)
    (case lF9 => k_is)
    (case cF9 => k_is)
    (case kF9 => k_is)
    (case aF10 => k_is)
    (case lF10 => k_is)
    (case cF10 => k_is)
    (case kF10 => k_is)
    (case aF11 => k_is)
    (case lF11 => k_is)
    (case cF11 => k_is)
    (case kF11 => k_is)
    (case aF12 => k_is)
    (case lF12 => k_is)
    (case cF12 => k_is)
    (case kF12 => k_is)
    (case aF13 => k_is)
    (case lF13 => k_is)
    (case cF13 => k_is)
    (case kF13 => k_is)
    (case aM0 => k_is)
    (case iM0 => k_is)
    (case lM0 => k_is)
    (case cM0 => k_is)
    (case kM0 => k_is)
    (case aM1 => k_is)
    (case iM1 => k_is)
    (case lM1 => k_is)
    (case cM1 => k_is)
    (case kM1 => k_is)
    (case aM2 => k_is)
    (case iM2 => k_is)
    (case lM2 => k_is)
    (case cM2 => k_is)
    (case kM2 => k_is)
    (case aM3 => k_is)
    (case iM3 => k_is)
    (case lM3 => k_is)
    (case cM3 => k_is)
    (case kM3 => k_is)
    (case aM4 => k_is)
    (case iM4 => k_is)
    (case lM4 => k_is)
    (case cM4 => k_is)
    (case kM4 => k_is)
    (case aM5 => k_is)
    (case iM5 => k_is)
    (case lM5 => k_is)
    (case cM5 => k_is)
    (case kM5 => k_is)
    (case aM6 => k_is)
    (case iM6 => k_is)
    (case lM6 => k_is)
    (case cM6 => k_is)
    (case kM6 => k_is)
    (case aM7 => k_is)
    (case iM7 => k_is)
    (case lM7 => k_is)
    (case cM7 => k_is)
    (case kM7 => k_is)
    (case aM8 => k_is)
    (case iM8 => k_is)
    (case lM8 => k_is)
    (case cM8 => k_is)
    (case kM8 => k_is)
    (case aM9 => k_is)
    (case iM9 => k_is)
    (case lM9 => k_is)
    (case cM9 => k_is)
    (case kM9 => k_is)
    (case aP0 => k_is)
    (case gP0 => k_is)
    (case tP0 => k_is)
    (case rP0 => k_is)
    (case lP0 => k_is)
    (case cP0 => k_is)
    (case kP0 => k_is)
    (case rd => k_is)
    (case ga => k_is)
    (case aO1 => k_is)
    (case rO1 => k_is)
    (case nO1 => k_is)
    (case lO1 => k_is)
    (case cO1 => k_is)
    (case kO1 => k_is)
    (case pg => k_is)
    (case hd => k_is)
    (case po => k_is)
    (case sa => k_is)
    (case mk => k_is)
    (case kc => k_is)
    (case nL => k_is)
    (case nT => k_is)
    (case sf => k_is)
    (case om => k_is)
    (case od => k_is)
    (case si => k_is)
    (case sbo => k_is)
    (case bey => k_is)
    (case mb => k_is)
    (case mt => k_is)
    (case z_isinstance => k_is)
    (case z_int => k_is)
    (case z_bool => k_is)
    (case z_enumerate => k_is)
    (case z_len => k_is)
    (case z_sum => k_is)
    (case z_list => k_is)
    (case z_tuple => k_is)
    (case z_range => k_is)
    (case z_abs => k_is)
    (case z_str => k_is)
    (case z_repr => k_is)
    (case clsG => k_is)
    (case clsT => k_is)
    (case aDE => k_is)
    (case exDE => k_is)
    (case hdDE => k_is)
    (case tyDE => k_is)
    (case nBD => k_is)
    (case xBD => k_is)
    (case saBD => k_is)
    (case exBD => k_is)
    (case tyBD => k_is)
    (case kcBD => k_is)
    (case aJBD => k_is)
    (case tiBD => k_is)
    (case lJBD => k_is)
    (case cJBD => k_is)
    (case kJBD => k_is)
    (case noBD => k_is)
    (case ggBD => k_is)
    (case gtBD => k_is)
    (case hdBD => k_is)
    (case ccBD => k_is)
    (case moBD => k_is)
    (case sdBD => k_is)
    (case eCR => rfl)
    (case lR => k_is)
    (case pR => rfl)
    (case nR => first | rfl | kernel_rfl)
#print axioms PySem.Challenge.cw_remadedays_k14_blocks_of_days_holds
