import PyProof.Rows.All
import Wide.All
import OpenK.AllK
import Wide.FinOn
import PyProof.TwoTypes
import KE.KOpsOwn
import KE.KTupSum
import KE.KStar
import KE.GoesMore
import HandS.ForMost
import HandS.Star
import HandS.SlotsOwn
import HandS.ClsMeth
import HandS.Conv
import PyProof.ReprRoads
import PyProof.FitsInt
import HandS.EndBits
import HandS.Base
import HandS.Call
import HandS.Exc
import HandS.Lambda
import KE.KExcIs
import HandS.IsInst
import HandS.ExcField
import HandS.ExcIs
import HandS.ExcValue
import PyProof.CallFns
import PyProof.FactsAll.bool_1
import PyProof.FactsAll.bool_2
import HandS.ExcInit
import HandS.WordsExc
import HandS.Property
import KE.OsRunLaw
import KE.KCallOwn
import KE.KOwnIter
import HandS.IterVal
import HandS.Text
import HandS.StrMore
import HandS.TupAny
import HandS.FStr
import HandS.MakeKwOnly
import HandS.MakeKw
import HandS.Codes
import HandS.Wide
import HandS.Style
import PySem.Challenge.RW_remadedays_k13_cycles_made
set_option Elab.async false
set_option linter.all false
set_option maxRecDepth 100000
set_option maxHeartbeats 4000000
namespace My
open PySem PySem.Spec PyProof.Rows L2
section
variable {X : Cx} {CX : CXT} {n : Nat} {C g g0 : Addr} {sp : Sp} {E : XK}
def rLenO (C : Addr) (sp : Sp) (E : XK) : List V → Hp → VK → Prop := fun xs H Q => ∃ a dx fs, xs = [V.ref a] ∧ H a = some (.ins C dx fs) ∧ sp [.ref a] H (fun z H' => ∃ n : Int, z = .int n ∧ 0 ≤ n ∧ n < 2 ^ 63 ∧ Q (.int n) H') E
theorem call_lenO (hs : PySem.W.findIn X.K (.ref C) "__len__" = some (some (.ref g))) (hf : PySem.W.isFn X.K (.ref g) = true) (F : FnR X.prog X.w X.K X.mg X.base CX n g sp) (hr : Room (n + 1) X.A) (hx : Passes CX X E) : CallR X (.builtin "len") (rLenO C sp E) := by
  intro pins s σ H xs us Q I r h
  obtain ⟨a, dx, fs, rfl, ha, q⟩ := h
  obtain ⟨u, rfl, ru⟩ := r.one
  cases (show u = Value.ref a from ru)
  obtain ⟨mA, O, _⟩ := ins_get I.hok ha
  obtain ⟨od, J, _⟩ := O.look
  obtain ⟨m, hF⟩ := I.fr
  refine PySem.W.len_K hF I.ok.mod.kin J hs hf (wpAny_mono (wpAny_call (SlX.run_at (us := [.ref a]) (ws := [.ref a]) F hr.in1 I.env0.in1 hx I (.cons rfl .nil) q)) (fun w s' z => ?_) fun _ _ x => x)
  obtain ⟨z', H', I', rz, k, ek, h0, h1, qz⟩ := z
  subst ek
  obtain ⟨t, e⟩ := (show ∃ t, w = Value.int k t from rz)
  cases e
  exact ⟨⟨h0, h1⟩, .int k, H', I'.tok _, ⟨_, rfl⟩, qz⟩
end
section
variable {X : Cx}
def rSumT (K : PySem.W.Frag) : List V → Hp → VK → Prop := fun vs H Q => ∃ (a : Addr) (ns : List Int), vs = [V.ref a] ∧ SqT K H a (ns.map V.int) ∧ Q (.int ns.sum) H
theorem cr_sumT (hc : X.calm = true) : CallR X (.builtin "sum") (rSumT X.K) := by
  intro pins s σ H vs us Q I r h
  obtain ⟨a, ns, rfl, hs, q⟩ := h
  obtain ⟨its, rv, hl, _⟩ := I.tuple hs
  rw [Vals.ref1 r]
  obtain ⟨xs, e⟩ := rv.ints.allInts.items
  have hn : numsOf (intItems xs).toList = ns := by rw [← e]; exact rv.ints.numsOf
  rw [nums_intItems] at hn
  have hl' : s.heap.IsTuple a its.toArray := hl
  rw [e] at hl'
  refine PySem.W.ktm_sumG (I.ok.hd hc) hl' fun h' tk t' hk => ⟨.int _, H, I.kept hk, ⟨_, rfl⟩, ?_⟩
  rw [preSum_eq, List.take_of_length_le (by simp), hn]
  exact q
end
section
variable {X : Cx} {CX : CXT} {k i : Nat} {f C : Addr} {sp : Sp} {E : XK} {x : Str} {e : Expr} {te : TE} {p sp_ pos : Pos}
def tMakeStar (K : PySem.W.Frag) (i : Nat) (C : Addr) (sp : Sp) (E : XK) (te : TE) : TE := fun σ H Q => σ[i]? = some (some (.ref C)) ∧ te σ H fun y H1 => ∃ a xs, y = V.ref a ∧ (SqT K H1 a xs ∨ SqL K H1 a xs) ∧
  ∀ x dx, H1 x = none → H1 dx = none → dx ≠ x → sp (V.ref x :: xs) (upd (upd H1 dx (.own x)) x (.ins C dx [])) (fun v H2 => v = .non ∧ Q (.ref x) H2) E
theorem pe_makeStar (M : Mk X.K C f) (F : FnR X.prog X.w X.K X.mg X.base CX k f sp) (hr : Room (k + 1) X.A) (hN : X.N[i]? = some x) (hv : Vis X.env.scope x) (hx : Passes CX X E) (he : PE X e te)
    (hdb : (x == ("__debug__" : Str)) = false := by decide) (hcd : (x == ("__classdict__" : Str)) = false := by decide)
    (hst : starEach [.Starred e sp_] X.env = [(true, eval e X.env)] := by rfl) : PE X (.Call (.Name x p) [.Starred e sp_] [] pos) (tMakeStar X.K i C sp E te) := by
  refine ⟨fun pins s σ H Q I h => ?_⟩
  obtain ⟨hs, ht⟩ := h
  refine wpAny_Call_Name_kw (thn ((pe_var (pos := p) hN hv hdb hcd).run pins s σ H (fun v H1 => v = .ref C ∧ H1 = H) I ⟨.ref C, hs, rfl, rfl⟩) fun u s1 ⟨v, H1, I1, r1, q1⟩ => ?_)
  obtain ⟨rfl, rfl⟩ := q1
  cases r1
  refine PySem.W.callWith_S (h₀ := X.base) I.ok.mod.kin M.kp (thn (he.run pins s1 σ _ _ I1 ht) fun v s2 ⟨y, H2, I2, ry, a, xs, ey, hxs, q⟩ => ?_) hst
  subst ey
  obtain rfl : v = Value.ref a := ry
  exact StX.star_any I2 hxs fun us s3 I3 rv => ⟨I3.kIn, StX.run_makeR M F hr hx I3 rv q⟩
end
theorem meets_enumerate_newT (l : Addr) (items : Array Value) (n : Nat) (dct : Option Addr) (sl : Array (Option Value)) :
    Meets (Builtin.«enumerate.__new__» ⟨[.type "enumerate", .ref l], []⟩) (fun _ R s => s.heap.get? l = some { cls := .type "tuple", dict := dct, data := .seq items n, slots := sl } ∧
      R (.ok (.ret (.ref (s.heap.push { cls := .type "tuple_iterator", data := .fields #[.ref l, .int 0 0] }).objs.size)))
        { s with heap := (s.heap.push { cls := .type "tuple_iterator", data := .fields #[.ref l, .int 0 0] }).push { cls := .type "enumerate", data := .fields #[.none, .bool false, .ref s.heap.objs.size, rawInt 0, .none, .none] } }) :=
  .of_wp fun prog w A R s h => by
    obtain ⟨hp, g, d, tk, os⟩ := s; obtain ⟨hl, h⟩ := h
    have hsub := sub_enumerate
    have hL : Heap.IsTuple (Shared.heap ⟨hp, g, d, tk, os⟩) l items := ⟨_, hl, rfl, n, rfl⟩
    wp_walk using AutoSeq1.wpAny_loadPart' hl
    refine wpAny_stack_any fun st => wpAny_pure ?_
    split
    · rename_i c _ _ _ _ _
      cases (c == Value.type "enumerate")
      · wp_walk using AutoSeq1.wpAny_loadPart' hl, wpAny_pyIter_tuple hL
        exact ⟨_, rfl, h⟩
      · wp_walk using AutoSeq1.wpAny_loadPart' hl, wpAny_pyIter_tuple hL
        exact ⟨_, rfl, h⟩
    · wp_walk using AutoSeq1.wpAny_loadPart' hl, wpAny_pyIter_tuple hL
      exact ⟨_, rfl, h⟩
theorem call_enumerate_tuple {prog : Program} {w : World} {A : Around} {E : Value → Shared → Prop} {s : Shared} {l : Addr} {items : Array Value} {Q : Value → Shared → Prop} (hL : s.heap.IsTuple l items)
    (h : ∀ h', IsEnum h' (s.heap.objs.size + 1) s.heap.objs.size 0 .none → h'.IsTupleIter s.heap.objs.size l 0 → h'.objs.size = s.heap.objs.size + 2 →
      (∀ b o, s.heap.get? b = some o → h'.get? b = some o) → Q (.ref (s.heap.objs.size + 1)) { s with heap := h' }) :
    wpAny (model prog w) A (call (.type "enumerate") [.ref l]) Q E s := by
  obtain ⟨⟨c, dct, dt, sl⟩, hl, hc, n, hd⟩ := hL
  replace hc : c = .type "tuple" := hc
  replace hd : dt = .seq items n := hd
  subst hc hd
  refine callType_new PySem.F.called_enumerate (by decide) (PySem.F.typeCall_enumerate_1 _) (PySem.F.newCall_enumerate_1 _) (fun obj => PySem.F.args_object_init_2 obj _) PySem.F.entry_enumerate_new
    (meets_enumerate_newT l items n dct sl) ⟨hl, ?_⟩
  have hz : (s.heap.push { cls := .type "tuple_iterator", data := .fields #[.ref l, .int 0 0] }).objs.size = s.heap.objs.size + 1 := Heap.size_push ..
  show _ ∧ _
  rw [hz]
  have he : IsEnum ((s.heap.push { cls := .type "tuple_iterator", data := .fields #[.ref l, .int 0 0] }).push
      { cls := .type "enumerate", data := .fields #[.none, .bool false, .ref s.heap.objs.size, rawInt 0, .none, .none] }) (s.heap.objs.size + 1) s.heap.objs.size 0 .none := by
    have := Heap.get?_push_size (s.heap.push { cls := .type "tuple_iterator", data := .fields #[.ref l, .int 0 0] })
      (o := { cls := .type "enumerate", data := .fields #[.none, .bool false, .ref s.heap.objs.size, rawInt 0, .none, .none] }) rfl
    rw [hz] at this; exact this
  refine ⟨⟨_, he, rfl⟩, h _ he ⟨_, Heap.get?_push_of_some _ (Heap.get?_push_size _ rfl), rfl, rfl⟩ (by rw [Heap.size_push, hz]) fun b o x => Heap.get?_push_of_some _ (Heap.get?_push_of_some _ x)⟩
def IteT (K : PySem.W.Frag) (a : Addr) : It :=
  ⟨fun i H => ∃ (xs : List V) (x : V), SqT K H a xs ∧ xs[i]? = some x, fun i H v H' => ∃ T x, v = .ref T ∧ H T = none ∧ H' = upd H T (.tup [.int (i : Nat), x]) ∧ ∀ xs, SqT K H a xs → xs[i]? = some x, fun i H => ∃ xs : List V, SqT K H a xs ∧ xs.length ≤ i⟩
theorem turn_enumT {P : Program} {w : World} {K : PySem.W.Frag} {elts : List Expr} {kk : Nat} {tpos : Pos} (a e it : Addr) :
    Turn P w K (.Tuple elts kk tpos) (IteT K a) [e, it] e (fun i h => (∃ old, IsEnum h e it ((i : Nat) : Int) old) ∧ h.IsTupleIter it a i ∧ e ≠ it) where
  mem := by simp
  obj := fun i h st b hb => by
    obtain ⟨⟨old, he⟩, ⟨o, ho, hc, hd⟩, _⟩ := st
    have e' : b = e ∨ b = it := by simpa using hb
    rcases e' with z | z
    · rw [z]; exact ⟨_, he, fun v q => nomatch q⟩
    · rw [z]; exact ⟨o, ho, fun v q => by rw [hd] at q; cases q⟩
  keep := fun i h h' st k => let ⟨⟨old, he⟩, hi, hne⟩ := st; ⟨⟨old, k e (by simp) _ he⟩, hi.at fun o q => k it (by simp) o q, hne⟩
  item := by
    intro X hP hw hK hc i pins s σ H E I hf st hg
    subst hP hw hK
    obtain ⟨⟨old, he⟩, hit, hne⟩ := st
    obtain ⟨xs, x, hq, hx⟩ := hg
    obtain ⟨its, rv, p, hz⟩ := I.tuple hq
    obtain ⟨u, hu, ru⟩ := rv.get hx
    have hel : e < s.heap.objs.size := Heap.lt_size he
    have hil : it < s.heap.objs.size := by obtain ⟨_, q, _⟩ := hit; exact Heap.lt_size q
    have hT : s.heap.IsTuple a its.toArray := p
    have hai : a ≠ it := fun z => by
      obtain ⟨o1, h1, c1, _⟩ := hT
      obtain ⟨o2, h2, c2, _⟩ := hit
      rw [z, h2] at h1
      cases h1
      rw [c2] at c1
      exact absurd c1 (by decide)
    have hae : e ≠ a := fun z => by
      obtain ⟨o1, h1, c1, _⟩ := hT
      rw [← z, he] at h1
      cases h1
      exact absurd (show Value.type "enumerate" = Value.type "tuple" from c1) (by decide)
    have D := Draws.tuple (prog := X.prog) (w := X.w) (A := X.A.in1) (I.ok.hd hc) it a hai its.toArray
    have hl := rv.length
    have hlt : i < its.toArray.size := by
      have := (List.getElem?_eq_some_iff.mp hu).1
      simpa using this
    refine wpAny_pyNext_enum_itemD D he ⟨hit, hT⟩ hlt hne (by simp [hne, hae]) fun x' h' tk hP ho hit' hT' hsz hk => ?_
    obtain rfl : x' = u := by
      have z : its.toArray[i]? = some u := by simpa using hu
      exact Option.some.inj (hP.symm.trans z)
    refine ⟨_, rfl, wpAny_letOwnedTupleGo_enum (s := { s with heap := h', toks := tk + 1 }) ho fun h'' he' sb => ?_⟩
    have hT2 : h''.get? s.heap.objs.size = some { cls := .type "tuple", data := .seq #[.int i tk, x'] } := (sb.2 _ (Nat.ne_of_gt hel)).trans hT'
    have new : ObjOk X.prog X.w (upd H s.heap.objs.size (.tup [.int (i : Nat), x])) h'' s.heap.objs.size (.tup [.int (i : Nat), x]) :=
      ⟨by show 2 ≤ sizeLine; decide, [.int i tk, x'], .cons ⟨_, rfl⟩ (.cons ru .nil), ⟨_, hT2, rfl, _, rfl⟩⟩
    have I1 : Inv X pins σ (upd H s.heap.objs.size (.tup [.int (i : Nat), x])) { s with heap := h'', toks := tk + 1 } :=
      I.turnedNew (ch := [e, it]) (fun b ob hb q => (sb.2 b (fun z => hb (by simp [z]))).trans (hk b ob (fun z => hb (by simp [z])) (fun z => hb (by simp [z])) q)) hf (Nat.le_refl _) new
    refine ⟨.ref s.heap.objs.size, _, I1, rfl, ⟨_, x, rfl, I.hok.fresh (Nat.le_refl _), rfl, fun ys hy => by rw [I.tuple_inj hy hq]; exact hx⟩, ⟨⟨x', ?_⟩, hit'.1.at fun o q => (sb.2 it (Ne.symm hne)).trans q, hne⟩, fun b hb => ?_⟩
    · have e1 : ((i + 1 : Nat) : Int) = (i : Int) + 1 := by omega
      rw [e1]; exact he'
    · have hb' : b < s.heap.objs.size := by
        have e' : b = e ∨ b = it := by simpa using hb
        rcases e' with z | z
        · rw [z]; exact hel
        · rw [z]; exact hil
      rw [upd_ne (Nat.ne_of_lt hb')]
      exact (hf b hb).1
  done := by
    intro X hP hw hK hc i pins s σ H E I hf st hg
    subst hP hw hK
    obtain ⟨⟨old, he⟩, hit, hne⟩ := st
    obtain ⟨xs, hq, hx⟩ := hg
    obtain ⟨its, rv, p, hz⟩ := I.tuple hq
    have hT : s.heap.IsTuple a its.toArray := p
    obtain ⟨f0, f1, f2, f3, f4, f5⟩ := hf it (by simp)
    have hl := rv.length
    have hT2 : s.TypeIs (.ref e) "enumerate" := ⟨_, he, rfl⟩
    unfold pyNext
    refine wpAny_bind (wpAny_attempt (wpAny_callSpecial?_slot (name := Str.ofString "__next__") hT2 PySem.F.slot_enumerate_next
      (wpAny_call_entry PySem.F.slot_enumerate_next hT2 PySem.F.entry_enumerate_next ?_ (PySem.F.args_enumerate_next_1 _))))
    show wpAny _ _ (field (.ref e) 2 >>= _) _ _ _
    refine wpAny_bind (wpAny_field he rfl (x := .ref it) rfl ?_)
    refine wpAny_bind (wpAny_nextOf_tuple_end (I.ok.hd hc) hit hT (by simp; omega) fun h' x he' hx' => ?_)
    obtain ⟨o, ho, hc⟩ := hx'
    refine wpAny_bind (wpAny_isInstance (T := "StopIteration") (b := true) ⟨o, ho, hc⟩ isSubtype_stop ?_)
    exact wpAny_pure ⟨rfl, I.turned (t' := s.toks) (fun b o hb q => he' b o hb q) f0 f1 f3 f4 f5⟩
  self := fun A i s Q E st h => let ⟨⟨_, he⟩, _⟩ := st; wpAny_pyIter_enum he h
def iEnumT (K : PySem.W.Frag) (ta : TA) : TI := fun σ H R => ta σ H fun vs H1 => ∃ a xs, vs = [.ref a] ∧ SqT K H1 a xs ∧ R (IteT K a) H1
theorem pi_enumT {X : Cx} {e : Expr} {ta : TA} {p pos tpos : Pos} {elts : List Expr} {kk : Nat} (hg : Gl X "enumerate") (hm : X.mg "enumerate" = none) (ha : PA X [e] ta) (hs : starEach [e] X.env = [(false, eval e X.env)] := by rfl) :
    PI X (.Tuple elts kk tpos) (.Call (.Name "enumerate" p) [e] [] pos) (iEnumT X.K ta) := by
  refine ⟨fun pins s σ H R I h => ?_⟩
  refine Call_ (ld_blt I hg hm boot_enumerate (PyProof.Rows.callWith_type1 (thn (ha.run pos pins s σ H _ I h) fun us s1 ⟨vs, H1, I1, r1, q1⟩ => ?_) hs rfl))
  obtain ⟨a, xs, ex, hq, q⟩ := q1
  subst ex
  cases r1 with
  | cons r rr =>
    cases rr
    cases r
    obtain ⟨its, rv, p', hz⟩ := I1.tuple hq
    refine call_enumerate_tuple (show s1.heap.IsTuple a its.toArray from p') fun h' he hit hsz hk => wpAny_pyIter_enum he ?_
    have I2 : Inv X pins σ H1 { s1 with heap := h' } := I1.kept (t' := s1.toks) hk
    refine ⟨s1.heap.objs.size + 1, [s1.heap.objs.size + 1, s1.heap.objs.size], _, _, H1, rfl, I2, turn_enumT a (s1.heap.objs.size + 1) s1.heap.objs.size, ⟨⟨.none, he⟩, hit, Nat.succ_ne_self _⟩, fun b hb => ?_, q⟩
    have e' : b = s1.heap.objs.size + 1 ∨ b = s1.heap.objs.size := by simpa using hb
    have hle : s1.heap.objs.size ≤ b := by
      rcases e' with z | z
      · rw [z]; exact Nat.le_add_right _ _
      · rw [z]; exact Nat.le_refl _
    exact I1.fpOk hle (I1.hok.fresh hle)
/-- for i, x in enumerate(tuple) -/
theorem for_enumT {K : PySem.W.Frag} {a : Addr} {xs : List V} {g : TG} {tb : TS} {D : Ends} {σ : L2.St} {H : Hp} (Pv : Nat → L2.St → Hp → Prop) (h0 : Pv 0 σ H) (hl : ∀ i σ H, i ≤ xs.length → Pv i σ H → SqT K H a xs)
    (hs : ∀ i x σ H T, xs[i]? = some x → Pv i σ H → H T = none → g (.ref T) σ (upd H T (.tup [.int (i : Nat), x])) fun σ2 H2 => tb { D with nx := Pv (i + 1), ct := Pv (i + 1), bk := D.nx } σ2 H2) (hd : ∀ σ H, Pv xs.length σ H → D.nx σ H) :
    ∃ W : Nat → Nat → L2.St → Hp → Prop, (∃ m, W 0 m σ H) ∧ ∀ i m σ H, W i m σ H →
      ((IteT K a).stop i H ∧ D.nx σ H) ∨ ((IteT K a).go i H ∧ ∃ N : L2.St → Hp → Prop, (∀ σ' H', N σ' H' → ∃ m', m' < m ∧ W (i + 1) m' σ' H') ∧ ∀ x H', (IteT K a).yld i H x H' → g x σ H' fun σ2 H2 => tb { D with nx := N, ct := N, bk := D.nx } σ2 H2) := by
  refine ⟨fun i m σ H => m = xs.length - i ∧ i ≤ xs.length ∧ Pv i σ H, ⟨xs.length, by simp, Nat.zero_le _, h0⟩, ?_⟩
  rintro i m σ H ⟨rfl, hi, p⟩
  have q := hl i σ H hi p
  by_cases hlt : i < xs.length
  · refine .inr ⟨⟨xs, xs[i], q, by simp [hlt]⟩, Pv (i + 1), fun σ' H' p' => ⟨xs.length - (i + 1), by omega, rfl, hlt, p'⟩, fun x H' y => ?_⟩
    obtain ⟨T, x, rfl, hT, rfl, y⟩ := y
    exact hs i x σ H T (y xs q) p hT
  · have e : i = xs.length := by omega
    subst e
    exact .inl ⟨⟨xs, q, Nat.le_refl _⟩, hd σ H p⟩
end My
set_option Elab.async false
set_option linter.all false
set_option maxRecDepth 100000
set_option maxHeartbeats 4000000
set_option Elab.async false
set_option linter.all false
set_option maxRecDepth 100000
set_option maxHeartbeats 4000000
namespace My
open PySem PySem.Spec PyProof.Rows L2
structure FnG (P : Program) (w : World) (K : PySem.W.Frag) (mg : Str → Option Value) (base : Heap) (CX : CXT) (k : Nat) (f : Addr) (fd : FuncData) (ps : List Str) (sp : Sp) : Prop where
  len : ∀ vs H Q E, sp vs H Q E → vs.length = ps.length
  run : ∀ (A : Around) (outer : List Env) (s : Shared) (H : Hp) (args : Args) (us : List Value) (vs : List V) (Q : VK) (E : XK), A.guards = some [] → Room k A → Env0 P w K mg base A outer s H → BindsTo s fd args (ps.zip us) → Vals vs us → sp vs H Q E →
    codeAny (model P w) A (.call (.ref f) args) (CR CX outer P w H s Q E) s
theorem okG {P : Program} {w : World} {K : PySem.W.Frag} {mg : Str → Option Value} {base : Heap} {x qual : Str} {st : Stmt} {f : Addr} {fd : FuncData} {N ps : List Str} {k : Nat} {sp : Sp} (F : Fun K x qual st f fd) (S : FnScope N ps (defScope st)) (len : ∀ vs H Q E, sp vs H Q E → vs.length = ps.length)
    (body : ∀ (cdv : Value) (A : Around) (outer : List Env) (s : Shared) (H : Hp) (vs : List V) (Q : VK) (E : XK), A.guards = some [] → Room k (A.deeper (envOfC qual (defScope st) s.heap.objs.size f cdv)) → sp vs H Q E →
      ∃ t, PSs (cxOf CX0 P w K mg base N qual (defScope st) f cdv A outer s H E).nox (defBody st) t ∧ t { nx := fun _ H' => Q .non H', rt := Q } (start N vs) H) : FnG P w K mg base CX0 (k + 1) f fd ps sp := by
  obtain ⟨oc, od, kV, doc, pm, an, cdv, ct, osl, rfl, lk, hcd⟩ := F.ex
  refine ⟨len, fun A outer s H args us vs Q E gd room e0 bnd rv hs => ?_⟩
  have n := len _ _ _ _ hs
  have inK : K.In s.heap := e0.mod.kin.keeps fun b o e => (e0.bs b o e).1
  have nol : s.heap.NoLimit := e0.mod.nolimit.keeps fun b o e => (e0.bs b o e).1
  have kinds : ∀ y ∈ ps.zip us, (defScope st).names.lookup y.1 = some .local ∨ ((defScope st).names.lookup y.1 = some .cell ∧ ((cellsFrom (s.heap.objs.size + 1) (defScope st).names []).lookup y.1).isSome = true) := by
    rintro ⟨y, v⟩ hy
    exact (S.par y (List.of_mem_zip hy).1).elim .inl fun q => .inr ⟨q, PySem.W.cellsFrom_some _ _ _ (.inl q)⟩
  refine codeAny_call_function room.depth (inK _ _ lk) rfl S.co S.gen rfl (PySem.W.codeRec_of inK hcd) (bnd _ _ _ _ (wpAny_newFunctionEnv_cells S.kind kinds fun env he s1 x => ?_))
  subst he
  refine ⟨nol.keeps x.toInCall.keep, codeAny_func ?_⟩
  obtain ⟨t, ht, hq⟩ := body cdv A outer s H vs Q E gd (room.deeper _) hs
  refine wpAny_mono (ht.nox.run [] s1 (start N vs) H _ (inv_start S room.hd e0 n rv x) hq) (fun fl s' z => ?_) fun e s' z => z
  match fl, z with
  | .ret u, ⟨v, σ', H', J, ru, q⟩ => exact ⟨v, H', J.os, J.bare, J.base, J.hok, ru, q⟩
  | .next, ⟨σ', H', J, q⟩ => exact ⟨V.non, H', J.os, J.bare, J.base, J.hok, rfl, q⟩
  | .brk, ⟨_, _, _, q⟩ => exact q.elim
  | .cont, ⟨_, _, _, q⟩ => exact q.elim
theorem int_shown {i : Int} (h : i.natAbs < 10 ^ 70) : (PyData.shown (.int i)).length ≤ 71 := by
  show (Str.ofString (toString i)).length ≤ 71
  rw [PySem.ofString_length]
  exact int_text_length_le10 (k := 70) (by decide) h
theorem piled_le {B : Nat} : ∀ ts : List Str, (∀ t ∈ ts, t.length ≤ B) → piled ts ≤ ts.length * (B + 2)
  | [], _ => by simp [piled]
  | t :: r, h => by
    have h1 := h t (by simp)
    have h2 := piled_le r fun u hu => h u (by simp [hu])
    rw [piled_cons, List.length_cons, Nat.add_mul]
    omega
theorem from_le {B : Nat} : ∀ (ts : List Str) (k : Nat) (acc : Str), (∀ t ∈ ts, t.length ≤ B) → (textFrom k acc ts).length ≤ acc.length + ts.length * (B + 2)
  | [], k, acc, _ => by simp [textFrom]
  | t :: r, k, acc, h => by
    have h1 := h t (by simp)
    have h2 := from_le r (k + 1) (acc ++ (if k > 0 then ", " else "" : String) ++ t) fun u hu => h u (by simp [hu])
    have h3 : (Str.ofString (if k > 0 then ", " else "" : String)).length ≤ 2 := by split <;> decide
    rw [strLen_append, strLen_append] at h2
    rw [List.length_cons, Nat.add_mul]
    show (textFrom (k + 1) _ r).length ≤ _
    omega
theorem shownAll_map : ∀ xs : List Int, PyData.shownAll (xs.map PyData.int) = xs.map fun i => PyData.shown (.int i)
  | [] => by simp [PyData.shownAll]
  | x :: r => by simp [PyData.shownAll, shownAll_map r]
theorem tup_shown {xs : List Int} (h : ∀ i ∈ xs, i.natAbs < 10 ^ 70) (n : xs.length ≤ 1000) : (PyData.shown (.tuple (xs.map PyData.int))).length ≤ 94000 := by
  have e : PyData.shown (.tuple (xs.map PyData.int)) = tupleText (xs.map fun i => PyData.shown (.int i)) := by simp only [PyData.shown, shownAll_map]
  rw [e]
  unfold tupleText
  have hp := piled_le (B := 71) (xs.map fun i => PyData.shown (.int i)) fun t ht => by
    obtain ⟨i, hi, rfl⟩ := List.mem_map.mp ht
    exact int_shown (h i hi)
  rw [List.length_map] at hp
  have h3 : (Str.ofString (if (xs.map fun i => PyData.shown (.int i)).length == 1 then ",)" else ")" : String)).length ≤ 2 := by split <;> decide
  have hj : (Str.join ", " (xs.map fun i => PyData.shown (.int i))).length ≤ 93000 := by
    by_cases z : xs = []
    · subst z
      exact Nat.le_trans (Nat.le_of_eq (by rfl)) (Nat.zero_le _)
    · have := join_length_add (xs.map fun i => PyData.shown (.int i)) (by simpa using z)
      omega
  rw [strLen_append, strLen_append]
  have h1 : (Str.ofString "(").length = 1 := by decide
  have : (("(" : Str)).length = 1 := h1
  omega
theorem showAll_ints : ∀ xs : List Int, (∀ i ∈ xs, i.natAbs < 10 ^ 70) → PyData.showableAll (xs.map PyData.int) = true
  | [], _ => by simp [PyData.showableAll]
  | x :: r, h => by
    have e : (10 : Nat) ^ 70 ≤ 2 ^ 240 := by decide
    have h1 := Nat.lt_of_lt_of_le (h x (by simp)) e
    have h2 : x.natAbs.log2 < 1920 := Nat.lt_trans (PySem.Flt.log2_lt_of (k := 240) (by decide) h1) (by decide)
    simp only [List.map_cons, PyData.showableAll, PyData.showable, Bool.and_eq_true, decide_eq_true_eq]
    exact ⟨h2, showAll_ints r fun i hi => h i (by simp [hi])⟩
theorem noDict_ints : ∀ xs : List Int, PyData.hasDictAll (xs.map PyData.int) = false
  | [] => by simp [PyData.hasDictAll]
  | x :: r => by simp [PyData.hasDictAll, PyData.hasDict, noDict_ints r]
section
variable {prog : Program} {w : World} {A : Around} {E : Value → Shared → Prop} {s : Shared} {K : PySem.W.Frag} {x C f : Addr} {ox : Obj} {od : Option Obj} {b : Value}
theorem ne_entry {Q : Fin → Shared → Prop} (hu : A.units < cLine) (inK : K.In s.heap) (I : PySem.W.InstAt s.heap x ox C od) (hs : PySem.W.findIn K (.ref C) "__eq__" = some (some (.ref f))) (hf : PySem.W.isFn K (.ref f) = true)
    (h : wpAny (model prog w) A (call (.ref f) [.ref x, b]) (fun v s' => ∃ c, v = .bool c ∧ Q (.done (.ret (.bool (!c)))) s') E s) : wpAny (model prog w) A (Builtin.«object.__ne__» ⟨[.ref x, b], []⟩) Q E s := by
  show wpAny _ _ (do cRoomFor "comparison" [.ref x, b]; match ← callSpecialIfBound? (.ref x) "__eq__" [b] with | some .notImplemented | none => ret .notImplemented | some r => ret (.bool (!(← truthy r)))) _ _ s
  refine wpAny_bind (wpAny_cRoomFor hu ?_)
  refine wpAny_bind (PySem.W.ifBound_K inK I hs hf (wpAny_mono h (fun v s' z => ?_) fun _ _ e => e))
  obtain ⟨c, rfl, q⟩ := z
  show wpAny _ _ (truthy (.bool c) >>= fun t => ret (.bool (!t))) _ _ s'
  exact wpAny_bind (wpAny_truthy_bool (wpAny_pure q))
theorem ne_bound {args : List Value} {Q : Option Value → Shared → Prop} {M : Model} (inK : K.In s.heap) (I : PySem.W.InstAt s.heap x ox C od) (hn : PySem.W.findIn K (.ref C) "__ne__" = some (some (.builtin "object.__ne__")))
    (h : wpAny M A (call (.builtin "object.__ne__") (.ref x :: args)) (fun v => Q (some v)) E s) : wpAny M A (callSpecialIfBound? (.ref x) "__ne__" args) Q E s := by
  simp only [callSpecialIfBound?, bindSpecialIfBound?]
  refine wpAny_holding (wpAny_bind (wpAny_bind (wpAny_bind (I.type.here ((PySem.W.looks_findIn inK hn).here ?_)))))
  refine wpAny_bind (wpAny_askSetting (wpAny_ite ?_))
  have last : wpAny M A (call (.builtin "object.__ne__") ([.ref x] ++ args) >>= fun v => pure (some v)) Q E s := wpAny_bind (wpAny_mono h (fun v s' q => wpAny_pure q) fun _ _ q => q)
  split
  · exact wpAny_bind (wpAny_of_eq (F.cmp_object.ne.bind _) (wpAny_pure (by exact last)))
  · exact wpAny_tryCatch (wpAny_bind (wpAny_of_eq (F.cmp_object.ne.bind _) (wpAny_pure (by exact last))))
theorem rc_ne {Q : Value → Shared → Prop} (hu : A.units + 1 < cLine) (inK : K.In s.heap) (I : PySem.W.InstAt s.heap x ox C od) (hb : PySem.W.Looks (model prog w) s.heap (typeOf b) (.ref C)) (hm : PySem.W.mroIn K C (.type "object") = some true)
    (hs : PySem.W.findIn K (.ref C) "__eq__" = some (some (.ref f))) (hf : PySem.W.isFn K (.ref f) = true) (hn : PySem.W.findIn K (.ref C) "__ne__" = some (some (.builtin "object.__ne__")))
    (h : wpAny (model prog w) A.in1 (call (.ref f) [.ref x, b]) (fun v s' => ∃ c, v = .bool c ∧ Q (.bool (!c)) s') E s) : wpAny (model prog w) A (richCompare .NotEq (.ref x) b) Q E s := by
  have one : wpAny (model prog w) A (tryCompare (.ref x) "__ne__" b) (fun r s' => ∃ v, r = some v ∧ Q v s') E s := by
    unfold tryCompare
    refine wpAny_bind (ne_bound inK I hn (wpAny_call (codeAny_call_builtin F.cmp_object.ne.plain F.cmpEntry_ne (PySem.W.check_slot F.cmpKind_ne F.cmpSplit_ne (I.type.andThen (PySem.W.looks_mroIn inK hm)) (F.cmpArgs_ne _ _)
      (ne_entry (A := A.in1) (by show A.units + 1 < cLine; exact hu) inK I hs hf (wpAny_mono h (fun v s' z => ?_) fun e s' z => ?_))))))
    · obtain ⟨c, e, q⟩ := z
      exact ⟨c, e, wpAny_pure ⟨_, rfl, q⟩⟩
    · exact z
  unfold richCompare
  simp only [oneThing_ref]
  refine wpAny_holding (wpAny_bind (wpAny_cRoomFor (by omega) ?_))
  refine wpAny_bind (I.type.here (wpAny_bind (hb.here ?_)))
  split
  · rename_i q
    exact absurd q (by simp)
  · refine wpAny_bind (wpAny_pure ?_)
    simp only [Bool.false_eq_true, if_false]
    refine wpAny_bind (wpAny_mono one (fun r s' z => ?_) fun _ _ e => e)
    obtain ⟨v, rfl, q⟩ := z
    exact wpAny_pure q
end
section
variable {X : Cx} {CX : CXT} {n : Nat} {C g : Addr} {sp : Sp} {E : XK}
structure NeO (K : PySem.W.Frag) (C g : Addr) : Prop where
  eq : PySem.W.findIn K (.ref C) "__eq__" = some (some (.ref g))
  fn : PySem.W.isFn K (.ref g) = true
  ne : PySem.W.findIn K (.ref C) "__ne__" = some (some (.builtin "object.__ne__"))
  ob : PySem.W.mroIn K C (.type "object") = some true
def rNeO (C : Addr) (sp : Sp) (E : XK) : R2 := fun x y H Q => ∃ a b dx dy fs gs, x = .ref a ∧ y = .ref b ∧ H a = some (.ins C dx fs) ∧ H b = some (.ins C dy gs) ∧ sp [x, y] H (fun z H' => ∃ c, z = .bl c ∧ Q (.bl (!c)) H') E
theorem op_neO (R : NeO X.K C g) (F : FnR X.prog X.w X.K X.mg X.base CX n g sp) (hr : Room (n + 1) X.A) (hx : Passes CX X E) : OpR X (compareOp .NotEq) (rNeO C sp E) := by
  intro pins s σ H x y v u Q I rx ry h
  obtain ⟨a, b, dx, dy, fs, gs, rfl, rfl, ha, hb, q⟩ := h
  cases (show v = Value.ref a from rx)
  cases (show u = Value.ref b from ry)
  obtain ⟨mA, O, _⟩ := ins_get I.hok ha
  obtain ⟨od, J, _⟩ := O.look
  obtain ⟨mB, OB, _⟩ := ins_get I.hok hb
  obtain ⟨ob, JB, _⟩ := OB.look
  show wpAny _ _ (richCompare .NotEq (.ref a) (.ref b)) _ _ _
  refine rc_ne (by have := hr.un; omega) I.kIn J JB.type R.ob R.eq R.fn R.ne (wpAny_mono (wpAny_call (SlX.run_at (us := [.ref a, .ref b]) (ws := [.ref a, .ref b]) F hr.in1 I.env0.in1 hx I (.cons rfl (.cons rfl .nil)) q)) (fun z s' k => ?_) fun _ _ e => e)
  obtain ⟨z', H', I', rz, c, ez, qz⟩ := k
  subst ez
  cases (show z = Value.bool c from rz)
  exact ⟨c, rfl, .bl (!c), H', I', rfl, qz⟩
end
end My
set_option Elab.async false
set_option linter.all false
set_option maxRecDepth 100000
set_option maxHeartbeats 4000000
namespace My
open PySem PySem.Spec PyProof.Rows L2
/-- an error's object: of which class it is, where its own dict lies -/
def ErrO (a : Addr) (cls : Value) (d : Option Addr) : HO := .ext fun h => ∃ oe vs, h.get? a = some oe ∧ Zc cls d oe ∧ oe.data = .fields vs
section
variable {X : Cx} {pins : List (Addr × Obj)} {σ : L2.St} {H : Hp} {s : Shared}
/-- an error that no one tracked is tracked from now on -/
theorem inv_err {a : Addr} {cls : Value} {d : Option Addr} {oe : Obj} {vs : Array Value} (I : Inv X ((a, oe) :: pins) σ H s) (hz : Zc cls d oe) (hd : oe.data = .fields vs) (n0 : ∀ o, X.s_0.heap.get? a ≠ some o)
    (np : ∀ p ∈ X.pn ++ pins, p.1 ≠ a) : H a = none ∧ Inv X pins σ (upd H a (ErrO a cls d)) s := by
  obtain ⟨ga, na, nL, nF, ncell⟩ := I.pin (a, oe) (List.mem_append_right _ List.mem_cons_self)
  have old : ∀ b o, X.s_0.heap.get? b = some o → b ≠ a := fun b o e z => n0 o (z ▸ e)
  have free' : ∀ b, b ≠ a → H b = none → upd H a (ErrO a cls d) b = none := fun b z e => (upd_ne z).trans e
  have some' : ∀ b u, H b = some u → upd H a (ErrO a cls d) b = some u := fun b u e => (upd_ne (ne_of_none e na)).trans e
  refine ⟨na, I.ok, I.os, I.bare, ⟨I.base.keep, I.base.slot, ?_, I.base.there, ?_, ?_, ?_⟩, I.loc, I.cell, free' _ (Ne.symm nL) I.free, ?_, ?_, ?_, I.len⟩
  · exact fun b o e n x => free' b (old b o e) (I.base.free b o e n x)
  · exact fun b xs e => some' b _ (I.base.tups b xs e)
  · exact fun b o u e => some' b _ (I.base.frzs b o u e)
  · intro b ps e
    obtain ⟨more, e1⟩ := I.base.tbls b ps e
    exact ⟨more, some' b _ e1⟩
  · intro y c e
    refine free' c (fun z => ?_) (I.freeC y c e)
    obtain ⟨v, o, ho, hc⟩ := I.cell y c e
    rw [z] at ho
    exact ncell v ((Option.some.inj (ho.symm.trans ga)) ▸ hc)
  · intro p hp
    have hp' : p ∈ X.pn ++ (a, oe) :: pins := (List.mem_append.mp hp).elim (fun z => List.mem_append_left _ z) fun z => List.mem_append_right _ (List.mem_cons_of_mem _ z)
    obtain ⟨k1, k2, k3⟩ := I.pin p hp'
    exact ⟨k1, free' _ (np p hp) k2, k3⟩
  · intro b u e
    by_cases z : b = a
    · subst z
      rw [upd_same] at e
      cases e
      refine ⟨⟨oe, vs, ga, hz, hd⟩, ⟨oe, ga⟩, fun h1 h2 ⟨o, ws, q1, q2, q3⟩ st => ⟨o, ws, st _ q1, q2, q3⟩⟩
    · rw [upd_ne z] at e
      exact (I.hok b u e).stay (fun _ _ _ q => q) (fun c q => some' c _ q) fun c xs q => some' c _ q
/-- out of the clause: the error is pinned, no more the clause's -/
theorem inv_out {a : Addr} {oe : Obj} (I : Inv (X.suite a ((a, oe) :: (X.pn ++ pins))) [] σ H s) (ok : X.Ok) : Inv X ((a, oe) :: pins) σ H s := by
  refine ⟨ok, I.os, I.bare, I.base, I.loc, I.cell, I.free, I.freeC, fun p hp => I.pin p ?_, I.hok, I.len⟩
  rw [List.append_nil]
  rcases List.mem_append.mp hp with z | z
  · exact List.mem_cons_of_mem _ (List.mem_append_left _ z)
  · rcases List.mem_cons.mp z with z | z
    · exact z ▸ List.mem_cons_self
    · exact List.mem_cons_of_mem _ (List.mem_append_right _ z)
/-- what the clause wishes of an error: it is one of the clause's, and the clause goes on to what follows, the error known behind it -/
def wKeep (K : PySem.W.Frag) (c : Value) (i : Nat) (ts : Addr → Value → Option Addr → TS) (D : Ends) : WX := fun cls d σ H =>
  PySem.W.exmOne K cls c = some true ∧ ∀ a, H a = none → ts a cls d { nx := fun σ' H' => H' a = none → D.nx (σ'.set i none) (upd H' a (ErrO a cls d)), rt := fun _ _ => False, bk := fun _ _ => False, ct := fun _ _ => False } (σ.set i (some (.ref a))) H
end
section
variable {X : Cx} {x n : Str} {c : Value} {i : Nat} {body suite : List Stmt} {b₀ : Stmt} {np pos pos' : Pos} {tb : WX → TS} {ts : Addr → Value → Option Addr → TS}
/-- the clause, entered with an error in the air -/
theorem clause_keep (hs : X.stack = X.env :: X.outer) (hf : X.env.frame = some X.env.locals) (hex : X.ex = []) (hN : X.N.Nodup) (hi : X.N[i]? = some n) (hln : X.env.kindOf n = some .local) (hc : Names X x c)
    (hsu : ∀ (a : Addr) (oe : Obj) (cls : Value) (d : Option Addr) (pn : List (Addr × Obj)), Zc cls d oe → (∃ vs, oe.data = .fields vs) → PSs (X.suite a ((a, oe) :: pn)) (b₀ :: suite) (ts a cls d))
    {pins : List (Addr × Obj)} {D : Ends} {xe : Value → Shared → Prop} {u : Value} {s' : Shared} (ok : X.Ok) (air : XE (X.tr (X.pn ++ pins) xe) (wKeep X.K c i ts D) u s') :
    wpAny (model X.prog X.w) X.A (noteFrame u X.env) (fun _ s₂ => wpAny (model X.prog X.w) X.A (setFlight u none) (fun _ s₃ =>
      wpAny (model X.prog X.w) X.A (handleBy u X.env [.ExceptHandler (some (.Name x np)) (some n) (b₀ :: suite) pos']) (SP X pins D) X.xe s₃) X.xe s₂) X.xe s' := by
  obtain ⟨a, B, sI, pins', σ', H', cls, d, rfl, J', nb, up, sky, na, os, ag, hb1, yes⟩ := air
  have J : Inv X pins σ' H' sI := J'.ofTry ok
  have hfr : X.A.frames = some (X.env :: X.outer) := by rw [ok.frames, hs]
  have inFr : ∀ b, b ∈ frs (X.env :: X.outer) → b ∈ frs X.stack := fun b z => by rw [hs]; exact z
  have frIn : ∀ b, b ∈ frs X.stack → b ∈ frs (X.env :: X.outer) := fun b z => by rw [hs] at z; exact z
  have fInS : ∀ b, b ∈ X.fs → b ∈ frs X.stack := fun b z => inFr b (by
    obtain ⟨e, he, q⟩ := List.mem_filterMap.mp z
    exact List.mem_filterMap.mpr ⟨e, List.mem_cons_of_mem _ he, q⟩)
  have lInS : X.env.locals ∈ frs X.stack := inFr _ (List.mem_filterMap.mpr ⟨X.env, List.mem_cons_self, hf⟩)
  refine Sky.land Zc.steady hfr hf (show Sky B (X.env :: X.outer) a (Zc cls d) X.env.locals s'.heap by rw [← hs]; exact sky) fun h3 fl3 up3 => ?_
  obtain ⟨hB3, hBa, hFF3, oe3, vs3, T3, oT3, ts3, he3, hz3, hd3, _⟩ := id fl3
  -- the error is no frame
  have nfr : a ∉ frs X.stack := fun hm => by
    obtain ⟨_, o', e', hnf⟩ := hFF3.mem (frIn a hm)
    rw [he3] at e'
    cases e'
    exact hnf _ hd3
  have nL : a ≠ X.env.locals := fun z => nfr (z ▸ lInS)
  have nF : a ∉ X.fs := fun z => nfr (fInS a z)
  -- it is new: neither pinned nor there when the def began
  have notB : ∀ b o, B.get? b = some o → b ≠ a := fun b o e z => by
    rw [z, hBa] at e
    cases e
  have n0 : ∀ o, X.s_0.heap.get? a ≠ some o := fun o e => by
    obtain ⟨o', e1⟩ := J.base.there a o e (by rw [hex]; simp)
    exact notB a o' (nb a o' e1 nfr) rfl
  have npn : ∀ p ∈ X.pn ++ pins, p.1 ≠ a := fun p hp => by
    have hp' : p ∈ (X.tr (X.pn ++ pins) xe).pn ++ pins' := List.mem_append_left _ hp
    obtain ⟨k1, _, k3, k4, _⟩ := J'.pin p hp'
    exact notB _ _ (nb p.1 p.2 k1 fun hm => by
      rcases List.mem_cons.mp (J.stkSub _ hm) with z | z
      · exact k3 z
      · exact k4 z)
  have Jp : Inv X pins σ' H' sI := J'.ofTry ok
  have J3 : Inv X pins σ' H' { s' with heap := h3 } := Jp.landed nb fl3.1 (up.trans up3) os ag
  have S3 := J3.suite he3 hd3 na nL nF
  refine wpAny_handleBy_cons (codeAny_handlers_test ?_) (by intro q; cases q)
  have LT : PySem.W.Looks (model X.prog X.w) h3 (typeOf (.ref a)) cls := fun A Q E s k q => wpAny_typeOf_ref (k _ _ he3) (by rw [hz3.1]; exact q)
  have LM := PySem.W.exm_one (M := model X.prog X.w) J3.kIn LT hb1
  have named : ∀ {Q : Value → Shared → Prop} {E : Value → Shared → Prop}, Q c { s' with heap := h3 } → wpAny (model X.prog X.w) (X.A.mark (some (.ref a))) (eval (.Name x np) X.env) Q E { s' with heap := h3 } := fun {Q E} q => by
    obtain ⟨hg, hdbg, hm⟩ := hc
    rcases hm with hm | ⟨hm, hv, hnn⟩
    · exact ld_glob (X := X.suite a ((a, oe3) :: (X.pn ++ pins))) S3 hg hm q hdbg
    · exact ld_blt (X := X.suite a ((a, oe3) :: (X.pn ++ pins))) S3 hg hm hv q hnn hdbg
  refine named (LM.here (codeAny_handlers_suite_as (HandSPX.lands_againZ fl3 fun h4 fl4 up4 => ?_)))
  obtain ⟨_, _, _, oe4, vs4, _, _, _, he4, hz4, hd4, _⟩ := id fl4
  have J4 : Inv X pins σ' H' { s' with heap := h4 } := Jp.landed nb fl4.1 ((up.trans up3).trans up4) os ag
  have S4 := J4.suite he4 hd4 na nL nF
  refine store_ok (X := X.suite a ((a, oe4) :: (X.pn ++ pins))) (v := .ref a) S4 hN hi (.inl hln) rfl (fun s5 S5 => ?_) (.inr hln)
  refine wpAny_mono ((hsu a oe4 cls d (X.pn ++ pins) hz4 ⟨_, hd4⟩).run [] s5 _ H' _ S5 (yes a na)) (fun f s6 hsp => ?_) (fun _ _ z => False.elim z)
  cases f with
  | next =>
    obtain ⟨σ6, H6, S6, q6⟩ := hsp
    refine gone_ok (inv_out S6 ok) hN hi hln fun s7 J7 => ?_
    obtain ⟨na6, J8⟩ := inv_err J7 hz4 hd4 n0 npn
    exact ⟨_, _, J8, q6 na6⟩
  | brk =>
    obtain ⟨_, _, _, q6⟩ := hsp
    exact q6.elim
  | cont =>
    obtain ⟨_, _, _, q6⟩ := hsp
    exact q6.elim
  | ret u =>
    obtain ⟨_, _, _, _, _, q6⟩ := hsp
    exact q6.elim
/-- try: body / except x as n: suite, the error known behind the clause -/
theorem ps_try_keep (hs : X.stack = X.env :: X.outer) (hf : X.env.frame = some X.env.locals) (hex : X.ex = []) (hN : X.N.Nodup) (hi : X.N[i]? = some n) (hln : X.env.kindOf n = some .local) (hc : Names X x c)
    (hb : ∀ (W : WX) (pn : List (Addr × Obj)) (xe : Value → Shared → Prop), Takes (X.tr pn xe) W → PassesOwn (model X.prog X.w) X.A X.env xe → PSs (X.tr pn xe) body (tb W))
    (hsu : ∀ (a : Addr) (oe : Obj) (cls : Value) (d : Option Addr) (pn : List (Addr × Obj)), Zc cls d oe → (∃ vs, oe.data = .fields vs) → PSs (X.suite a ((a, oe) :: pn)) (b₀ :: suite) (ts a cls d)) :
    PS X (.Try body [.ExceptHandler (some (.Name x np)) (some n) (b₀ :: suite) pos'] [] [] pos) (fun D σ H => tb (wKeep X.K c i ts D) D σ H) := by
  refine ⟨fun pins s σ H D I h => wpAny_Try_except ?_⟩
  have run := (hb (wKeep X.K c i ts D) (X.pn ++ pins) _ (fun u s' air => clause_keep (pos' := pos') (np := np) hs hf hex hN hi hln hc hsu I.ok air) PassesOwn.looking).run [] s σ H D (I.toTry _) h
  refine wpAny_mono run (fun f s1 hsp => ?_) fun _ _ he => he
  cases f with
  | ret u =>
    obtain ⟨v, σ1, H1, J, r, q⟩ := hsp
    exact ⟨v, σ1, H1, J.ofTry I.ok, r, q⟩
  | brk =>
    obtain ⟨σ1, H1, J, q⟩ := hsp
    exact ⟨σ1, H1, J.ofTry I.ok, q⟩
  | cont =>
    obtain ⟨σ1, H1, J, q⟩ := hsp
    exact ⟨σ1, H1, J.ofTry I.ok, q⟩
  | next =>
    obtain ⟨σ1, H1, J, q⟩ := hsp
    exact wpAny_execs_nil ⟨σ1, H1, J.ofTry I.ok, q⟩
end
end My
set_option Elab.async false
set_option linter.all false
set_option maxRecDepth 100000
set_option maxHeartbeats 4000000
namespace My
open PySem PySem.Spec PyProof.Rows L2
/-- a kept error of the class at C, its own dict at d with these fields -/
structure Kept (H : Hp) (a C d : Addr) (fs : List (Str × V)) : Prop where
  er : H a = some (ErrO a (.ref C) (some d))
  di : H d = some (.xd fs)
theorem Kept.same {H H' : Hp} {a C d : Addr} {fs : List (Str × V)} (k : Kept H a C d fs) (s : Same H H') : Kept H' a C d fs := ⟨s _ _ k.er, s _ _ k.di⟩
section
variable {X : Cx} {pins : List (Addr × Obj)} {σ : L2.St} {H : Hp} {s : Shared} {a C d : Addr} {fs : List (Str × V)}
theorem Kept.inst (k : Kept H a C d fs) (I : Inv X pins σ H s) : ∃ oe od mA, PySem.W.InstAt s.heap a oe C (some od) ∧ (∀ n, RelO (fs.lookup n) (mA n)) ∧ s.heap.Ns1 d mA ∧ (∀ n : Str, PySem.W.lookIn n od = some (mA n)) := by
  obtain ⟨⟨oe, vs, ga, hz, hd⟩, _, _⟩ := I.hok a _ k.er
  obtain ⟨mA, hns, hr⟩ := (show ObjOk X.prog X.w H s.heap d (.xd fs) from I.hok d _ k.di)
  obtain ⟨od, ho, hl⟩ := lookIn_ns hns
  exact ⟨oe, od, mA, ⟨ga, hz.1, by unfold PySem.W.notCls; rw [hd] <;> rfl, by rw [hz.2]; exact ho⟩, hr, hns, fun n => hl n⟩
end
theorem kitx_err {K : PySem.W.Frag} {a D : Addr} (Z : ExcC K D) : PySem.W.KitX K (.ref a) (.ref D) (fun h => ∃ ox od, PySem.W.InstAt h a ox D od) where
  ty := fun _ _ _ ⟨_, _, I⟩ => I.type
  it := fun _ _ X _ A Q E s k q => by
    obtain ⟨cd, hc, _⟩ := PySem.W.any_some Z.hd
    unfold PySem.W.clsIn at hc
    split at hc
    · rename_i ho
      unfold isType loadHead
      exact wpAny_bind (wpAny_loadPart (k _ _ (X _ _ ho)) (wpAny_pure q))
    · cases hc
  ne := fun h tp dd its n sl X htp => Bool.eq_false_iff.mpr fun q => by
    obtain ⟨cd, hc, _⟩ := PySem.W.any_some Z.hd
    have e : D = tp := Value.ref.inj (beq_iff_eq.mp q)
    subst e
    unfold PySem.W.clsIn at hc
    split at hc
    · rename_i ho
      cases (X _ _ ho).symm.trans htp
    · cases hc
  ca := fun X ⟨_, _, I⟩ k => PySem.W.kx_classE X I Z.hg Z.hk Z.hs (PySem.W.findObj_dataE (by obtain ⟨cd, hc, _⟩ := PySem.W.any_some Z.hd; rw [hc]; rfl) Z.ha Z.hn Z.ht) Z.hm k
section
variable {X : Cx}
/-- isinstance(e, c), e a kept error -/
def rIsK (K : PySem.W.Frag) : List V → Hp → VK → Prop := fun xs H Q => ∃ (a C d : Addr) (fs : List (Str × V)) (c : V) (cv : Value) (b : Bool), xs = [.ref a, c] ∧ Kept H a C d fs ∧ ExcC K C ∧ (∀ u, RelV c u → u = cv) ∧ PySem.W.kitOne K (.ref C) cv = some b ∧ Q (.bl b) H
theorem call_isK : CallR X (.builtin "isinstance") (rIsK X.K) := by
  intro pins s σ H xs us Q I r h
  obtain ⟨a, C, d, fs, c, cv, b, rfl, ke, Z, hcv, e, q⟩ := h
  cases r with
  | cons rx rr =>
    cases rr with
    | cons rt rr =>
      cases rr
      cases rx
      have ec := hcv _ rt
      subst ec
      obtain ⟨oe, od, _, J, _⟩ := ke.inst I
      exact PySem.W.kia_one (kitx_err Z) I.kIn ⟨oe, some od, J⟩ e (fun z => nomatch z) fun tk => ⟨.bl b, H, I.kept (t' := tk) fun _ _ z => z, rfl, q⟩
/-- e.f, e a kept error -/
def tKf (K : PySem.W.Frag) (f : Str) (te : TE) : TE := fun σ H Q => te σ H fun x H1 => ∃ (a C d : Addr) (fs : List (Str × V)) (v : V), x = .ref a ∧ Kept H1 a C d fs ∧ XfC K C ∧ PySem.W.findIn K (.ref C) f = some none ∧ fs.lookup f = some v ∧ Q v H1
theorem pe_kf {e : Expr} {te : TE} {pos : Pos} {n : Str} (he : PE X e te) (hb : attributeBase e n X.env (eval e X.env) = eval e X.env := by rfl) : PE X (.Attribute e n pos) (tKf X.K n te) := by
  refine ⟨fun pins s σ H Q I h => ?_⟩
  refine attr_of hb (thn (he.run pins s σ H _ I h) fun u s1 hh => ?_)
  obtain ⟨x, H1, I1, rx, a, C, d, fs, v, ex, ke, T, hno, l, q⟩ := hh
  subst ex
  obtain rfl : u = Value.ref a := rx
  obtain ⟨oe, od, mA, J, hr, _, hl⟩ := ke.inst I1
  obtain ⟨u, hu, ru⟩ := RelO.some_of (v := v) (o := mA n) (by rw [← l]; exact hr n)
  exact HandSPX.exc_get I1.kIn J T.ga T.gg T.exC (PySem.W.findObj_own T.hdC hno rfl (by rw [hl, hu])) (handed_of ru) ⟨v, H1, I1.tok _, ru, q⟩
end
end My
set_option Elab.async false
set_option linter.all false
set_option maxRecDepth 100000
set_option maxHeartbeats 4000000
namespace My
open PySem PySem.Spec PyProof.Rows L2
/-- what the value holds, as data -/
def DpO (K : PySem.W.Frag) (H : Hp) (v : V) (d : PyData) : Prop := (Dp K H v d ∧ d.hasDict = false) ∨ ∃ a : Addr, v = .ref a ∧ H a = some (.dK []) ∧ d = .dict []
section
variable {X : Cx} {pins : List (Addr × Obj)} {σ : L2.St} {H : Hp} {s : Shared}
theorem empty_reads {a : Addr} (I : Inv X pins σ H s) (h : H a = some (.dK [])) : Reads s.heap (.ref a) (.dict []) [a] ∧ a ≠ sysModules := by
  obtain ⟨_, ns, vs, kv, o, es, ep, ho, hx, hd, _, hp, _⟩ := (show ObjOk X.prog X.w H s.heap a (.dK []) from I.hok a _ h)
  cases kv
  have e0 : es.toList = [] := by
    cases q : es.toList with
    | nil => rfl
    | cons y r =>
      rw [q] at hp
      cases hp
  refine ⟨?_, fun z => by rw [z] at ns; exact absurd ns (by decide)⟩
  have k : ReadsAll s.heap (es.toList.map (·.key)) (([] : List (PyData × PyData)).map (·.1)) [] := by rw [e0]; exact .nil
  have v : ReadsAll s.heap (es.toList.map (·.val)) (([] : List (PyData × PyData)).map (·.2)) [] := by rw [e0]; exact .nil
  exact Reads.dict ho hx.1 hd k v
def rReprO (K : PySem.W.Frag) : List V → Hp → VK → Prop := fun xs H Q => ∃ (x : V) (d : PyData), xs = [x] ∧ DpO K H x d ∧ d.showable = true ∧ d.depth ≤ 64 ∧ d.shown.length ≤ sizeLine ∧ Q (.str d.shown) H
theorem cr_reprO (gd : X.A.guards = some []) (hu : X.A.units + 70 < cLine) : CallR X (.builtin "repr") (rReprO X.K) := by
  intro pins s σ H xs us Q I r h
  obtain ⟨x, d, rfl, dp, sh, dep, sz, q⟩ := h
  obtain ⟨u, rfl, ru⟩ := r.one
  have fin : ∀ (a : Addr) (as : List Addr), Reads s.heap (.ref a) d as → (d.hasDict = true → sysModules ∉ as) → wpAny (model X.prog X.w) X.A (call (.builtin "repr") [.ref a]) (fun v s' => ∃ z H', Inv X pins σ H' s' ∧ RelV z v ∧ Q z H') X.xe s := fun a as rd hm =>
    repr_of_reads' rd sh hm gd (by omega) (fun _ _ e => e) (fun h' u tk hk => ⟨.str _, H, I.kept hk, ⟨_, rfl⟩, q⟩) sz
  rcases dp with ⟨dp, nd⟩ | ⟨a, rfl, ha, rfl⟩
  · obtain ⟨as, rd⟩ := Dp.reads I d x u dp ru
    cases dp with
    | non =>
      cases (show u = Value.none from ru)
      exact P.repr_of_none ⟨.str _, H, I.tok _, ⟨_, rfl⟩, q⟩
    | bl b =>
      cases (show u = Value.bool b from ru)
      refine P.repr_of_bool ⟨.str _, H, I.tok _, ⟨_, rfl⟩, ?_⟩
      cases b <;> exact q
    | int i =>
      obtain ⟨t, rfl⟩ := ru
      refine P.repr_of_int (by simpa only [PyData.showable, decide_eq_true_eq] using sh) ⟨.str _, H, I.tok _, ⟨_, rfl⟩, q⟩
    | str z =>
      obtain ⟨t, rfl⟩ := ru
      refine P.repr_of_str ⟨.str _, H, I.tok _, ⟨_, rfl⟩, ?_⟩ ?_
      · simpa only [PyData.shown] using q
      · simpa only [PyData.shown] using sz
    | lst h1 h2 =>
      cases (show u = Value.ref _ from ru)
      exact fin _ as rd (PyData.noDict_hsm nd)
    | tup h1 h2 =>
      cases (show u = Value.ref _ from ru)
      exact fin _ as rd (PyData.noDict_hsm nd)
  · cases (show u = Value.ref a from ru)
    obtain ⟨rd, na⟩ := empty_reads I ha
    exact fin a [a] rd fun _ hm => na (List.mem_singleton.mp hm).symm
end
end My
set_option Elab.async false
set_option linter.all false
set_option maxRecDepth 100000
set_option maxHeartbeats 4000000
set_option Elab.async false
set_option linter.all false
set_option maxRecDepth 100000
set_option maxHeartbeats 4000000
namespace My
open PySem PySem.Spec PyProof.Rows L2
abbrev tab0 : Obj := { cls := .none, data := .fields #[] }
/-- where the maker's code object lies, its table, which is empty -/
structure Maker (K : PySem.W.Frag) (h : Heap) (c P : Addr) : Prop where
  tab : h.get? P = some tab0
  out : K.lookup P = none
  code : PySem.W.CodeHd h c P
theorem callT {P : Program} {w : World} {K : PySem.W.Frag} {mg mb : Str → Option Value} {k : Nat} {fa a c Pt : Addr} {fd : FuncData} {x : Str} {sp : Sp} {s1 : Shared} {us : List Value} {ns : List Int}
    (inK : K.In s1.heap) (gl : s1.heap.Ns mainGlobals mg) (bi : s1.heap.Ns builtinsNs mb) (bb : ∀ x : Str, x ≠ "__name__" → mb x = bootBuiltins x) (nol : s1.heap.NoLimit) (gens : s1.gens = #[]) (mk : Maker K s1.heap c Pt)
    (bmod : ∃ (bm : Addr) (ob : Obj), mg "__builtins__" = some (.ref bm) ∧ bm ≠ builtinsNs ∧ s1.heap.get? bm = some ob ∧ ob.cls = .type "module" ∧ ob.dict = some builtinsNs ∧ ob.data = .plain)
    (scr : s1.heap.get? a = some { cls := .type "list", data := .seq us.toArray }) (iv : IntsAre us ns) (few : ns.length ≤ sizeLine) (room : Room k callerA)
    (F : ∀ base : Heap, K.In base → base.Ns mainGlobals mg → LamX.TabB base mg c Pt → FnG P w K mg base CX0 k fa fd [x] sp) (bnd : ∀ (s : Shared) (u : Value), BindsTo s fd ⟨[u], []⟩ [(x, u)])
    (hsp : ∀ H : Hp, H Pt = some (.tbl #[]) → SqL K H a (ns.map V.int) → sp [.ref a] H (fun v _ => v = .bl true) fun _ _ _ => False) :
    codeAny (model P w) callerA (.call (.ref fa) ⟨[.ref a], []⟩) (fun r s' => r = .ok (.ret (.bool true)) ∧ OldK s1.heap s'.heap ∧ s'.os = s1.os ∧ AllBare s'.gens) s1 := by
  have rv := vals_ints iv
  have cnt := iv.length
  have aP : a ≠ Pt := fun z => by
    have e := mk.tab
    rw [← z, scr] at e
    have d : Data.seq us.toArray 0 = Data.fields #[] := congrArg Obj.data (Option.some.inj e)
    cases d
  have main : ∀ H : Hp, H Pt = some (.tbl #[]) → (∀ b, H b = none ∨ b = Pt ∨ (b = a ∧ ∃ ob xs, H b = some (.frz ob (.lst xs)))) → SqL K H a (ns.map V.int) → HOk P w H s1.heap → (H a ≠ none → K.lookup a = none) →
      codeAny (model P w) callerA (.call (.ref fa) ⟨[.ref a], []⟩) (fun r s' => r = .ok (.ret (.bool true)) ∧ OldK s1.heap s'.heap ∧ s'.os = s1.os ∧ AllBare s'.gens) s1 := by
    intro H hP only seq ok off
    have free : ∀ {b : Addr}, b ≠ Pt → (b = a → H b = none) → H b = none := fun {b} n1 n2 => by
      rcases only b with z | z | ⟨z, _⟩
      · exact z
      · exact absurd z n1
      · exact n2 z
    have noSeq : ∀ {b : Addr} {o : Obj}, s1.heap.get? b = some o → (∀ xs n, o.data ≠ .seq xs n) → b ≠ Pt → H b = none := fun {b o} e d n => free n fun z => by
      rw [z, scr] at e
      cases e
      exact absurd rfl (d us.toArray 0)
    have noTab : ∀ {b : Addr} {o : Obj}, s1.heap.get? b = some o → o.data ≠ .fields #[] → b ≠ Pt := fun {b o} e d z => by
      rw [z, mk.tab] at e
      cases e
      exact d rfl
    have dict : ∀ {b : Addr} {o : Obj} {es : Array DictEntry} {ep : Nat}, s1.heap.get? b = some o → o.data = .dict es ep → H b = none := fun {b o es ep} e d =>
      noSeq e (fun xs n z => by rw [d] at z; cases z) (noTab e fun z => by rw [d] at z; cases z)
    have get : ∀ {b : Addr} {o : Obj}, s1.heap.get? b = some o → H b = none → (hidT s1.heap H).get? b = some o := fun e z => hidT_get e z
    have names : ∀ {b : Addr} {m : Str → Option Value}, s1.heap.Ns b m → (hidT s1.heap H).Ns b m := fun ⟨o, es, ep, e, d, q⟩ => ⟨o, es, ep, get e (dict e d), d, q⟩
    have inB : K.In (hidT s1.heap H) := fun b o e => get (inK b o e) (free (fun z => by rw [z, mk.out] at e; cases e) fun z => by
      subst z
      refine Classical.byContradiction fun y => ?_
      rw [off y] at e
      cases e)
    have md : Mod K mg (hidT s1.heap H) := ⟨inB, names gl, ⟨mb, names bi, bb⟩, let ⟨mc, q1, q2⟩ := nol; ⟨mc, names q1, q2⟩⟩
    have env : Env0 P w K mg (hidT s1.heap H) callerA [] s1 H := ⟨rfl, md, fun b o e => of_hidT e, Nat.le_of_eq (hidT_size _ _), trivial, fun b hb => absurd (show b ∈ ([] : List Addr) from hb) (by simp), ok, .of_eq gens⟩
    have TB : LamX.TabB (hidT s1.heap H) mg c Pt := by
      obtain ⟨og, eg, pg, g1, g2, _⟩ := id gl
      have gP : mainGlobals ≠ Pt := noTab g1 fun z => by rw [g2] at z; cases z
      refine ⟨?_, ?_, gP⟩
      · obtain ⟨oc, vs, file, tf, flags, tg, inF, text, tt, e1, e2, e3, e4, rest⟩ := mk.code
        have ne : oc.data ≠ .fields #[] := fun z => by
          rw [e3] at z
          cases z
          simp at e4
        exact ⟨oc, vs, file, tf, flags, tg, inF, text, tt, get e1 (noSeq e1 (fun xs n z => by rw [e3] at z; cases z) (noTab e1 ne)), e2, e3, e4, rest⟩
      · obtain ⟨bm, ob, b1, b2, b3, b4, b5, b6⟩ := bmod
        have n1 : bm ≠ Pt := noTab b3 fun z => by rw [b6] at z; cases z
        have n2 : bm ≠ mainGlobals := fun z => by
          rw [z, g1] at b3
          cases b3
          rw [g2] at b6
          cases b6
        exact ⟨bm, ob, b1, b2, n2, n1, get b3 (noSeq b3 (fun xs n z => by rw [b6] at z; cases z) n1), b4, b5, b6⟩
    have run := (F _ inB (names gl) TB).run callerA [] s1 H ⟨[.ref a], []⟩ [.ref a] [.ref a] _ _ rfl room env (bnd s1 (.ref a)) (.cons rfl .nil) (hsp H hP seq)
    refine codeAny_mono run fun r s' h => ?_
    match r, h with
    | .error e, h => exact h.elim
    | .ok .next, h => exact h.elim
    | .ok .brk, h => exact h.elim
    | .ok .cont, h => exact h.elim
    | .ok (.ret u), ⟨v, H', os, bare, un, ok', ru, q⟩ =>
      cases (show v = V.bl true from q)
      cases (show u = Value.bool true from ru)
      obtain ⟨more, g⟩ := un.tbls Pt #[] hP
      have grown : s'.heap.get? Pt = some { cls := .none, data := .fields (#[] ++ more) } := ok' Pt _ g
      have same : ∀ b o, b ≠ Pt → s1.heap.get? b = some o → s'.heap.get? b = some o := fun b o nb e => by
        rcases only b with z | z | ⟨_, ob, xs, z⟩
        · exact un.keep b o e z (by intro y; exact absurd (show b ∈ ([] : List Addr) from y) (by simp)) (by simp)
        · exact absurd z nb
        · obtain ⟨g1, _⟩ := ok b _ z
          obtain ⟨g2, _⟩ := ok' b _ (un.frzs b ob _ z)
          rw [e] at g1
          cases g1
          exact g2
      refine ⟨rfl, ⟨fun b o e => ?_, fun b o e => ?_⟩, os, bare⟩
      · by_cases z : b = Pt
        · subst z
          cases mk.tab.symm.trans e
          exact .inr (.inl ⟨(mk.code.tab mk.tab).isCodeTable, rfl, #[], more, rfl, grown⟩)
        · exact .inl (same b o z e)
      · by_cases z : b = Pt
        · subst z
          exact ⟨_, grown⟩
        · exact ⟨o, same b o z e⟩
  cases own : K.lookup a with
  | some o =>
    have e := inK a o own
    rw [scr] at e
    cases e
    refine main (fun b => if b = Pt then some (.tbl #[]) else none) (if_pos rfl) (fun b => ?_) (.inr ⟨_, us.toArray, _, own, rfl, rfl, rfl, by rw [List.size_toArray, cnt]; exact few, by simpa using rv⟩) (fun b u z => ?_) fun z => absurd (if_neg aP) z
    · by_cases y : b = Pt
      · exact .inr (.inl y)
      · exact .inl (if_neg y)
    · by_cases y : b = Pt
      · cases (if_pos y).symm.trans z
        subst y
        exact mk.tab
      · cases (if_neg y).symm.trans z
  | none =>
    refine main (fun b => if b = Pt then some (.tbl #[]) else if b = a then some (.frz { cls := .type "list", data := .seq us.toArray } (.lst (ns.map V.int))) else none) (if_pos rfl) (fun b => ?_) (.inl (.inr ⟨_, (if_neg aP).trans (if_pos rfl)⟩)) (fun b u z => ?_) fun _ => own
    · by_cases y : b = Pt
      · exact .inr (.inl y)
      · by_cases y2 : b = a
        · exact .inr (.inr ⟨y2, _, _, (if_neg y).trans (if_pos y2)⟩)
        · exact .inl ((if_neg y).trans (if_neg y2))
    · by_cases y : b = Pt
      · cases (if_pos y).symm.trans z
        subst y
        exact mk.tab
      · by_cases y2 : b = a
        · cases ((if_neg y).trans (if_pos y2)).symm.trans z
          subst y2
          exact ⟨scr, by rw [List.length_map]; exact few, us, _, rv, scr⟩
        · cases ((if_neg y).trans (if_neg y2)).symm.trans z
/-- the def x of the top's text: its code object, its table -/
def OwnT (K : PySem.W.Frag) (mg : Str → Option Value) (h : Heap) (x : Str) : Prop := ∀ (f c P : Addr) (o : Obj) (fd : FuncData) (e : Value) (dd : Option Addr) (vs : Array Value) (sl : Array (Option Value)), mg x = some (.ref f) → K.lookup f = some o → o.data = .func fd → fd.code = .ref c →
  K.lookup c = some ⟨e, dd, .fields vs, sl⟩ → vs[11]? = some (.ref P) → h.get? P = some tab0 ∧ PySem.W.CodeHd h c P
theorem walkT {l : PySem.W.OpenLaw} {n k : Nat} {q : Program} {loose : List Str} {XP : (Str → Option Value) → Heap → Prop} {YP : World → Heap → Prop} {d : DefRec} {K : Params → PySem.W.Frag} {sp : World → Addr → Sp} {x y : Str}
    (hn : l.most = some n) (few : n ≤ sizeLine) (hdf : d.params.defaults = []) (room : Room k callerA) (hY : ∀ (w : World) (h : Heap), YP w h → (K w.params).In h) (rec : ((recsOf q).any fun e => e.name == y) = true)
    (F : ∀ (w : World) (mg : Str → Option Value) (fa : Addr) (h : Heap), (K w.params).In h → h.Ns mainGlobals mg → mg d.name = some (.ref fa) → OwnT (K w.params) mg h y →
      ∃ (fd : FuncData) (c Pt : Addr), (∀ (s : Shared) (u : Value), BindsTo s fd ⟨[u], []⟩ [(x, u)]) ∧ Maker (K w.params) h c Pt ∧ ∀ base : Heap, (K w.params).In base → base.Ns mainGlobals mg → LamX.TabB base mg c Pt → FnG l.prog w (K w.params) mg base CX0 k fa fd [x] (sp w Pt))
    (hsp : ∀ (w : World) (H : Hp) (a Pt : Addr) (ns : List Int), ns.length ≤ n → (∀ z ∈ ns, Builtin.Int.intBits z ≤ 1048576) → H Pt = some (.tbl #[]) → SqL (K w.params) H a (ns.map V.int) → sp w Pt [.ref a] H (fun v _ => v = .bl true) fun _ _ _ => False) :
    PySem.W.WalkO q loose XP YP l.row.toRowW d [] (fun f vs => PySem.call f vs) := by
  refine Att.attach_callB hn hdf fun w s0 s1 mg mb fa o pm cd doc a us ns G Y ho hd hcd hmg obj iv len bits gens => ?_
  have inK := hY w _ Y
  have own : OwnT (K w.params) mg s1.heap y := fun f c P o1 fd1 e dd vs sl k0 k1 k2 k3 k4 k5 => by
    obtain ⟨dL, hm, hq⟩ := List.any_eq_true.mp rec
    obtain ⟨a', o', fd', c', P', h1, h2, h3, h4, h5, h6⟩ := G.T.tab dL hm
    rw [beq_iff_eq.mp hq, k0] at h1
    cases h1
    rw [inK _ _ k1] at h2
    cases h2
    rw [k2] at h3
    cases h3
    rw [k3] at h4
    cases h4
    have hd := PySem.W.CodeHd.of h5 h6
    obtain ⟨⟨oc, vc, e1, _, e3, e4⟩, hP⟩ := h6
    rw [inK _ _ k4] at e1
    cases e1
    cases e3
    rw [k5] at e4
    cases e4
    exact ⟨hP, hd⟩
  obtain ⟨fd, c, Pt, bnd, mk, hF⟩ := F w mg fa _ inK G.T.g hmg own
  exact callT inK G.T.g G.T.b G.T.builtins G.T.nolimit gens mk G.T.bmain obj iv (Nat.le_trans len few) room hF bnd fun H hP seq => hsp w H a Pt ns len bits hP seq
end My
set_option Elab.async false
set_option linter.all false
set_option maxRecDepth 100000
set_option maxHeartbeats 4000000
namespace My
open PySem PySem.Spec PyProof.Rows L2
theorem kit_ref {K : PySem.W.Frag} {C D : Addr} {b : Bool} (hd : PySem.W.hasDictIn K D = true) (ty : PySem.W.typeIn K (.ref D) = some (.type "type")) (sub : PySem.W.subIn K (.ref C) (.ref D) = some b) (self : PySem.W.subIn K (.ref C) (.ref C) = some true) : PySem.W.kitOne K (.ref C) (.ref D) = some b := by
  unfold PySem.W.kitOne
  by_cases e : C = D
  · subst e
    rw [self] at sub
    rw [if_pos (beq_iff_eq.mpr rfl)]
    exact sub
  · rw [if_neg (fun q => e (Value.ref.inj (beq_iff_eq.mp q)))]
    obtain ⟨cd, hc, _⟩ := PySem.W.any_some hd
    unfold PySem.W.kitCls
    have z : ((PySem.W.clsIn K D).isSome && PySem.W.typeIn K (.ref D) == some (.type "type")) = true := by rw [hc, ty]; rfl
    simp only [z, if_true]
    exact sub
section
variable {prog : Program} {w : World} {A : Around} {E : Value → Shared → Prop} {s : Shared} {K : PySem.W.Frag} {x C f : Addr} {ox : Obj} {od : Option Obj} {b t : Value}
theorem rc_eq {Q : Value → Shared → Prop} (hu : A.units < cLine) (inK : K.In s.heap) (I : PySem.W.InstAt s.heap x ox C od) (hb : PySem.W.Looks (model prog w) s.heap (typeOf b) t) (ht : t = .ref C ∨ PySem.W.subIn K t (.ref C) = some false)
    (hs : PySem.W.findIn K (.ref C) "__eq__" = some (some (.ref f))) (hf : PySem.W.isFn K (.ref f) = true) (one : oneThing? .Eq (.ref x) b = none)
    (h : wpAny (model prog w) A (call (.ref f) [.ref x, b]) (fun v s' => ∃ c, v = .bool c ∧ Q (.bool c) s') E s) : wpAny (model prog w) A (richCompare .Eq (.ref x) b) Q E s := by
  have try1 : wpAny (model prog w) A (tryCompare (.ref x) "__eq__" b) (fun r s' => ∃ v, r = some v ∧ Q v s') E s := by
    unfold tryCompare
    refine wpAny_bind (PySem.W.ifBound_K inK I hs hf (wpAny_mono h (fun v s' z => ?_) fun _ _ e => e))
    obtain ⟨c, rfl, q⟩ := z
    exact wpAny_pure ⟨_, rfl, q⟩
  unfold richCompare
  rw [one]
  refine wpAny_holding (wpAny_bind (wpAny_cRoomFor hu ?_))
  refine wpAny_bind (I.type.here (wpAny_bind (hb.here ?_)))
  by_cases e : t = .ref C
  · subst e
    have z : (Value.ref C != Value.ref C) = false := by simp
    simp only [z, Bool.false_eq_true, if_false]
    refine wpAny_bind (wpAny_pure ?_)
    simp only [Bool.false_eq_true, if_false]
    refine wpAny_bind (wpAny_mono try1 (fun r s' z => ?_) fun _ _ e => e)
    obtain ⟨v, rfl, q⟩ := z
    exact wpAny_pure q
  · have hne : (Value.ref C != t) = true := bne_iff_ne.mpr fun z => e z.symm
    have L := PySem.W.looks_subIn (M := model prog w) inK (ht.resolve_left e)
    simp only [hne, if_true]
    refine wpAny_bind (L.here ?_)
    simp only [Bool.false_eq_true, if_false]
    refine wpAny_bind (wpAny_mono try1 (fun r s' z => ?_) fun _ _ e => e)
    obtain ⟨v, rfl, q⟩ := z
    exact wpAny_pure q
end
section
variable {X : Cx} {CX : CXT} {n : Nat} {C g : Addr} {sp : Sp} {E : XK}
/-- what the class at C has for == -/
structure EqO (K : PySem.W.Frag) (C g : Addr) : Prop where
  eq : PySem.W.findIn K (.ref C) "__eq__" = some (some (.ref g))
  fn : PySem.W.isFn K (.ref g) = true
def rEqO (K : PySem.W.Frag) (C : Addr) (sp : Sp) (E : XK) : R2 := fun x y H Q => ∃ (a dx : Addr) (fs : List (Str × V)) (t : Value), x = .ref a ∧ H a = some (.ins C dx fs) ∧ TyX K H y t ∧ (t = .ref C ∨ PySem.W.subIn K t (.ref C) = some false) ∧ sp [x, y] H (fun z H' => ∃ c, z = .bl c ∧ Q (.bl c) H') E
theorem op_eqO (R : EqO X.K C g) (F : FnR X.prog X.w X.K X.mg X.base CX n g sp) (hr : Room (n + 1) X.A) (hx : Passes CX X E) : OpR X (compareOp .Eq) (rEqO X.K C sp E) := by
  intro pins s σ H x y v u Q I rx ry h
  obtain ⟨a, dx, fs, t, rfl, ha, ty, ht, q⟩ := h
  cases (show v = Value.ref a from rx)
  obtain ⟨mA, O, _⟩ := ins_get I.hok ha
  obtain ⟨od, J, _⟩ := O.look
  obtain ⟨P, Z, hP, _⟩ := kit_of I ry ty
  show wpAny _ _ (richCompare .Eq (.ref a) u) _ _ _
  refine rc_eq (by have := hr.un; omega) I.kIn J (Z.ty (model X.prog X.w) s.heap I.kIn hP) ht R.eq R.fn (oneThing_ref _ _ _) (wpAny_mono (wpAny_call (run_fnR (us := [.ref a, u]) (vs := [.ref a, y]) F (hr.mono (Nat.le_succ _)) hx I (.cons rfl (.cons ry .nil)) q)) (fun z s' k => ?_) fun _ _ e => e)
  obtain ⟨z', H', I', rz, c, ez, qz⟩ := k
  subst ez
  cases (show z = Value.bool c from rz)
  exact ⟨c, rfl, .bl c, H', I', rfl, qz⟩
def rStrO (C : Addr) (sp : Sp) (E : XK) : List V → Hp → VK → Prop := fun xs H Q => ∃ (a dx : Addr) (fs : List (Str × V)), xs = [.ref a] ∧ H a = some (.ins C dx fs) ∧ sp [.ref a] H (fun z H' => ∃ y : Str, z = .str y ∧ Q (.str y) H') E
theorem call_strO (hs : PySem.W.findIn X.K (.ref C) "__str__" = some (some (.ref g))) (hf : PySem.W.isFn X.K (.ref g) = true) (F : FnR X.prog X.w X.K X.mg X.base CX n g sp) (hr : Room (n + 2) X.A) (hx : Passes CX X E) : CallR X (.type "str") (rStrO C sp E) := by
  intro pins s σ H xs us Q I r h
  obtain ⟨a, dx, fs, rfl, ha, q⟩ := h
  obtain ⟨u, rfl, ru⟩ := r.one
  cases (show u = Value.ref a from ru)
  obtain ⟨mA, O, _⟩ := ins_get I.hok ha
  obtain ⟨od, J, _⟩ := O.look
  refine PySem.W.kso_call (by have := hr.un; show X.A.units + 1 + 1 < cLine; omega) I.kIn J hs hf (wpAny_mono (wpAny_call (SlX.run_at (us := [.ref a]) (ws := [.ref a]) F hr.in1.in1 I.env0.in1.in1 hx I (.cons rfl .nil) q)) (fun w s' z => ?_) fun _ _ x => x)
  obtain ⟨z', H', I', rz, y, ey, qz⟩ := z
  subst ey
  obtain ⟨t, e⟩ := (show ∃ t, w = Value.str y t from rz)
  cases e
  exact ⟨.str y, H', I', ⟨_, rfl⟩, qz⟩
end
end My
set_option Elab.async false
set_option linter.all false
set_option maxRecDepth 100000
set_option maxHeartbeats 4000000
namespace My
open PySem PySem.Spec PyProof.Rows L2
def tupIt (t : Addr) : Obj := { cls := .type "tuple_iterator", data := .fields #[.ref t, .int 0 0] }
def ItT (t it : Addr) : HO := .ext fun h => h.get? it = some (tupIt t)
theorem itT_ok {P : Program} {w : World} {H : Hp} {h : Heap} {t it : Addr} (e : h.get? it = some (tupIt t)) : ObjOk P w H h it (ItT t it) := ⟨e, ⟨_, e⟩, fun _ _ q k => k _ q⟩
section
variable {prog : Program} {w : World} {A : Around} {E : Value → Shared → Prop} {s : Shared} {t : Addr} {items : Array Value}
theorem call_iterT {Q : Value → Shared → Prop} (hl : s.heap.IsTuple t items) (h : Q (.ref s.heap.objs.size) { s with heap := s.heap.push (tupIt t) }) : wpAny (model prog w) A (call (.builtin "iter") [.ref t]) Q E s := by
  refine Calls.call_function_entry (by decide +kernel) (by decide +kernel) PySem.W.kdk_entry_iter (PySem.W.kdk_args_iter _) ?_
  unfold Builtin.«iter»
  refine wpAny_bind (m := someArgs "iter" 1 2 _) (wpAny_of_eq (a := [Value.ref t]) (by first | rfl | kernel_rfl!) ?_)
  show wpAny _ _ (pyIter (.ref t) >>= _) _ _ _
  refine wpAny_bind (wpAny_pyIter_tuple hl ?_)
  exact wpAny_pure ⟨_, rfl, h⟩
end
def rIterT (K : PySem.W.Frag) (n : Nat) : List V → Hp → VK → Prop := fun xs H Q => ∃ (t : Addr) (zs : List V), xs = [.ref t] ∧ SqT K H t zs ∧ ∀ it, H it = none → n ≤ it → Q (.ref it) (upd H it (ItT t it))
section
variable {X : Cx}
theorem cr_iterT : CallR X (.builtin "iter") (rIterT X.K X.s_0.heap.objs.size) := by
  intro pins s σ H xs us Q I r h
  obtain ⟨t, zs, rfl, hq, q⟩ := h
  obtain rfl := Vals.ref1 r
  obtain ⟨its, rv, pl, hz⟩ := I.tuple hq
  refine call_iterT (show s.heap.IsTuple t its.toArray from pl) ?_
  exact ⟨.ref s.heap.objs.size, _, I.laid (t' := s.toks) (fun b u e => Heap.get?_push_of_some _ e) (Nat.le_refl _) (itT_ok (Heap.get?_push_size _ rfl)), rfl, q _ (I.hok.fresh (Nat.le_refl _)) I.sz⟩
end
def FnI (P : Program) (w : World) (K : PySem.W.Frag) (mg : Str → Option Value) (base : Heap) (k : Nat) (f : Addr) (sp : Nat → Sp) : Prop :=
  ∀ (A : Around) (outer : List Env) (s : Shared) (H : Hp) (us : List Value) (vs : List V) (Q : VK) (E : XK), Room k A → Env0 P w K mg base A outer s H → Vals vs us → sp s.heap.objs.size vs H Q E →
    codeAny (model P w) A (.call (.ref f) ⟨us, []⟩) (CR C8.CX0 outer P w H s Q E) s
theorem okI {P : Program} {w : World} {K : PySem.W.Frag} {mg : Str → Option Value} {base : Heap} {x qual : Str} {st : Stmt} {f : Addr} {fd : FuncData} {N ps : List Str} {k : Nat} {sp : Nat → Sp} (F : Fun K x qual st f fd) (S : FnScope N ps (defScope st)) (hb : Binds K fd ps [])
    (len : ∀ n vs H Q E, sp n vs H Q E → vs.length = ps.length)
    (body : ∀ (cdv : Value) (A : Around) (outer : List Env) (s : Shared) (H : Hp) (vs : List V) (Q : VK) (E : XK), Room k (A.deeper (envOfC qual (defScope st) s.heap.objs.size f cdv)) → sp s.heap.objs.size vs H Q E →
      ∃ t, PSs (cxOf C8.CX0 P w K mg base N qual (defScope st) f cdv A outer s H E).nox (defBody st) t ∧ t { nx := fun _ H' => Q .non H', rt := Q } (start N vs) H) : FnI P w K mg base (k + 1) f sp := by
  obtain ⟨oc, od, kV, doc, pm, an, cdv, ct, osl, rfl, lk, hcd⟩ := F.ex
  intro A outer s H us vs Q E room e0 rv hs
  have inK : K.In s.heap := e0.mod.kin.keeps fun b o e => (e0.bs b o e).1
  have nol : s.heap.NoLimit := e0.mod.nolimit.keeps fun b o e => (e0.bs b o e).1
  have hl : us.length = ps.length := by rw [← rv.length]; exact len _ _ _ _ _ hs
  have bnd : BindsTo s (PySem.W.fnOf x qual (defArgs st) (defBody st) (defScope st) .none kV doc pm an cdv ct) ⟨us, []⟩ (ps.zip us) := by
    have := hb s us inK (by simpa using hl)
    simpa using this
  refine codeAny_call_function room.depth (inK _ _ lk) rfl S.co S.gen rfl (PySem.W.codeRec_of inK hcd) (bnd _ _ _ _ (wpAny_newFunctionEnv_cells S.kind (fun y hy => ?_) fun env he s1 x => ?_))
  · exact (S.par y.1 (List.of_mem_zip hy).1).elim .inl fun q => .inr ⟨q, PySem.W.cellsFrom_some _ _ _ (.inl q)⟩
  subst he
  refine ⟨nol.keeps x.toInCall.keep, codeAny_func ?_⟩
  obtain ⟨t, ht, hq⟩ := body cdv A outer s H vs Q E (room.deeper _) hs
  refine wpAny_mono (ht.nox.run [] s1 (start N vs) H _ (inv_start S room.hd e0 (len _ _ _ _ _ hs) rv x) hq) (fun fl s' z => ?_) fun e s' z => z
  match fl, z with
  | .ret u, ⟨v, σ', H', J, ru, q⟩ => exact ⟨v, H', J.os, J.bare, J.base, J.hok, ru, q⟩
  | .next, ⟨σ', H', J, q⟩ => exact ⟨V.non, H', J.os, J.bare, J.base, J.hok, rfl, q⟩
  | .brk, ⟨_, _, _, q⟩ => exact q.elim
  | .cont, ⟨_, _, _, q⟩ => exact q.elim
def iOwnT (K : PySem.W.Frag) (C : Addr) (sp : Nat → Sp) (te : TE) : TI := fun σ H R => te σ H fun x H1 => ∃ (a dx : Addr) (fs : List (Str × V)), x = .ref a ∧ H1 a = some (.ins C dx fs) ∧
  ∀ n, sp n [.ref a] H1 (fun v H2 => ∃ it t, v = .ref it ∧ n ≤ it ∧ H1 it = none ∧ H2 = upd H1 it (ItT t it) ∧ (∃ xs, SqT K H1 t xs) ∧ R (Itt K t) H1) (fun _ _ _ => False)
theorem pi_ownT {X : Cx} {tg l : Expr} {tl : TE} {C g : Addr} {k : Nat} {sp : Nat → Sp} (hl : PE X l tl) (hs : PySem.W.findIn X.K (.ref C) "__iter__" = some (some (.ref g))) (hf : PySem.W.isFn X.K (.ref g) = true) (F : FnI X.prog X.w X.K X.mg X.base k g sp) (hr : Room k X.A) : PI X tg l (iOwnT X.K C sp tl) := by
  refine ⟨fun pins s σ H R I h => ?_⟩
  refine thn (hl.run pins s σ H _ I h) fun v s1 ⟨x, H1, I1, r1, a, dx, fs, ex, ha, q⟩ => ?_
  subst ex
  cases (show v = Value.ref a from r1)
  obtain ⟨mA, O, _⟩ := ins_get I1.hok ha
  obtain ⟨od, J, _⟩ := O.look
  obtain ⟨m, hF⟩ := I1.fr
  refine PySem.W.owit_iter hF I1.ok.mod.kin J hs hf (wpAny_call (codeAny_mono (F X.A X.stack s1 H1 [.ref a] [.ref a] _ _ hr I1.env0 (.cons rfl .nil) (q _)) fun r s' hq => ?_))
  cases r with
  | error e => exact pass0 pins σ H1 s1 e s' I1 hq
  | ok fl =>
    cases fl with
    | next => exact False.elim hq
    | brk => exact False.elim hq
    | cont => exact False.elim hq
    | ret u =>
      obtain ⟨v, H', I2, rv, it, t, ev, hn, hni, eH, hx, hR⟩ := I1.after hq
      subst ev
      subst eH
      cases (show u = Value.ref it from rv)
      have hit : s'.heap.get? it = some (tupIt t) := (I2.hok it _ upd_same).1
      have I3 : Inv X pins σ H1 s' := by
        have z := ItX.inv_drop (φ := fun h => h.get? it = some (tupIt t)) I2 upd_same
        rw [ItX.dropH_upd hni] at z
        exact z
      unfold PySem.W.OwitIt
      refine wpAny_specialOf (name := Str.ofString "__next__") (T := "tuple_iterator") ⟨_, hit, rfl⟩ PySem.F.slot_tuple_iterator_next.lookup ?_
      refine ⟨it, [it], _, _, H1, rfl, I3, turn_tuple t it, ⟨_, hit, rfl, rfl⟩, fun b hb => ?_, hR⟩
      have e : b = it := by simpa using hb
      subst e
      have f := ItX.inv_fp I2 upd_same (Nat.le_trans I1.sz hn)
      rw [ItX.dropH_upd hni] at f
      exact f
end My
set_option Elab.async false
set_option linter.all false
set_option maxRecDepth 100000
set_option maxHeartbeats 4000000
namespace My
open PySem PySem.Spec PyProof.Rows L2
section
variable {X : Cx} {CX : CXT} {k : Nat} {p0 g0 C : Addr} {fd : FuncData} {ps ks : List Str} {sp : Sp} {E : XK} {m : Str} {pos apos : Pos} {o : Expr} {kws : List Keyword} {ta : TE} {tk : TA} {mc : Value}
variable {gg : List Value → List Value → List Value} {gV : List V → List V → List V} {pl : Sem Bool}
/-- C.m(k = v, ..): a classmethod by keywords alone -/
def tCMethK (C : Addr) (sp : Sp) (gV : List V → List V → List V) (E : XK) (ta : TE) (tk : TA) : TE := fun σ H Q => ta σ H fun x H1 => x = .ref C ∧ tk σ H1 fun zs H2 => sp (gV [.ref C] zs) H2 Q E
theorem pe_cmethK (he : PE X o ta) (r : ClX.CRead X.K C mc) (c : ClX.CMet X.K C mc m p0 g0) (F : FnOk X.prog X.w X.K X.mg X.base CX k g0 fd ps sp) (hr : Room k X.A) (hb : KBinds X.K fd ps ks gg gV) (hx : Passes CX X E) (hkw : PK X kws tk)
    (hall : (backToKw pos (keywordEach kws X.env)).all (·.1.isSome) = true := by rfl) (hks : (backToKw pos (keywordEach kws X.env)).filterMap (·.1) = ks := by rfl)
    (hpl : ((backTo pos (starEach [] X.env)).any (·.1) || (backToKw pos (keywordEach kws X.env)).any (·.1.isNone)) = false := by rfl)
    (ht : eval (.Call (.Attribute o m apos) [] kws pos) X.env = (do
      let z ← eval o X.env
      standAt apos.atName
      let (fn, fst) ← holding [z] (getMethod z m pl)
      callWith pos fn fst (backTo pos (starEach [] X.env)) (backToKw pos (keywordEach kws X.env))) := by rfl) :
    PE X (.Call (.Attribute o m apos) [] kws pos) (tCMethK C sp gV E ta tk) := by
  refine ⟨fun pins s σ H Q I h => ?_⟩
  refine PySem.W.methodCall_KW (pl := pl) (thn (he.run pins s σ H _ I h) fun u s1 ⟨x, H1, I1, rx, ex, q⟩ => ?_) ht
  subst ex
  obtain rfl : u = Value.ref C := rx
  refine ClX.getmethcm_ok I1 r c fun s2 I2 => ?_
  refine PySem.W.callWith_of hpl (PySem.W.keeps_M (K := X.K) (self := .ref C) c.fi) (evalArgs_kw2_nil hall (thn (hkw.run pos _ s2 σ H1 _ I2 q) fun ws s3 ⟨zs, H2, I3, rz, q2⟩ => ⟨⟨ClX.pin_at I3, I3.kIn⟩, ?_⟩))
  rw [hks]
  have r2 : Vals (gV [.ref C] zs) (gg [.ref C] ws) := hb.rel (.cons rfl .nil) rz
  have hl : (gg [.ref C] ws).length = ps.length := by rw [← r2.length]; exact F.len _ _ _ _ q2
  have run := F.run X.A X.stack s3 H2 ⟨[.ref C], ks.zip ws⟩ _ _ Q E hr I3.env0 (hb.to s3 [.ref C] ws I3.kIn hl) r2 q2
  have z : wpAny (model X.prog X.w) X.A (call (.ref s1.heap.objs.size) [] (ks.zip ws)) (EP X ((s1.heap.objs.size, PySem.W.methodObj (.ref g0) (.ref C)) :: pins) σ Q) X.xe s3 := by
   refine wpAny_call (PySem.W.method_call (ClX.pin_at I3) (codeAny_mono run fun r s' hq => ?_))
   cases r with
   | error e => exact hx _ σ H2 s3 e s' I3 hq
   | ok fl =>
     cases fl with
     | ret u => exact I3.after hq
     | next => exact False.elim hq
     | brk => exact False.elim hq
     | cont => exact False.elim hq
  exact thn z fun _ _ y => ClX.unpinE y
/-- C(): no argument, a def that takes any number -/
theorem pe_makeR0 {x : Str} {f : Addr} {p : Pos} (M : Mk X.K C f) (F : FnR X.prog X.w X.K X.mg X.base CX k f sp) (hr : Room (k + 1) X.A) (hg : Gl X x) (hm : X.mg x = some (.ref C)) (hx : Passes CX X E) (hdb : (x == ("__debug__" : Str)) = false := by decide) :
    PE X (.Call (.Name x p) [] [] pos) (StX.tMakeR C sp E tNil) := by
  refine ⟨fun pins s σ H Q I h => ?_⟩
  refine wpAny_Call_Name_kw (ld_glob I hg hm ?_ hdb)
  exact PySem.W.callWith_K0 I.kIn M.kp (StX.run_makeR M F hr hx I .nil h)
end
end My
set_option Elab.async false
set_option linter.all false
set_option maxRecDepth 100000
set_option maxHeartbeats 4000000
namespace My
open PySem PySem.Spec PyProof.Rows L2
def top (i : Nat) : Stmt := PySem.Challenge.pw_remadedays_k13_cycles_made.main.body.getD i (.Pass ⟨0, 0, 0, 0⟩)
abbrev sWhole : Stmt := top 9
abbrev sBetw : Stmt := top 10
abbrev sChk : Stmt := top 20
abbrev sCyc : Stmt := top 19
abbrev sInit : Stmt := inClass sCyc 0
abbrev sOf : Stmt := inClass sCyc 1
abbrev sLengths : Stmt := inClass sCyc 3
abbrev sTotal : Stmt := inClass sCyc 4
abbrev sLen : Stmt := inClass sCyc 5
abbrev sIter : Stmt := inClass sCyc 6
abbrev sEq : Stmt := inClass sCyc 7
abbrev sStr : Stmt := inClass sCyc 8
abbrev sPen : Stmt := top 23
abbrev sDraw : Stmt := top 24
abbrev sPick : Stmt := top 25
/-- all that was tracked but the list at p is as it was -/
def SameBut (p : Addr) (H H' : Hp) : Prop := ∀ b o, b ≠ p → H b = some o → H' b = some o
theorem Same.but {p : Addr} {H H' : Hp} (s : Same H H') : SameBut p H H' := fun b o _ e => s b o e
theorem SameBut.trans {p : Addr} {H H1 H2 : Hp} (a : SameBut p H H1) (b : SameBut p H1 H2) : SameBut p H H2 := fun c o n e => b c o n (a c o n e)
theorem SameBut.refl (p : Addr) (H : Hp) : SameBut p H H := fun _ _ _ e => e
theorem same_new {H : Hp} {p : Addr} {o : HO} (h : H p = none) : Same H (upd H p o) := fun b q e => by
  rw [upd_ne (ne_of_none e h)]
  exact e
structure Txt (K : PySem.W.Frag) (mg : Str → Option Value) (C fWhole fBetw fDay fChk : Addr) : Prop where
  cl : Cls K C
  nL : NoAttr K C "_lengths"
  nT : NoAttr K C "_total"
  gCyc : mg "Cycle" = some (.ref C)
  gWhole : mg "is_whole" = some (.ref fWhole)
  gBetw : mg "is_between" = some (.ref fBetw)
  gChk : mg "check_lengths" = some (.ref fChk)
  gMB : ∃ t, mg "MOST_BLOCKS" = some (.int 12 t)
  gMT : ∃ t, mg "MOST_TOTAL" = some (.int 60 t)
  zIsi : mg "isinstance" = none
  zInt : mg "int" = none
  zBool : mg "bool" = none
  zStr : mg "str" = none
  zRepr : mg "repr" = none
  zLen : mg "len" = none
  zList : mg "list" = none
  zTuple : mg "tuple" = none
  zRange : mg "range" = none
  zAbs : mg "abs" = none
  zEnum : mg "enumerate" = none
  zSum : mg "sum" = none
  zIter : mg "iter" = none
section
variable {P : Program} {w : World} {K : PySem.W.Frag} {mg : Str → Option Value} {base : Heap} {C fWhole fBetw fDay fChk : Addr}
def spWhole (K : PySem.W.Frag) : Sp := fun vs H Q _ => ∃ (x : V) (t : String) (b1 b2 : Bool), vs = [x] ∧ TyX K H x (.type t) ∧ kitB t "int" = some b1 ∧ kitB t "bool" = some b2 ∧ Q (.bl (b1 && !b2)) H
theorem scWhole : FnScope ["value"] ["value"] (defScope sWhole) := ⟨rfl, rfl, rfl, by decide +kernel, rfl, by decide +kernel, by decide +kernel⟩
theorem ok_whole {f : Addr} {fd : FuncData} (F : Fun K "is_whole" "is_whole" sWhole f fd) (T : Txt K mg C fWhole fBetw fDay fChk) : FnOk P w K mg base CX0 1 f fd ["value"] (spWhole K) := by
  refine F.ok scWhole (fun vs H Q E h => ?_) (fun cdv A outer s H vs Q E hr h => ?_)
  · obtain ⟨x, t, b1, b2, rfl, _⟩ := h
    rfl
  · obtain ⟨x, t, b1, b2, rfl, ty, h1, h2, k⟩ := h
    refine ⟨_, pss_one (ps_ret (pe_and (pe_callB call_isi (by rfl) T.zIsi (by decide +kernel) (pa_cons (pv 0) (pa_cons (pe_bltn (v := .ty "int") (by rfl) T.zInt (by decide +kernel) rfl) pa_nil)))
      (pe_one (pe_not (pe_callB call_isi (by rfl) T.zIsi (by decide +kernel) (pa_cons (pv 0) (pa_cons (pe_bltn (v := .ty "bool") (by rfl) T.zBool (by decide +kernel) rfl) pa_nil))))))), ?_⟩
    refine ⟨_, rfl, x, .ty "int", _, _, b1, rfl, .ty "int", ty, kit_ty h1, b1, rfl, ?_⟩
    cases b1 with
    | true => exact iteT ⟨_, rfl, x, .ty "bool", _, _, b2, rfl, .ty "bool", ty, kit_ty h2, b2, rfl, k⟩
    | false => exact iteF k
/-- value, low, high: low and high ints -/
def spBetw (K : PySem.W.Frag) : Sp := fun vs H Q _ => ∃ (x : V) (t : String) (b1 b2 : Bool) (lo hi : Int), vs = [x, .int lo, .int hi] ∧ TyX K H x (.type t) ∧ kitB t "int" = some b1 ∧ kitB t "bool" = some b2 ∧
  ((b1 && !b2) = false → Q (.bl false) H) ∧ ((b1 && !b2) = true → ∃ i, x = .int i ∧ Q (.bl (decide (lo ≤ i) && decide (i ≤ hi))) H)
theorem scBetw : FnScope ["value", "low", "high"] ["value", "low", "high"] (defScope sBetw) := ⟨rfl, rfl, rfl, by decide +kernel, rfl, by decide +kernel, by decide +kernel⟩
theorem ok_betw {f : Addr} {fd fdW : FuncData} (F : Fun K "is_between" "is_between" sBetw f fd) (T : Txt K mg C fWhole fBetw fDay fChk) (FW : Fun K "is_whole" "is_whole" sWhole fWhole fdW) (bW : Binds K fdW ["value"] []) :
    FnOk P w K mg base CX0 2 f fd ["value", "low", "high"] (spBetw K) := by
  have GW : FnOk P w K mg base CX0 1 fWhole fdW ["value"] (spWhole K) := ok_whole FW T
  refine F.ok scBetw (fun vs H Q E h => ?_) (fun cdv A outer s H vs Q E hr h => ?_)
  · obtain ⟨x, t, b1, b2, lo, hi, rfl, _⟩ := h
    rfl
  · obtain ⟨x, t, b1, b2, lo, hi, rfl, ty, h1, h2, k0, k1⟩ := h
    refine ⟨_, pss_one (ps_ret (pe_and (pe_call GW hr rfl T.gWhole FW.kp bW .nil pass0 (pa_cons (pv 0) pa_nil)) (pe_one (pe_chain op_le op_le (pv 1) (pv 0) (pv 2))))), ?_⟩
    refine ⟨_, rfl, x, t, b1, b2, rfl, ty, h1, h2, _, rfl, ?_⟩
    cases e : (b1 && !b2) with
    | false => exact iteF (k0 e)
    | true =>
      obtain ⟨i, rfl, k⟩ := k1 e
      refine iteT ⟨_, rfl, _, rfl, _, _, rfl, rfl, _, rfl, ?_⟩
      by_cases c : lo ≤ i
      · rw [decide_eq_true c] at k ⊢
        exact iteT ⟨_, rfl, _, _, rfl, rfl, k⟩
      · rw [decide_eq_false c] at k ⊢
        exact iteF k
end
structure PenAt (H : Hp) (p l : Addr) (N : Int) : Prop where
  ex : ∃ (ms : List Int) (n c : Int), H p = some (.lst [.ref l, .int n, .int c]) ∧ H l = some (.lst (ms.map V.int)) ∧ ms.length ≤ 63 ∧ 0 ≤ n ∧ n ≤ N ∧ 0 ≤ c
theorem PenAt.lst {H : Hp} {p l : Addr} {N : Int} (h : PenAt H p l N) : ∃ xs, H p = some (.lst xs) := let ⟨_, _, _, e, _⟩ := h.ex; ⟨_, e⟩
theorem PenAt.same {H H' : Hp} {p l : Addr} {N : Int} (h : PenAt H p l N) (s : Same H H') : PenAt H' p l N := by
  obtain ⟨ms, n, c, e1, e2, z⟩ := h.ex
  exact ⟨ms, n, c, s _ _ e1, s _ _ e2, z⟩
theorem PenAt.le {H : Hp} {p l : Addr} {N M : Int} (h : PenAt H p l N) (z : N ≤ M) : PenAt H p l M := by
  obtain ⟨ms, n, c, e1, e2, h1, h2, h3, h4⟩ := h.ex
  exact ⟨ms, n, c, e1, e2, h1, h2, by omega, h4⟩
/-- a store to another list that was not there when the pen stood -/
theorem PenAt.upd {H H0 : Hp} {p l q : Addr} {N M : Int} {o : HO} (h : PenAt H p l N) (h0 : PenAt H0 p l M) (hq : H0 q = none) : PenAt (upd H q o) p l N := by
  obtain ⟨ms, n, c, e1, e2, z⟩ := h.ex
  obtain ⟨_, _, _, f1, f2, _⟩ := h0.ex
  exact ⟨ms, n, c, by rw [upd_ne (ne_of_none f1 hq)]; exact e1, by rw [upd_ne (ne_of_none f2 hq)]; exact e2, z⟩
theorem pen_ne {H : Hp} {p l : Addr} {ms : List Int} {n c : Int} (h1 : H p = some (.lst [.ref l, .int n, .int c])) (h2 : H l = some (.lst (ms.map V.int))) : l ≠ p := fun z => by
  subst z
  rw [h1] at h2
  have e := HO.lst.inj (Option.some.inj h2)
  cases ms with
  | nil => cases e
  | cons a r => cases e
theorem dp_ints {K : PySem.W.Frag} {H : Hp} : ∀ ns : List Int, DpAll K H (ns.map V.int) (ns.map PyData.int)
  | [] => .nil
  | a :: r => .cons (.int a) (dp_ints r)
section
variable {P : Program} {w : World} {K : PySem.W.Frag} {mg : Str → Option Value} {base : Heap} {C fWhole fBetw fDay fChk fDraw : Addr} {fdD : FuncData}
def spPen (K : PySem.W.Frag) : Sp := fun vs H Q _ => ∃ (a : Addr) (ns : List Int), vs = [.ref a] ∧ SqL K H a (ns.map V.int) ∧ ns.length ≤ 63 ∧ ∀ p l H', Same H H' → PenAt H' p l 0 → Q (.ref p) H'
theorem scPen : FnScope ["_law_script"] ["_law_script"] (defScope sPen) := ⟨rfl, rfl, rfl, by decide +kernel, rfl, by decide +kernel, by decide +kernel⟩
theorem ok_pen {f : Addr} {fd : FuncData} (F : Fun K "_law_pen" "_law_pen" sPen f fd) (T : Txt K mg C fWhole fBetw fDay fChk) : FnOk P w K mg base CX0 1 f fd ["_law_script"] (spPen K) := by
  refine F.ok scPen (fun vs H Q E h => ?_) (fun cdv A outer s H vs Q E hr h => ?_)
  · obtain ⟨a, ns, rfl, _⟩ := h
    rfl
  · obtain ⟨a, ns, rfl, ha, hl, k⟩ := h
    refine ⟨_, pss_one (ps_ret (pe_lst (pa_cons (pe_callTy call_list_of (by rfl) T.zList (by decide +kernel) (pa_cons (pe_slice sl_list (pv 0) po_none (po_some pe_int)) pa_nil)) (pa_cons pe_int (pa_cons pe_int pa_nil))))), ?_⟩
    refine ⟨_, rfl, _, rfl, a, _, rfl, ha, fun q hq => ?_⟩
    refine ⟨q, _, rfl, .inl (SqL.of upd_same), fun l hl' => ⟨(by show 3 ≤ sizeLine; decide), fun p hp => ?_⟩⟩
    refine k p l _ ((same_new hq).trans ((same_new hl').trans (same_new hp))) ?_
    obtain ⟨x, y, e⟩ : ∃ x y, cutV (ns.map V.int) none (some 63) = ((ns.drop x).take y).map V.int := ⟨HT.sIx (ns.map V.int).length 0 none, HT.sIx (ns.map V.int).length (ns.map V.int).length (some 63) - HT.sIx (ns.map V.int).length 0 none, by unfold cutV; rw [List.map_take, List.map_drop]⟩
    refine ⟨(ns.drop x).take y, 0, 0, upd_same, ?_, ?_, by omega, by omega, by omega⟩
    · rw [upd_ne (ne_of_none upd_same hp), upd_same, e]
    · rw [List.length_take, List.length_drop]; omega
/-- a draw: an int below many -/
def spDraw : Sp := fun vs H Q _ => ∃ (p l : Addr) (N many : Int), vs = [.ref p, .int many] ∧ PenAt H p l N ∧ 0 < many ∧ many.natAbs.log2 < 9000 ∧ N ≤ 100000 ∧
  ∀ r H', 0 ≤ r → r < many → SameBut p H H' → PenAt H' p l (N + 1) → Q (.int r) H'
theorem scDraw : FnScope ["_law_pen_here", "_law_many", "_law_digit", "_law_at", "_law_cell", "_law_great", "_law_mixed"] ["_law_pen_here", "_law_many"] (defScope sDraw) := ⟨rfl, rfl, rfl, by decide +kernel, rfl, by decide +kernel, by decide +kernel⟩
theorem small_pow {z : Int} (h0 : 0 ≤ z) (h : z < 18446744073709551616) : CPow z 5 ∧ CPow z 3 := by
  have e : (2 : Nat) ^ 64 = 18446744073709551616 := by decide
  have hz : z.natAbs < 2 ^ 64 := by rw [e]; omega
  exact ⟨⟨by decide, by decide, hz⟩, ⟨by decide, by decide, hz⟩⟩
theorem small_mul {i j : Int} (h0 : -18446744073709551616 < i) (h : i < 18446744073709551616) : CMul i j := by
  have e : (2 : Int) ^ 64 = 18446744073709551616 := by decide
  exact .inl ⟨by rw [e]; exact h0, by rw [e]; exact h⟩
set_option maxHeartbeats 8000000 in
theorem ok_draw {f : Addr} {fd : FuncData} (F : Fun K "_law_draw" "_law_draw" sDraw f fd) (T : Txt K mg C fWhole fBetw fDay fChk) : FnOk P w K mg base CX0 1 f fd ["_law_pen_here", "_law_many"] spDraw := by
  refine F.ok scDraw (fun vs H Q E h => ?_) (fun cdv A outer s H vs Q E hr h => ?_)
  · obtain ⟨p, l, N, many, rfl, _⟩ := h
    rfl
  · obtain ⟨p, l, N, many, rfl, pen, hm, hlog, hN, k⟩ := h
    obtain ⟨ms, n, c, h1, h2, hms, hn0, hnN, hc⟩ := pen.ex
    have nlp := pen_ne h1 h2
    have z0 : ([V.ref l, V.int n, V.int c] : List V)[0]? = some (V.ref l) := rfl
    have z1 : ([V.ref l, V.int n, V.int c] : List V)[1]? = some (V.int n) := rfl
    have z2 : ([V.ref l, V.int n, V.int c] : List V)[2]? = some (V.int c) := rfl
    refine ⟨_, pss_cons (ps_if (pt_cmpR op_gt (pe_ix ix_list (pv 0) pe_int (fun _ _ => rfl)) pe_int (nomark _))
        (pss_cons (ps_set (i := 2) scDraw.nd rfl (Or.inl rfl) (pe_op op_mod (pe_callTy call_int1 (by rfl) T.zInt (by decide +kernel) (pa_cons (pe_ix ix_list (pv 0) pe_int (fun _ _ => rfl)) pa_nil)) (pv 1)))
        (pss_cons (ps_asg (pe_op op_fdivW (pe_callTy call_int1 (by rfl) T.zInt (by decide +kernel) (pa_cons (pe_ix ix_list (pv 0) pe_int (fun _ _ => rfl)) pa_nil)) (pv 1)) (pg_sub (pv 0) pe_int set_list))
        (pss_one (ps_ret (pv 2))))) pss_nil)
      (pss_cons (ps_set (i := 3) scDraw.nd rfl (Or.inl rfl) (pe_ix ix_list (pv 0) pe_int (fun _ _ => rfl)))
      (pss_cons (ps_asg (pe_op op_add (pv 3) pe_int) (pg_sub (pv 0) pe_int set_list))
      (pss_cons (ps_set (i := 4) scDraw.nd rfl (Or.inl rfl) (pe_op op_add (pe_op op_mul pe_int (pv 3)) pe_int))
      (pss_cons (ps_if (pt_cmpR (op_neD hr.units) (pe_ix ix_list (pv 0) pe_int (fun _ _ => rfl)) (pe_lst pa_nil) (nomark _))
        (pss_one (ps_set (i := 4) scDraw.nd rfl (Or.inl rfl) (pe_ix ix_list (pe_ix ix_list (pv 0) pe_int (fun _ _ => rfl))
          (pe_op op_mod (pe_callTy call_int1 (by rfl) T.zInt (by decide +kernel) (pa_cons (pv 3) pa_nil)) (pe_callB call_len_seq (by rfl) T.zLen PySem.boot_len (pa_cons (pe_ix ix_list (pv 0) pe_int (fun _ _ => rfl)) pa_nil))) (fun _ _ => rfl)))) pss_nil)
      (pss_cons (ps_if (PW.pt (pw_and (pt_cmpR op_lt (pv 3) (pe_callB call_len_seq (by rfl) T.zLen PySem.boot_len (pa_cons (pe_ix ix_list (pv 0) pe_int (fun _ _ => rfl)) pa_nil)) (nomark _))
          (pw_and1 (pt_cmpR op_ge (pe_callB call_abs (by rfl) T.zAbs (by decide +kernel) (pa_cons (pv 4) pa_nil)) (pe_op op_pow pe_int pe_int) (nomark _)))))
        (pss_cons (ps_set (i := 5) scDraw.nd rfl (Or.inl rfl) (pe_op op_add (pe_op op_mul pe_int (pe_op op_sub (pe_callB call_abs (by rfl) T.zAbs (by decide +kernel) (pa_cons (pv 4) pa_nil)) (pe_op op_pow pe_int pe_int)))
          (pe_callTy call_int1 (by rfl) T.zInt (by decide +kernel) (pa_cons (pe_cmpR op_lt (pv 4) pe_int (nomark _)) pa_nil))))
        (pss_cons (ps_asg (pe_op op_fdivW (pe_callTy call_int1 (by rfl) T.zInt (by decide +kernel) (pa_cons (pv 5) pa_nil)) (pv 1)) (pg_sub (pv 0) pe_int set_list))
        (pss_one (ps_ret (pe_op op_mod (pe_callTy call_int1 (by rfl) T.zInt (by decide +kernel) (pa_cons (pv 5) pa_nil)) (pv 1)))))) pss_nil)
      (pss_cons (ps_set (i := 6) scDraw.nd rfl (Or.inl rfl) (pe_op op_mod (pe_callTy call_int1 (by rfl) T.zInt (by decide +kernel) (pa_cons (pe_op op_pow (pe_op op_add (pe_op op_add (pe_op op_mod (pe_callTy call_int1 (by rfl) T.zInt (by decide +kernel) (pa_cons (pv 4) pa_nil)) pe_int) (pe_op op_mul pe_int (pv 3))) pe_int) pe_int) pa_nil)) pe_int))
      (pss_cons (ps_set (i := 6) scDraw.nd rfl (Or.inl rfl) (pe_op op_mod (pe_callTy call_int1 (by rfl) T.zInt (by decide +kernel) (pa_cons (pe_op op_pow (pe_op op_add (pe_op op_add (pe_op op_mul (pv 6) (pe_op op_add (pe_op op_mul pe_int (pv 3)) pe_int))
        (pe_op op_mul (pe_op op_mul pe_int (pv 3)) (pv 3))) pe_int) pe_int) pa_nil)) pe_int))
      (pss_one (ps_ret (pe_op op_mod (pe_callTy call_int1 (by rfl) T.zInt (by decide +kernel) (pa_cons (pe_op op_fdiv (pv 6) pe_int) pa_nil)) (pv 1)))))))))))
      , ?_⟩
    refine ⟨_, rfl, p, _, _, _, rfl, rfl, SqL.of h1, atI_nat (j := 2) z2, _, _, rfl, rfl, _, rfl, ?_⟩
    by_cases hcp : 0 < c
    · rw [decide_eq_true hcp]
      refine iteT ?_
      refine ⟨_, rfl, p, _, _, _, rfl, rfl, SqL.of h1, atI_nat (j := 2) z2, .inl ⟨_, rfl, _, rfl, _, _, rfl, rfl, hm, ?_⟩⟩
      refine ⟨_, rfl, p, _, _, _, rfl, rfl, SqL.of h1, atI_nat (j := 2) z2, .inl ⟨_, rfl, _, rfl, _, _, rfl, rfl, ⟨hm, hlog⟩, ?_⟩⟩
      refine ⟨_, rfl, p, _, _, 2, rfl, rfl, h1, rfl, _, rfl, ?_⟩
      refine k _ _ (Int.emod_nonneg _ (by omega)) (Int.emod_lt_of_pos _ hm) (fun b o nb e => by rw [upd_ne nb]; exact e) ⟨ms, n, c / many, upd_same, by rw [upd_ne nlp]; exact h2, hms, hn0, by omega, Int.ediv_nonneg hc (by omega)⟩
    · rw [decide_eq_false hcp]
      refine iteF ?_
      have hc0 : c = 0 := by omega
      subst hc0
      refine ⟨_, rfl, p, _, _, _, rfl, rfl, SqL.of h1, atI_nat (j := 1) z1, ?_⟩
      refine ⟨_, rfl, _, _, rfl, rfl, _, rfl, p, _, _, 1, rfl, rfl, h1, rfl, ?_⟩
      have g1 : (upd H p (.lst ([V.ref l, V.int n, V.int 0].set 1 (V.int (n + 1))))) p = some (.lst [V.ref l, V.int (n + 1), V.int 0]) := upd_same
      have g2 : (upd H p (.lst ([V.ref l, V.int n, V.int 0].set 1 (V.int (n + 1))))) l = some (.lst (ms.map V.int)) := by rw [upd_ne nlp]; exact h2
      have sb : SameBut p H (upd H p (.lst ([V.ref l, V.int n, V.int 0].set 1 (V.int (n + 1))))) := fun b o nb e => by rw [upd_ne nb]; exact e
      generalize (upd H p (.lst ([V.ref l, V.int n, V.int 0].set 1 (V.int (n + 1))))) = H1 at g1 g2 sb ⊢
      have y0 : ([V.ref l, V.int (n + 1), V.int 0] : List V)[0]? = some (V.ref l) := rfl
      refine ⟨_, rfl, _, _, rfl, rfl, small_mul (by omega) (by omega), _, _, rfl, rfl, ?_⟩
      refine ⟨_, rfl, p, _, _, _, rfl, rfl, SqL.of g1, atI_nat (j := 0) y0, Nat.zero_le _, fun q hq => ?_⟩
      have s2 : Same H1 (upd H1 q (.lst [])) := same_new hq
      refine ⟨_, _, .lst (SqL.of (s2 _ _ g2)) (dp_ints ms), .lst (SqL.of upd_same) .nil, PySem.W.shaped_ints ms, PySem.W.shaped_ints [], _, rfl, ?_⟩
      have sb2 : SameBut p H (upd H1 q (.lst [])) := sb.trans (Same.but s2)
      have k1 := s2 _ _ g1
      have k2 := s2 _ _ g2
      generalize upd H1 q (.lst []) = H2 at sb2 k1 k2 ⊢
      have dml : ∀ i : Int, 0 ≤ i → i < ms.length → ∃ z : Int, atI (ms.map V.int) i = some (V.int z) := fun i h0 h1 => by
        refine ⟨ms[i.toNat]'(by omega), at_of (j := i.toNat) (by omega) ?_⟩
        rw [List.getElem?_map, List.getElem?_eq_getElem (by omega)]
        rfl
      refine ite2 (fun hk => ?_) (fun hk => ?_)
      have hne : 0 < ms.length := by
        cases ms with
        | nil => exact absurd hk (by decide)
        | cons a r => simp
      have i0 : 0 ≤ n % (ms.length : Int) := Int.emod_nonneg _ (by omega)
      have i1 : n % (ms.length : Int) < ms.length := Int.emod_lt_of_pos _ (by omega)
      obtain ⟨z, hz⟩ := dml _ i0 i1
      have hz' : atI (ms.map V.int) (n % ((ms.map V.int).length : Int)) = some (V.int z) := by rw [List.length_map]; exact hz
      have hp' : (0 : Int) < ((ms.map V.int).length : Int) := by rw [List.length_map]; omega
      refine ⟨_, rfl, p, _, _, _, rfl, rfl, SqL.of k1, atI_nat (j := 0) y0, _, rfl, .inl ⟨_, rfl, _, rfl, p, _, _, _, rfl, rfl, SqL.of k1, atI_nat (j := 0) y0, l, _, rfl, .inl (SqL.of k2), _, _, rfl, rfl, hp', l, _, _, _, rfl, rfl, SqL.of k2, hz', ?_⟩⟩
      clear hz hz'
      rotate_left
      dsimp only
      generalize 92703 * n + 2703 = z
      all_goals
        -- at < len(cells) and abs(cell) >= 10 ** 18
        refine ⟨_, rfl, _, rfl, p, _, _, _, rfl, rfl, SqL.of k1, atI_nat (j := 0) y0, l, _, rfl, .inl (SqL.of k2), _, _, rfl, rfl, _, rfl, ?_⟩
        refine ite2 (fun h6 => ?_) (fun h6 => ?_)
        refine ⟨_, rfl, _, rfl, _, _, rfl, rfl, ⟨by decide, by decide, by decide⟩, _, _, rfl, rfl, _, rfl, ?_⟩
        refine ite2 (fun h7 => ?_) (fun h7 => ?_)
        have h8 := of_decide_eq_true h7
        have e18 : (10 : Int) ^ (18 : Int).toNat = 1000000000000000000 := by decide
        rw [e18] at h8
        refine ⟨_, rfl, _, rfl, _, _, rfl, rfl, ⟨by decide, by decide, by decide⟩, _, _, rfl, rfl, _, _, rfl, rfl, small_mul (by decide) (by decide), _, rfl, _, _, rfl, rfl, .inr ⟨_, rfl, _, _, rfl, rfl, ?_⟩⟩
        rw [e18]
        have hg : 0 ≤ 2 * ((if z < 0 then -z else z) - 1000000000000000000) + (if decide (z < 0) = true then 1 else 0) := by
          split <;> omega
        refine ⟨_, rfl, .inl ⟨_, rfl, _, rfl, _, _, rfl, rfl, ⟨hm, hlog⟩, _, rfl, p, _, _, 2, rfl, rfl, k1, rfl, ?_⟩⟩
        refine ⟨_, rfl, .inl ⟨_, rfl, _, rfl, _, _, rfl, rfl, hm, ?_⟩⟩
        exact k _ _ (Int.emod_nonneg _ (by omega)) (Int.emod_lt_of_pos _ hm) (sb2.trans fun b o nb e => by rw [upd_ne nb]; exact e) ⟨ms, n + 1, _, upd_same, by rw [upd_ne nlp]; exact k2, hms, by omega, by omega, Int.ediv_nonneg hg (by omega)⟩
        all_goals
          have pen2 : PenAt H2 p l (N + 1) := ⟨ms, n + 1, 0, k1, k2, hms, by omega, by omega, by omega⟩
          have q1 : 0 ≤ z % 2147483549 := Int.emod_nonneg _ (by decide)
          have q2 : z % 2147483549 < 2147483549 := Int.emod_lt_of_pos _ (by decide)
          refine ⟨_, rfl, .inl ⟨_, rfl, _, _, rfl, rfl, (by show (0 : Int) < 2147483549; decide), _, rfl, _, _, rfl, rfl, small_mul (by decide) (by decide), _, _, rfl, rfl, _, _, rfl, rfl, _, _, rfl, rfl, (small_pow (by omega) (by omega)).1, .inl ⟨_, rfl, _, _, rfl, rfl, (by show (0 : Int) < 2147483629; decide), ?_⟩⟩⟩
          have q3 : 0 ≤ (z % 2147483549 + 85561 * n + 2703) ^ (5 : Int).toNat % 2147483629 := Int.emod_nonneg _ (by decide)
          have q4 : (z % 2147483549 + 85561 * n + 2703) ^ (5 : Int).toNat % 2147483629 < 2147483629 := Int.emod_lt_of_pos _ (by decide)
          dsimp only
          generalize (z % 2147483549 + 85561 * n + 2703) ^ (5 : Int).toNat % 2147483629 = m1 at q3 q4
          have b1 : m1 * (2 * n + 727) ≤ 2147483648 * (2 * 100000 + 727) := Int.mul_le_mul (by omega) (by omega) (by omega) (by omega)
          have b2 : 0 ≤ m1 * (2 * n + 727) := Int.mul_nonneg q3 (by omega)
          have b3 : 76353 * n * n ≤ 76353 * 100000 * 100000 := Int.mul_le_mul (by omega) (by omega) (by omega) (by omega)
          have b4 : 0 ≤ 76353 * n * n := Int.mul_nonneg (by omega) (by omega)
          refine ⟨_, rfl, _, rfl, _, _, rfl, rfl, small_mul (by decide) (by decide), _, _, rfl, rfl, _, _, rfl, rfl, small_mul (by omega) (by omega), _, rfl, _, _, rfl, rfl, small_mul (by decide) (by decide), _, rfl, _, _, rfl, rfl, small_mul (by omega) (by omega), _, _, rfl, rfl, _, _, rfl, rfl, _, _, rfl, rfl, (small_pow (by omega) (by omega)).2, .inl ⟨_, rfl, _, _, rfl, rfl, (by show (0 : Int) < 2147483587; decide), ?_⟩⟩
          refine ⟨_, rfl, _, _, rfl, rfl, ⟨by decide, by decide⟩, .inl ⟨_, rfl, _, rfl, _, _, rfl, rfl, hm, ?_⟩⟩
          exact k _ _ (Int.emod_nonneg _ (by omega)) (Int.emod_lt_of_pos _ hm) sb2 pen2
end
section
variable {P : Program} {w : World} {K : PySem.W.Frag} {mg : Str → Option Value} {base : Heap} {C fWhole fBetw fDay fChk fDraw fPick : Addr} {fdD fdP : FuncData}
/-- a def of the module that keeps its promise -/
structure Df (P : Program) (w : World) (K : PySem.W.Frag) (mg : Str → Option Value) (base : Heap) (x : Str) (k : Nat) (f : Addr) (fd : FuncData) (ps : List Str) (sp : Sp) : Prop where
  F : FnOk P w K mg base CX0 k f fd ps sp
  b : Binds K fd ps []
  kp : PySem.W.keepIn K (.ref f) = true
  g : mg x = some (.ref f)
theorem log_small {n : Int} (h0 : 0 ≤ n) (h : n < 2 ^ 64) : n.natAbs.log2 < 9000 := by
  have e : (2 : Int) ^ 64 = 18446744073709551616 := by decide
  have e2 : (2 : Nat) ^ 64 = 18446744073709551616 := by decide
  exact Nat.lt_trans (PySem.Flt.log2_lt_of (k := 64) (by decide) (by rw [e2]; omega)) (by decide)
/-- one of a list's items -/
def spPick : Sp := fun vs H Q _ => ∃ (p l a : Addr) (N : Int) (xs : List V), vs = [.ref p, .ref a] ∧ PenAt H p l N ∧ N ≤ 100000 ∧ H a = some (.lst xs) ∧ a ≠ p ∧ 0 < xs.length ∧ xs.length ≤ 1000 ∧
  ∀ (i : Nat) (v : V) (H' : Hp), xs[i]? = some v → SameBut p H H' → PenAt H' p l (N + 1) → Q v H'
theorem scPick : FnScope ["_law_pen_here", "_law_some"] ["_law_pen_here", "_law_some"] (defScope sPick) := ⟨rfl, rfl, rfl, by decide +kernel, rfl, by decide +kernel, by decide +kernel⟩
theorem ok_pick {f : Addr} {fd : FuncData} (F : Fun K "_law_pick" "_law_pick" sPick f fd) (T : Txt K mg C fWhole fBetw fDay fChk) (D : Df P w K mg base "_law_draw" 1 fDraw fdD ["_law_pen_here", "_law_many"] spDraw) : FnOk P w K mg base CX0 2 f fd ["_law_pen_here", "_law_some"] spPick := by
  refine F.ok scPick (fun vs H Q E h => ?_) (fun cdv A outer s H vs Q E hr h => ?_)
  · obtain ⟨p, l, a, N, xs, rfl, _⟩ := h
    rfl
  · obtain ⟨p, l, a, N, xs, rfl, pen, hN, ha, nap, h0, h1, k⟩ := h
    refine ⟨_, pss_one (ps_ret (pe_ix ix_list (pv 1) (pe_call D.F hr rfl D.g D.kp D.b .nil pass0 (pa_cons (pv 0) (pa_cons (pe_callB call_len_seq (by rfl) T.zLen PySem.boot_len (pa_cons (pv 1) pa_nil)) pa_nil))) (fun _ _ => rfl))), ?_⟩
    refine ⟨_, rfl, _, rfl, _, rfl, a, _, rfl, .inl (SqL.of ha), p, l, N, _, rfl, pen, by omega, log_small (by omega) (by omega), hN, fun r H' r0 r1 sb pen' => ?_⟩
    have hv : xs[r.toNat]? = some (xs[r.toNat]'(by omega)) := List.getElem?_eq_getElem (by omega)
    exact ⟨a, _, _, _, rfl, rfl, SqL.of (sb _ _ nap ha), at_of (j := r.toNat) (by omega) hv, k _ _ _ hv sb pen'⟩
end
end My
namespace My
open PySem PySem.Spec PyProof.Rows L2
abbrev sBCI : Stmt := inClass (top 4) 0
abbrev sTMI : Stmt := inClass (top 5) 0
theorem lt_ne : ¬ (("_lengths" : Str) = "_total") := by decide +kernel
def flds (t : Addr) (n : Int) : List (Str × V) := putF "_total" (.int n) (putF "_lengths" (.ref t) [])
theorem flds_l (t : Addr) (n : Int) : (flds t n).lookup ("_lengths" : Str) = some (.ref t) := by
  unfold flds
  rw [lookup_putF, if_neg lt_ne, lookup_putF, if_pos rfl]
theorem flds_t (t : Addr) (n : Int) : (flds t n).lookup ("_total" : Str) = some (.int n) := by
  unfold flds
  rw [lookup_putF, if_pos rfl]
/-- lengths that a cycle may have -/
structure Good (ls : List Int) : Prop where
  pos : ∀ l ∈ ls, 1 ≤ l ∧ l ≤ 60
  ne : 0 < ls.length
  few : ls.length ≤ 12
  sum : ls.sum ≤ 60
/-- a Cycle of these lengths stands at p -/
structure CycAt (C : Addr) (H : Hp) (p : Addr) (ls : List Int) : Prop where
  ob : ∃ dx t, H p = some (.ins C dx (flds t ls.sum)) ∧ H t = some (.tup (ls.map V.int))
  ok : Good ls
theorem CycAt.ext {C : Addr} {H H' : Hp} {p : Addr} {ls : List Int} (c : CycAt C H p ls) (s : LamX.ExtN H H') : CycAt C H' p ls :=
  ⟨let ⟨dx, t, h1, h2⟩ := c.ob; ⟨dx, t, s _ _ h1 (fun _ z => by cases z), s _ _ h2 (fun _ z => by cases z)⟩, c.ok⟩
theorem CycAt.same {C : Addr} {H H' : Hp} {p : Addr} {ls : List Int} (c : CycAt C H p ls) (s : Same H H') : CycAt C H' p ls :=
  ⟨let ⟨dx, t, h1, h2⟩ := c.ob; ⟨dx, t, s _ _ h1, s _ _ h2⟩, c.ok⟩
theorem CycAt.but {C : Addr} {H H' : Hp} {p q : Addr} {ls : List Int} (c : CycAt C H p ls) (s : SameBut q H H') {xs : List V} (hq : H q = some (.lst xs)) : CycAt C H' p ls :=
  ⟨let ⟨dx, t, h1, h2⟩ := c.ob; ⟨dx, t, s _ _ (ne_of h1 hq (by intro z; cases z)) h1, s _ _ (ne_of h2 hq (by intro z; cases z)) h2⟩, c.ok⟩
inductive AV (H : Hp) : V → Prop where
  | non : AV H .non
  | bl (b : Bool) : AV H (.bl b)
  | int (i : Int) : AV H (.int i)
  | str (z : Str) : AV H (.str z)
  | tup {a : Addr} {xs : List V} (h : H a = some (.tup xs)) : AV H (.ref a)
  | lst {a : Addr} {xs : List V} (h : H a = some (.lst xs)) : AV H (.ref a)
  | dct {a : Addr} (h : H a = some (.dK [])) : AV H (.ref a)
theorem AV.ext {H H' : Hp} {v : V} (o : AV H v) (e : LamX.ExtN H H') : AV H' v := by
  cases o with
  | non => exact .non
  | bl b => exact .bl b
  | int i => exact .int i
  | str z => exact .str z
  | tup h => exact .tup (e _ _ h fun ps z => by cases z)
  | lst h => exact .lst (e _ _ h fun ps z => by cases z)
  | dct h => exact .dct (e _ _ h fun ps z => by cases z)
theorem AV.same {H H' : Hp} {v : V} (o : AV H v) (e : Same H H') : AV H' v := o.ext (.of e)
theorem AV.but {H H' : Hp} {v : V} {p : Addr} {ys : List V} (o : AV H v) (e : SameBut p H H') (hp : H' p = some (.lst ys)) : AV H' v := by
  have go : ∀ {a : Addr} {ob : HO}, H a = some ob → (a ≠ p → H' a = some ob → AV H' (.ref a)) → AV H' (.ref a) := fun {a ob} h k => by
    by_cases z : a = p
    · subst z
      exact .lst hp
    · exact k z (e _ _ z h)
  cases o with
  | non => exact .non
  | bl b => exact .bl b
  | int i => exact .int i
  | str z => exact .str z
  | tup h => exact go h fun _ q => .tup q
  | lst h => exact go h fun _ q => .lst q
  | dct h => exact go h fun _ q => .dct q
def isI : V → Bool
  | .int _ => true
  | _ => false
/-- what kind of thing it is -/
structure Kinds (K : PySem.W.Frag) (H : Hp) (v : V) : Prop where
  ex : ∃ (t : String) (b1 b2 : Bool), TyX K H v (.type t) ∧ kitB t "int" = some b1 ∧ kitB t "bool" = some b2 ∧ (b1 && !b2) = isI v
theorem AV.kinds {K : PySem.W.Frag} {H : Hp} {v : V} (o : AV H v) : Kinds K H v := by
  cases o with
  | non => exact ⟨"NoneType", false, false, .base .non, by decide +kernel, by decide +kernel, rfl⟩
  | bl b => exact ⟨"bool", true, true, .base (.bl b), by decide +kernel, by decide +kernel, rfl⟩
  | int i => exact ⟨"int", true, false, .base (.int i), by decide +kernel, by decide +kernel, rfl⟩
  | str z => exact ⟨"str", false, false, .base (.str z), by decide +kernel, by decide +kernel, rfl⟩
  | tup h => exact ⟨"tuple", false, false, .base (.tup h), by decide +kernel, by decide +kernel, rfl⟩
  | lst h => exact ⟨"list", false, false, .base (.lst h), by decide +kernel, by decide +kernel, rfl⟩
  | dct h => exact ⟨"dict", false, false, .base (.dK h), by decide +kernel, by decide +kernel, rfl⟩
inductive Out where
  | cyc (k : Nat)
  | many (w : Str) (n : Int)
  | ok (ls : List Int)
def okV : V → Bool
  | .int i => decide (1 ≤ i) && decide (i ≤ 60)
  | _ => false
def intOf : V → Int
  | .int i => i
  | _ => 0
def firstBad : List V → Option Nat
  | [] => none
  | x :: r => if okV x then (firstBad r).map (· + 1) else some 0
def outOf (xs : List V) : Out :=
  match firstBad xs with
  | some k => .cyc k
  | none => if xs.length = 0 then .cyc 0 else if 12 < xs.length then .many "blocks" 12 else if 60 < (xs.map intOf).sum then .many "days" 60 else .ok (xs.map intOf)
theorem bad_none : ∀ {xs : List V}, firstBad xs = none → (∀ x ∈ xs, okV x = true) ∧ xs = (xs.map intOf).map V.int
  | [], _ => ⟨fun x h => absurd h (by simp), rfl⟩
  | x :: r, h => by
    unfold firstBad at h
    by_cases e : okV x = true
    · rw [if_pos e] at h
      obtain ⟨h1, h2⟩ := bad_none (Option.map_eq_none_iff.mp h)
      refine ⟨fun y hy => ?_, ?_⟩
      · rcases List.mem_cons.mp hy with z | z
        · rw [z]; exact e
        · exact h1 y z
      · cases x with
        | int i => exact congrArg (V.int i :: ·) h2
        | _ => cases e
    · rw [if_neg e] at h
      cases h
theorem bad_at : ∀ {xs : List V} {i : Nat} {x : V}, xs[i]? = some x → (∀ j, j < i → ∀ y, xs[j]? = some y → okV y = true) → okV x = false → firstBad xs = some i
  | [], i, x, h, _, _ => by simp at h
  | y :: r, 0, x, h, _, e => by
    have z : y = x := by simpa using h
    unfold firstBad
    rw [z, e]
    rfl
  | y :: r, i + 1, x, h, a, e => by
    have e0 := a 0 (Nat.succ_pos _) y (by simp)
    unfold firstBad
    rw [e0, if_pos rfl, bad_at (xs := r) (i := i) (x := x) (by simpa using h) (fun j hj z hz => a (j + 1) (Nat.succ_lt_succ hj) z (by simpa using hz)) e]
    rfl
theorem bad_all : ∀ {xs : List V}, (∀ (j : Nat) (y : V), xs[j]? = some y → okV y = true) → firstBad xs = none
  | [], _ => rfl
  | x :: r, h => by
    unfold firstBad
    rw [h 0 x (by simp), if_pos rfl, bad_all (xs := r) fun j y hy => h (j + 1) y (by simpa using hy)]
    rfl
theorem bad_lt : ∀ {xs : List V} {k : Nat}, firstBad xs = some k → k < xs.length
  | [], _, h => by cases h
  | x :: r, k, h => by
    unfold firstBad at h
    by_cases e : okV x = true
    · rw [if_pos e] at h
      obtain ⟨j, hj, rfl⟩ := Option.map_eq_some_iff.mp h
      have := bad_lt hj
      show j + 1 < r.length + 1
      omega
    · rw [if_neg e] at h
      cases h
      exact Nat.succ_pos _
theorem out_ok {xs : List V} {ls : List Int} (h : outOf xs = .ok ls) : Good ls ∧ xs = ls.map V.int := by
  unfold outOf at h
  split at h
  · cases h
  · rename_i e
    obtain ⟨h1, h2⟩ := bad_none e
    split at h
    · cases h
    · split at h
      · cases h
      · split at h
        · cases h
        · cases h
          refine ⟨⟨fun l hl => ?_, ?_, ?_, ?_⟩, h2⟩
          · obtain ⟨x, hx, rfl⟩ := List.mem_map.mp hl
            have := h1 x hx
            cases x with
            | int i =>
              unfold okV at this
              rw [Bool.and_eq_true, decide_eq_true_eq, decide_eq_true_eq] at this
              exact this
            | _ => cases this
          · rw [List.length_map]; omega
          · rw [List.length_map]; omega
          · omega
theorem out_lt {xs : List V} {k : Nat} (h : outOf xs = .cyc k) (hl : xs.length ≤ 1000) : k < 1000 := by
  unfold outOf at h
  split at h
  · rename_i e
    cases h
    have := bad_lt e
    omega
  · split at h
    · cases h
      decide
    · split at h
      · cases h
      · split at h
        · cases h
        · cases h
def spErI (f : Str) (C : Addr) : Sp := fun vs H Q _ => ∃ (a : Addr) (y : V), vs = [.ref a, y] ∧ H a = some (exo a C none) ∧ ∀ dx, H dx = none → dx ≠ a → Q .non (upd (upd H dx (exd dx [(f, y)])) a (exo a C (some dx)))
def spErI2 (f g : Str) (C : Addr) : Sp := fun vs H Q _ => ∃ (a : Addr) (y z : V), vs = [.ref a, y, z] ∧ H a = some (exo a C none) ∧ ∀ dx, H dx = none → dx ≠ a → Q .non (upd (upd (upd H dx (exd dx [(f, y)])) a (exo a C (some dx))) dx (exd dx [(g, z), (f, y)]))
/-- what is known of an error's class at C -/
structure ErC (K : PySem.W.Frag) (mg : Str → Option Value) (x f : Str) (C fI : Addr) : Prop where
  oex : OexC K C
  iC : PySem.W.findIn K (.ref C) "__init__" = some (some (.ref fI))
  tI : PySem.W.typeIn K (.ref fI) = some (.type "function")
  g : mg x = some (.ref C)
  no : PySem.W.findIn K (.ref C) f = some none
  xf : XfC K C
  ec : ExcC K C
/-- the errors' classes, their __init__ with their promises -/
structure ErM (P : Program) (w : World) (K : PySem.W.Frag) (mg : Str → Option Value) (base : Heap) (cBC fBC cTM fTM : Addr) (dBC dTM : FuncData) : Prop where
  c : ErC K mg "BadCycle" "at" cBC fBC
  F : FnOk P w K mg base CX0 1 fBC dBC ["self", "at"] (spErI "at" cBC)
  b : Binds K dBC ["self", "at"] []
  c2 : ErC K mg "TooMany" "what" cTM fTM
  c3 : ErC K mg "TooMany" "most" cTM fTM
  F2 : FnOk P w K mg base CX0 1 fTM dTM ["self", "what", "most"] (spErI2 "what" "most" cTM)
  b2 : Binds K dTM ["self", "what", "most"] []
theorem er_made {f : Str} {C : Addr} {y : V} {H : Hp} {Q : XK} (k : ∀ d H', Same H H' → H' d = some (.xd [(f, y)]) → Q (.ref C) (some d) H') :
    ([y] : List V).length ≤ 1000 ∧ ∀ a, H a = none → spErI f C (.ref a :: ([y] ++ [])) (upd H a (exo a C none)) (fun v H2 => v = .non ∧ ∃ (d : Addr) (fs : List (Str × V)), H2 a = some (exo a C (some d)) ∧ H2 d = some (exd d fs) ∧ H d = none ∧ Q (.ref C) (some d) (upd (L2.del H2 a) d (.xd fs))) (fun _ _ _ => False) := by
  refine ⟨(by show 1 ≤ 1000; decide), fun a na => ⟨a, y, rfl, upd_same, fun dx nd ne => ⟨rfl, dx, [(f, y)], upd_same, ?_, ?_, ?_⟩⟩⟩
  · rw [upd_ne ne, upd_same]
  · rw [upd_ne ne] at nd
    exact nd
  · have nd' : H dx = none := by
      rw [upd_ne ne] at nd
      exact nd
    refine k dx _ (fun b o e => ?_) upd_same
    have n1 := ne_of_none e na
    have n2 := ne_of_none e nd'
    rw [upd_ne n2, L2.del_ne n1, upd_ne n1, upd_ne n2, upd_ne n1]
    exact e
theorem er_made2 {f g : Str} {C : Addr} {y z : V} {H : Hp} {Q : XK} (k : ∀ d H', Same H H' → H' d = some (.xd [(g, z), (f, y)]) → Q (.ref C) (some d) H') :
    ([y, z] : List V).length ≤ 1000 ∧ ∀ a, H a = none → spErI2 f g C (.ref a :: ([y, z] ++ [])) (upd H a (exo a C none)) (fun v H2 => v = .non ∧ ∃ (d : Addr) (fs : List (Str × V)), H2 a = some (exo a C (some d)) ∧ H2 d = some (exd d fs) ∧ H d = none ∧ Q (.ref C) (some d) (upd (L2.del H2 a) d (.xd fs))) (fun _ _ _ => False) := by
  refine ⟨(by show 2 ≤ 1000; decide), fun a na => ⟨a, y, z, rfl, upd_same, fun dx nd ne => ⟨rfl, dx, [(g, z), (f, y)], ?_, upd_same, ?_, ?_⟩⟩⟩
  · rw [upd_ne (Ne.symm ne), upd_same]
  · rw [upd_ne ne] at nd
    exact nd
  · have nd' : H dx = none := by
      rw [upd_ne ne] at nd
      exact nd
    refine k dx _ (fun b o e => ?_) upd_same
    have n1 := ne_of_none e na
    have n2 := ne_of_none e nd'
    rw [upd_ne n2, L2.del_ne n1, upd_ne n2, upd_ne n1, upd_ne n2, upd_ne n1]
    exact e
/-- what is wished of the errors -/
def Errs (cBC cTM : Addr) (o : Out) (H : Hp) (E : XK) : Prop :=
  match o with
  | .cyc k => ∀ dd H', Same H H' → H' dd = some (.xd [("at", .int (k : Nat))]) → E (.ref cBC) (some dd) H'
  | .many w n => ∀ dd H', Same H H' → H' dd = some (.xd [("most", .int n), ("what", .str w)]) → E (.ref cTM) (some dd) H'
  | .ok _ => True
theorem Errs.same {cBC cTM : Addr} {o : Out} {H H1 : Hp} {E : XK} (h : Errs cBC cTM o H E) (s : Same H H1) : Errs cBC cTM o H1 E := by
  cases o with
  | cyc k => exact fun dd H' s' => h dd H' (s.trans s')
  | many w n => exact fun dd H' s' => h dd H' (s.trans s')
  | ok ls => trivial
section
variable {P : Program} {w : World} {K : PySem.W.Frag} {mg : Str → Option Value} {base : Heap} {C fWhole fBetw fDay fChk cBC fBC cTM fTM : Addr} {dBC dTM : FuncData}
theorem scBCI : FnScope ["self", "at"] ["self", "at"] (defScope sBCI) := ⟨rfl, rfl, rfl, by decide +kernel, rfl, by decide +kernel, by decide +kernel⟩
theorem ok_bci {f : Addr} {fd : FuncData} (F : Fun K "__init__" "BadCycle.__init__" sBCI f fd) (Z : ErC K mg "BadCycle" "at" cBC fBC) : FnOk P w K mg base CX0 1 f fd ["self", "at"] (spErI "at" cBC) := by
  refine F.ok scBCI (fun vs H Q E h => ?_) (fun cdv A outer s H vs Q E hr h => ?_)
  · obtain ⟨a, y, rfl, _⟩ := h
    rfl
  · obtain ⟨a, y, rfl, ha, k⟩ := h
    refine ⟨_, pss_one (ps_ost (pv 0) (pv 1)), ?_⟩
    exact ⟨_, rfl, _, rfl, a, cBC, rfl, Z.oex, Z.no, .inl ⟨ha, fun dx n ne => k dx n ne⟩⟩
theorem scTMI : FnScope ["self", "what", "most"] ["self", "what", "most"] (defScope sTMI) := ⟨rfl, rfl, rfl, by decide +kernel, rfl, by decide +kernel, by decide +kernel⟩
theorem ok_tmi {f : Addr} {fd : FuncData} (F : Fun K "__init__" "TooMany.__init__" sTMI f fd) (Z : ErC K mg "TooMany" "what" cTM fTM) (Z2 : ErC K mg "TooMany" "most" cTM fTM) : FnOk P w K mg base CX0 1 f fd ["self", "what", "most"] (spErI2 "what" "most" cTM) := by
  refine F.ok scTMI (fun vs H Q E h => ?_) (fun cdv A outer s H vs Q E hr h => ?_)
  · obtain ⟨a, y, z, rfl, _⟩ := h
    rfl
  · obtain ⟨a, y, z, rfl, ha, k⟩ := h
    refine ⟨_, pss_cons (ps_ost (pv 0) (pv 1)) (pss_one (ps_ost (pv 0) (pv 2))), ?_⟩
    refine ⟨_, rfl, _, rfl, a, cTM, rfl, Z.oex, Z.no, .inl ⟨ha, fun dx n ne => ?_⟩⟩
    exact ⟨_, rfl, _, rfl, a, cTM, rfl, Z2.oex, Z2.no, .inr ⟨dx, _, upd_same, by rw [upd_ne ne, upd_same], (by show 1 ≤ 900; decide), k dx n ne⟩⟩
def spChk (cBC cTM : Addr) : Sp := fun vs H Q E => ∃ (t : Addr) (xs : List V), vs = [.ref t] ∧ H t = some (.tup xs) ∧ (∀ x ∈ xs, AV H x) ∧ Errs cBC cTM (outOf xs) H E ∧ ∀ ls, outOf xs = .ok ls → ∀ H', Same H H' → Q .non H'
theorem scChk : FnScope ["lengths", "at", "length"] ["lengths"] (defScope sChk) := ⟨rfl, rfl, rfl, by decide +kernel, rfl, by decide +kernel, by decide +kernel⟩
theorem ok_chk {f : Addr} {fd fdW fdB : FuncData} (F : Fun K "check_lengths" "check_lengths" sChk f fd) (T : Txt K mg C fWhole fBetw fDay fChk) (FW : Fun K "is_whole" "is_whole" sWhole fWhole fdW) (bW : Binds K fdW ["value"] [])
    (FB : Fun K "is_between" "is_between" sBetw fBetw fdB) (bB : Binds K fdB ["value", "low", "high"] []) (Z : ErM P w K mg base cBC fBC cTM fTM dBC dTM) : FnOk P w K mg base (L2.CX P w) 3 f fd ["lengths"] (spChk cBC cTM) := by
  have GB : FnOk P w K mg base CX0 2 fBetw fdB ["value", "low", "high"] (spBetw K) := ok_betw FB T FW bW
  obtain ⟨tb, gb⟩ := T.gMB
  obtain ⟨tt, gt⟩ := T.gMT
  refine F.okX scChk (fun vs H Q E h => ?_) (fun cdv A outer s H vs Q E hr h => ?_)
  · obtain ⟨t, xs, rfl, _⟩ := h
    rfl
  · obtain ⟨t, xs, rfl, ht, av, er, k⟩ := h
    refine ⟨_, pss_cons (ps_for (passes_of rfl) rfl (pi_enumT (by rfl) T.zEnum (pa_cons (pv 0) pa_nil)) (pg_tup rfl (pgs_cons (pg_name (i := 1) scChk.nd rfl (.inl rfl)) (pgs_cons (pg_name (i := 2) scChk.nd rfl (.inl rfl)) pgs_nil)))
        (pss_one (ps_if (pt_not (pt_val (pe_call GB hr rfl T.gBetw FB.kp bB .nil pass0 (pa_cons (pv 2) (pa_cons pe_int (pa_cons (pe_glob (v := .int 60) rfl gt ⟨_, rfl⟩) pa_nil))))))
          (pss_one (ps_raise rfl (takes_of rfl rfl rfl rfl) (pmk_oex Z.c.oex Z.c.iC Z.c.tI Z.F (hr.mono (by decide)) Z.b .nil pass0 rfl Z.c.g (pa_cons (pv 1) pa_nil)))) pss_nil)))
      (pss_cons (ps_if (pt_not (pt_truth (pv 0) (by intro _; rfl))) (pss_one (ps_raise rfl (takes_of rfl rfl rfl rfl) (pmk_oex Z.c.oex Z.c.iC Z.c.tI Z.F (hr.mono (by decide)) Z.b .nil pass0 rfl Z.c.g (pa_cons pe_int pa_nil)))) pss_nil)
      (pss_cons (ps_if (pt_cmpR op_gt (pe_callB call_len_seq (by rfl) T.zLen PySem.boot_len (pa_cons (pv 0) pa_nil)) (pe_glob (v := .int 12) rfl gb ⟨_, rfl⟩) (nomark _))
        (pss_one (ps_raise rfl (takes_of rfl rfl rfl rfl) (pmk_oex Z.c2.oex Z.c2.iC Z.c2.tI Z.F2 (hr.mono (by decide)) Z.b2 .nil pass0 rfl Z.c2.g (pa_cons pe_str (pa_cons (pe_glob (v := .int 12) rfl gb ⟨_, rfl⟩) pa_nil))))) pss_nil)
      (pss_one (ps_if (pt_cmpR op_gt (pe_callB (cr_sumT rfl) (by rfl) T.zSum (by decide +kernel) (pa_cons (pv 0) pa_nil)) (pe_glob (v := .int 60) rfl gt ⟨_, rfl⟩) (nomark _))
        (pss_one (ps_raise rfl (takes_of rfl rfl rfl rfl) (pmk_oex Z.c2.oex Z.c2.iC Z.c2.tI Z.F2 (hr.mono (by decide)) Z.b2 .nil pass0 rfl Z.c2.g (pa_cons pe_str (pa_cons (pe_glob (v := .int 60) rfl gt ⟨_, rfl⟩) pa_nil))))) pss_nil)))), ?_⟩
    refine ⟨_, rfl, t, xs, rfl, SqT.of ht, for_enumT (K := K) (a := t) (xs := xs) (fun i σ H' => ∃ (u v : Option V), σ = [some (.ref t), u, v] ∧ Same H H' ∧ ∀ j, j < i → ∀ y, xs[j]? = some y → okV y = true)
      ⟨none, none, rfl, Same.refl H, fun j hj => absurd hj (Nat.not_lt_zero _)⟩ (fun i σ H' _ ⟨_, _, _, s1, _⟩ => SqT.of (s1 _ _ ht)) ?_ ?_⟩
    · rintro i x σ H' Tn hi ⟨u, v, rfl, s1, ok⟩ hT
      have s2 := s1.trans (same_new (o := .tup [.int (i : Nat), x]) hT)
      obtain ⟨ty, b1, b2, hty, h1, h2, h3⟩ := (AV.kinds (K := K) ((av x (List.mem_of_getElem? hi)).same s2)).ex
      refine ⟨Tn, _, rfl, SqT.of upd_same, rfl, _, _, rfl, _, _, rfl, rfl, ?_⟩
      have bad : okV x = false → Errs cBC cTM (.cyc i) H E := fun e => by
        have z : outOf xs = .cyc i := by unfold outOf; rw [bad_at hi ok e]
        rw [z] at er
        exact er
      refine ⟨_, rfl, x, ty, b1, b2, 1, 60, rfl, hty, h1, h2, (fun q => ?_), fun q => ?_⟩
      · have e : okV x = false := by
          rw [h3] at q
          cases x with
          | int i => cases q
          | _ => rfl
        exact ⟨_, rfl, iteT ⟨_, rfl, er_made ((bad e).same s2)⟩⟩
      · rw [h3] at q
        obtain ⟨z, rfl⟩ : ∃ z, x = .int z := by
          cases x with
          | int i => exact ⟨i, rfl⟩
          | _ => cases q
        refine ⟨z, rfl, _, rfl, ?_⟩
        cases e : (decide (1 ≤ z) && decide (z ≤ 60)) with
        | false => exact iteT ⟨_, rfl, er_made ((bad e).same s2)⟩
        | true =>
          refine iteF ⟨_, _, rfl, s2, fun j hj y hy => ?_⟩
          by_cases c : j = i
          · subst c
            rw [hi] at hy
            cases hy
            exact e
          · exact ok j (by omega) y hy
    · rintro σ H' ⟨u, v, rfl, s1, ok⟩
      have ht' := s1 _ _ ht
      have none_ : firstBad xs = none := bad_all fun j y hy => ok j (List.getElem?_eq_some_iff.mp hy).1 y hy
      obtain ⟨_, hmap⟩ := bad_none none_
      refine ⟨_, rfl, _, .inr (.inl ⟨_, SqT.of ht', rfl⟩), ?_⟩
      have eO : outOf xs = if xs.length = 0 then .cyc 0 else if 12 < xs.length then .many "blocks" 12 else if 60 < (xs.map intOf).sum then .many "days" 60 else .ok (xs.map intOf) := by unfold outOf; rw [none_]
      by_cases e0 : xs.length = 0
      · have en : xs = [] := List.length_eq_zero_iff.mp e0
        rw [if_pos e0] at eO
        rw [eO] at er
        have e1 : xs.isEmpty = true := by rw [en]; rfl
        rw [e1]
        exact iteT (er_made (er.same s1))
      · have e1 : xs.isEmpty = false := by
          cases xs with
          | nil => exact absurd rfl e0
          | cons a r => rfl
        rw [if_neg e0] at eO
        rw [e1]
        refine iteF ?_
        refine ⟨_, rfl, t, _, rfl, .inr (SqT.of ht'), _, _, rfl, rfl, _, rfl, ?_⟩
        by_cases e2 : 12 < xs.length
        · rw [if_pos e2] at eO
          rw [eO] at er
          rw [decide_eq_true (by omega)]
          exact iteT (er_made2 (er.same s1))
        · rw [if_neg e2] at eO
          rw [decide_eq_false (by omega)]
          refine iteF ?_
          refine ⟨_, rfl, t, xs.map intOf, rfl, SqT.of (by rw [← hmap]; exact ht'), _, _, rfl, rfl, _, rfl, ?_⟩
          by_cases e3 : 60 < (xs.map intOf).sum
          · rw [if_pos e3] at eO
            rw [eO] at er
            rw [decide_eq_true e3]
            exact iteT (er_made2 (er.same s1))
          · rw [if_neg e3] at eO
            rw [decide_eq_false e3]
            exact iteF (k _ eO _ s1)
end
end My
namespace My
open PySem PySem.Spec PyProof.Rows L2
/-- what may come of the making of a Cycle from these values -/
structure MkC (C cBC cTM : Addr) (xs : List V) (H : Hp) (Q : VK) (E : XK) : Prop where
  av : ∀ x ∈ xs, AV H x
  len : xs.length ≤ 1000
  er : Errs cBC cTM (outOf xs) H E
  ok : ∀ ls, outOf xs = .ok ls → ∀ p H', Same H H' → CycAt C H' p ls → Q (.ref p) H'
theorem MkC.same {C cBC cTM : Addr} {xs : List V} {H H1 : Hp} {Q : VK} {E : XK} (m : MkC C cBC cTM xs H Q E) (s : Same H H1) : MkC C cBC cTM xs H1 Q E :=
  ⟨fun x hx => (m.av x hx).same s, m.len, m.er.same s, fun ls e p H' s' c => m.ok ls e p H' (s.trans s') c⟩
def spInitO (C cBC cTM : Addr) : Sp := fun vs H Q E => ∃ (p t dx : Addr) (xs : List V), vs = [.ref p, .ref t] ∧ H p = some (.ins C dx []) ∧ H t = some (.tup xs) ∧ (∀ x ∈ xs, AV H x) ∧ Errs cBC cTM (outOf xs) H E ∧
  ∀ ls, outOf xs = .ok ls → ∀ H', (∀ b o, H b = some o → b ≠ p → H' b = some o) → H' p = some (.ins C dx (flds t ls.sum)) → Q .non H'
def spStarO (C cBC cTM : Addr) : Sp := fun vs H Q E => ∃ ws rest, vs = ws ++ rest ∧ ws.length = (["self"] : List Str).length ∧ rest.length ≤ sizeLine ∧ ∀ p, H p = none → spInitO C cBC cTM (ws ++ [V.ref p]) (upd H p (.tup rest)) Q E
theorem MkC.star {C cBC cTM : Addr} {xs : List V} {H : Hp} {Q : VK} {E : XK} (m : MkC C cBC cTM xs H Q E) {x dx : Addr} (nx : H x = none) (nd : H dx = none) (ne : dx ≠ x) :
    spStarO C cBC cTM (V.ref x :: xs) (upd (upd H dx (.own x)) x (.ins C dx [])) (fun v H2 => v = .non ∧ Q (.ref x) H2) E := by
  refine ⟨[.ref x], xs, rfl, rfl, Nat.le_trans m.len (by decide), fun t nt => ?_⟩
  have nxt : x ≠ t := fun z => by
    rw [← z, upd_same] at nt
    cases nt
  have s1 : Same H (upd (upd H dx (.own x)) x (.ins C dx [])) := fun b o e => by
    rw [upd_ne (ne_of_none e nx), upd_ne (ne_of_none e nd)]
    exact e
  have s2 : Same H (upd (upd (upd H dx (.own x)) x (.ins C dx [])) t (.tup xs)) := s1.trans (same_new nt)
  have hx : (upd (upd (upd H dx (.own x)) x (.ins C dx [])) t (.tup xs)) x = some (.ins C dx []) := by
    rw [upd_ne nxt, upd_same]
  refine ⟨x, t, dx, xs, rfl, hx, upd_same, fun y hy => (m.av y hy).same s2, m.er.same s2, fun ls e H' keep hx' => ⟨rfl, ?_⟩⟩
  obtain ⟨g, hxs⟩ := out_ok e
  refine m.ok ls e x H' (fun b o eb => keep _ _ (s2 _ _ eb) (ne_of_none eb nx)) ⟨⟨dx, t, hx', ?_⟩, g⟩
  rw [← hxs]
  exact keep _ _ upd_same (Ne.symm nxt)
section
variable {P : Program} {w : World} {K : PySem.W.Frag} {mg : Str → Option Value} {base : Heap} {C fWhole fBetw fDay fChk cBC fBC cTM fTM : Addr} {dBC dTM : FuncData}
theorem scInit : FnScope ["self", "lengths"] ((["self"] : List Str) ++ (["lengths"] : List Str)) (defScope sInit) := ⟨rfl, rfl, rfl, by decide +kernel, rfl, by decide +kernel, by decide +kernel⟩
theorem ok_init {f : Addr} {fd fdC : FuncData} (F : Fun K "__init__" "Cycle.__init__" sInit f fd) (T : Txt K mg C fWhole fBetw fDay fChk) (GC : FnOk P w K mg base (L2.CX P w) 3 fChk fdC ["lengths"] (spChk cBC cTM)) (bC : Binds K fdC ["lengths"] []) (kC : PySem.W.keepIn K (.ref fChk) = true) :
    FnR P w K mg base (L2.CX P w) 4 f (spStarO C cBC cTM) := by
  obtain ⟨oc, od, kV, doc, pm, an, cdv, ct, osl, rfl, lk, hcd⟩ := F.ex
  refine StX.fn_star (sp := spInitO C cBC cTM) lk hcd scInit StX.cxUp (StX.bind_star1 (B := fun us => bindArgs (PySem.W.fnOf "__init__" "Cycle.__init__" (defArgs sInit) (defBody sInit) (defScope sInit) .none kV doc pm an cdv ct) ⟨us, []⟩) (p1 := "self") (pv := "lengths") (fun a => by rfl) fun a r rs => by rfl) fun A outer s H vs Q E hr h => ?_
  obtain ⟨p, t, dx, xs, rfl, hp, ht, av, er, k⟩ := h
  have nt : t ≠ p := ne_of ht hp (by intro z; cases z)
  refine ⟨_, (pss_cons (ps_expr (pe_call (E := E) GC hr rfl T.gChk kC bC .nil (passes_call (takes_of rfl rfl rfl rfl) fun _ _ _ _ h => h) (pa_cons (pv 1) pa_nil))) (pss_cons (ps_fld (pv 0) (pv 1) rfl)
    (pss_one (ps_fld (pv 0) (pe_callB (cr_sumT rfl) (by rfl) T.zSum (by decide +kernel) (pa_cons (pv 1) pa_nil)) rfl)))), ?_⟩
  refine ⟨_, rfl, t, xs, rfl, ht, av, er, fun ls e H1 s1 => ?_⟩
  obtain ⟨g, hxs⟩ := out_ok e
  have ht1 := s1 _ _ ht
  rw [hxs] at ht1
  refine ⟨_, rfl, _, rfl, p, C, dx, _, rfl, s1 _ _ hp, T.cl, T.nL, (by show 0 < 1000; decide), ?_⟩
  refine ⟨_, rfl, t, ls, rfl, SqT.of (by rw [upd_ne nt]; exact ht1), _, rfl, p, C, dx, _, rfl, upd_same, T.cl, T.nT, (by show 1 < 1000; decide), ?_⟩
  refine k ls e _ (fun b o e hb => ?_) upd_same
  rw [upd_ne hb, upd_ne hb]
  exact s1 _ _ e
/-- Cycle.of(lengths) -/
def spOf (C cBC cTM : Addr) : Sp := fun vs H Q E => ∃ (a : Addr) (xs : List V), vs = [.ref C, .ref a] ∧ (H a = some (.tup xs) ∨ H a = some (.lst xs)) ∧ MkC C cBC cTM xs H Q E
theorem scOf : FnScope ["cls", "lengths"] ["cls", "lengths"] (defScope sOf) := ⟨rfl, rfl, rfl, by decide +kernel, rfl, by decide +kernel, by decide +kernel⟩
theorem ok_of {f fI : Addr} {fd : FuncData} (F : Fun K "of" "Cycle.of" sOf f fd) (T : Txt K mg C fWhole fBetw fDay fChk) (M : Mk K C fI) (GI : FnR P w K mg base (L2.CX P w) 4 fI (spStarO C cBC cTM)) : FnOk P w K mg base (L2.CX P w) 6 f fd ["cls", "lengths"] (spOf C cBC cTM) := by
  refine F.okX scOf (fun vs H Q E h => ?_) (fun cdv A outer s H vs Q E hr h => ?_)
  · obtain ⟨a, xs, rfl, _⟩ := h
    rfl
  · obtain ⟨a, xs, rfl, ha, m⟩ := h
    refine ⟨_, pss_cons (ps_if (pt_not (pt_val (pe_callB call_isiT (by rfl) T.zIsi (by decide +kernel) (pa_cons (pv 1) (pa_cons (pe_tup (pa_cons (pe_bltn (v := .ty "list") (by rfl) T.zList (by decide +kernel) rfl) (pa_cons (pe_bltn (v := .ty "tuple") (by rfl) T.zTuple (by decide +kernel) rfl) pa_nil))) pa_nil))))) pss_never pss_nil)
      (pss_one (ps_ret (pe_makeStar (E := E) (i := 0) M GI (hr.mono (by decide)) rfl (.inl rfl) (passes_call (takes_of rfl rfl rfl rfl) fun _ _ _ _ h => h) (pv 1)))), ?_⟩
    refine ⟨_, rfl, (by show 2 ≤ sizeLine; decide), fun tp htp => ?_⟩
    have s0 : Same H (upd H tp (.tup [.ty "list", .ty "tuple"])) := same_new htp
    have m0 := m.same s0
    rcases ha with ha | ha
    · refine ⟨_, tp, _, _, [.type "list", .type "tuple"], true, rfl, upd_same, .cons (.ty _) (.cons (.ty _) .nil), .base (.tup (s0 _ _ ha)), kitAny_cons (b := false) (kit_ty (by decide +kernel)) (fun _ => kitAny_cons (b := true) (kit_ty (by decide +kernel)) (fun q => nomatch q) (fun _ => rfl)) (fun q => nomatch q), _, rfl, ?_⟩
      refine iteF ⟨rfl, _, rfl, a, xs, rfl, .inl (SqT.of (s0 _ _ ha)), fun x dx nx ndx nex => m0.star nx ndx nex⟩
    · refine ⟨_, tp, _, _, [.type "list", .type "tuple"], true, rfl, upd_same, .cons (.ty _) (.cons (.ty _) .nil), .base (.lst (s0 _ _ ha)), kitAny_cons (b := true) (kit_ty (by decide +kernel)) (fun q => nomatch q) (fun _ => rfl), _, rfl, ?_⟩
      refine iteF ⟨rfl, _, rfl, a, xs, rfl, .inr (SqL.of (s0 _ _ ha)), fun x dx nx ndx nex => m0.star nx ndx nex⟩
def spGetL (C : Addr) : Sp := fun vs H Q _ => ∃ (p : Addr) (ls : List Int), vs = [.ref p] ∧ CycAt C H p ls ∧ ∀ t, H t = some (.tup (ls.map V.int)) → Q (.ref t) H
def spGetT (C : Addr) : Sp := fun vs H Q _ => ∃ (p : Addr) (ls : List Int), vs = [.ref p] ∧ CycAt C H p ls ∧ Q (.int ls.sum) H
def spLen (C : Addr) : Sp := fun vs H Q _ => ∃ (p : Addr) (ls : List Int), vs = [.ref p] ∧ CycAt C H p ls ∧ Q (.int ls.length) H
theorem scLengths : FnScope ["self"] ["self"] (defScope sLengths) := ⟨rfl, rfl, rfl, by decide +kernel, rfl, by decide +kernel, by decide +kernel⟩
theorem ok_lengths {f : Addr} {fd : FuncData} (F : Fun K "lengths" "Cycle.lengths" sLengths f fd) (T : Txt K mg C fWhole fBetw fDay fChk) : FnOk P w K mg base CX0 1 f fd ["self"] (spGetL C) := by
  refine F.ok scLengths (fun vs H Q E h => ?_) (fun cdv A outer s H vs Q E hr h => ?_)
  · obtain ⟨p, ls, rfl, _⟩ := h
    rfl
  · obtain ⟨p, ls, rfl, ⟨⟨dx, t, h1, h2⟩, g⟩, k⟩ := h
    refine ⟨_, pss_one (ps_ret (pe_fld (pv 0) rfl)), ?_⟩
    exact ⟨_, rfl, p, C, dx, _, _, rfl, h1, T.cl, T.nL, flds_l _ _, k t h2⟩
theorem scTotal : FnScope ["self"] ["self"] (defScope sTotal) := ⟨rfl, rfl, rfl, by decide +kernel, rfl, by decide +kernel, by decide +kernel⟩
theorem ok_total {f : Addr} {fd : FuncData} (F : Fun K "total" "Cycle.total" sTotal f fd) (T : Txt K mg C fWhole fBetw fDay fChk) : FnOk P w K mg base CX0 1 f fd ["self"] (spGetT C) := by
  refine F.ok scTotal (fun vs H Q E h => ?_) (fun cdv A outer s H vs Q E hr h => ?_)
  · obtain ⟨p, ls, rfl, _⟩ := h
    rfl
  · obtain ⟨p, ls, rfl, ⟨⟨dx, t, h1, h2⟩, g⟩, k⟩ := h
    refine ⟨_, pss_one (ps_ret (pe_fld (pv 0) rfl)), ?_⟩
    exact ⟨_, rfl, p, C, dx, _, _, rfl, h1, T.cl, T.nT, flds_t _ _, k⟩
theorem scLen : FnScope ["self"] ["self"] (defScope sLen) := ⟨rfl, rfl, rfl, by decide +kernel, rfl, by decide +kernel, by decide +kernel⟩
theorem ok_len {f : Addr} {fd : FuncData} (F : Fun K "__len__" "Cycle.__len__" sLen f fd) (T : Txt K mg C fWhole fBetw fDay fChk) : FnOk P w K mg base CX0 1 f fd ["self"] (spLen C) := by
  refine F.ok scLen (fun vs H Q E h => ?_) (fun cdv A outer s H vs Q E hr h => ?_)
  · obtain ⟨p, ls, rfl, _⟩ := h
    rfl
  · obtain ⟨p, ls, rfl, ⟨⟨dx, t, h1, h2⟩, g⟩, k⟩ := h
    refine ⟨_, pss_one (ps_ret (pe_callB call_len_seq (by rfl) T.zLen PySem.boot_len (pa_cons (pe_fld (pv 0) rfl) pa_nil))), ?_⟩
    refine ⟨_, rfl, p, C, dx, _, _, rfl, h1, T.cl, T.nL, flds_l _ _, t, _, rfl, .inr (SqT.of h2), ?_⟩
    rw [List.length_map]
    exact k
def spIt (C : Addr) (n : Nat) : Sp := fun vs H Q _ => ∃ (p : Addr) (ls : List Int), vs = [.ref p] ∧ CycAt C H p ls ∧ ∀ t it, H t = some (.tup (ls.map V.int)) → H it = none → n ≤ it → Q (.ref it) (upd H it (ItT t it))
theorem scIter : FnScope ["self"] ["self"] (defScope sIter) := ⟨rfl, rfl, rfl, by decide +kernel, rfl, by decide +kernel, by decide +kernel⟩
theorem ok_iter {f : Addr} {fd : FuncData} (F : Fun K "__iter__" "Cycle.__iter__" sIter f fd) (hb : Binds K fd ["self"] []) (T : Txt K mg C fWhole fBetw fDay fChk) : FnI P w K mg base 1 f (spIt C) := by
  refine okI F scIter hb (fun n vs H Q E h => ?_) (fun cdv A outer s H vs Q E hr h => ?_)
  · obtain ⟨p, ls, rfl, _⟩ := h
    rfl
  · obtain ⟨p, ls, rfl, ⟨⟨dx, t, h1, h2⟩, g⟩, k⟩ := h
    refine ⟨_, pss_one (ps_ret (pe_callB cr_iterT (by rfl) T.zIter (by decide +kernel) (pa_cons (pe_fld (pv 0) rfl) pa_nil))), ?_⟩
    exact ⟨_, rfl, p, C, dx, _, _, rfl, h1, T.cl, T.nL, flds_l _ _, t, _, rfl, SqT.of h2, fun it n1 n2 => k t it h2 n1 n2⟩
theorem eqvAll_ints : ∀ ns ms : List Int, PyData.eqvAll (ns.map PyData.int) (ms.map PyData.int) = decide (ns = ms)
  | [], [] => by simp [PyData.eqvAll]
  | [], _ :: _ => by simp [PyData.eqvAll]
  | _ :: _, [] => by simp [PyData.eqvAll]
  | n :: r, m :: t => by
    simp only [List.map_cons, PyData.eqvAll, PyData.eqv, eqvAll_ints r t]
    rw [Bool.eq_iff_iff, Bool.and_eq_true, beq_iff_eq, decide_eq_true_eq, decide_eq_true_eq, List.cons.injEq]
theorem eqv_tints (xs ys : List Int) : PyData.eqv (.tuple (xs.map PyData.int)) (.tuple (ys.map PyData.int)) = decide (xs = ys) := eqvAll_ints xs ys
theorem eqv_lints (xs ys : List Int) : PyData.eqv (.list (xs.map PyData.int)) (.list (ys.map PyData.int)) = decide (xs = ys) := eqvAll_ints xs ys
theorem shaped_tints (ns : List Int) : SeqAt.shaped (.tuple (ns.map PyData.int)) = true := by
  have h1 := PySem.W.depthAll_ints ns
  have h2 : PyData.depth (.tuple (ns.map PyData.int)) ≤ 64 := by simp only [PyData.depth]; omega
  show (PyData.canLay0 (.tuple (ns.map PyData.int)) && decide (PyData.depth (.tuple (ns.map PyData.int)) ≤ 64)) = true
  rw [Bool.and_eq_true]
  exact ⟨by simp only [PyData.canLay0]; exact PySem.W.canLayAll0_ints ns, decide_eq_true h2⟩
/-- what isinstance asks of a Cycle -/
structure CyK (K : PySem.W.Frag) (C : Addr) : Prop where
  ins : C8.InsC K C
  self : PySem.W.kitOne K (.ref C) (.ref C) = some true
theorem CyK.ty {K : PySem.W.Frag} {C : Addr} {H : Hp} {p : Addr} {ls : List Int} (M : CyK K C) (c : CycAt C H p ls) : TyX K H (.ref p) (.ref C) := let ⟨_, _, h, _⟩ := c.ob; let i := M.ins; .base (.ins h i.cl i.ha i.hn i.htk i.hm)
def spEqC (K : PySem.W.Frag) (C : Addr) : Sp := fun vs H Q _ => ∃ (p : Addr) (v : V) (ls : List Int), vs = [.ref p, v] ∧ CycAt C H p ls ∧
  ((∃ q ms, v = .ref q ∧ CycAt C H q ms ∧ Q (.bl (decide (ls = ms))) H) ∨ (∃ t, TyX K H v t ∧ PySem.W.kitOne K t (.ref C) = some false ∧ Q (.bl false) H))
theorem scEq : FnScope ["self", "other"] ["self", "other"] (defScope sEq) := ⟨rfl, rfl, rfl, by decide +kernel, rfl, by decide +kernel, by decide +kernel⟩
theorem ok_eq {f : Addr} {fd : FuncData} (F : Fun K "__eq__" "Cycle.__eq__" sEq f fd) (T : Txt K mg C fWhole fBetw fDay fChk) (M : CyK K C) : FnOk P w K mg base CX0 1 f fd ["self", "other"] (spEqC K C) := by
  refine F.ok scEq (fun vs H Q E h => ?_) (fun cdv A outer s H vs Q E hr h => ?_)
  · obtain ⟨p, v, ls, rfl, _⟩ := h
    rfl
  · obtain ⟨p, v, ls, rfl, c, h⟩ := h
    obtain ⟨dx, t, h1, h2⟩ := c.ob
    refine ⟨_, pss_one (ps_ret (pe_and (pe_callB call_isi (by rfl) T.zIsi (by decide +kernel) (pa_cons (pv 1) (pa_cons (pe_glob (v := .ref C) rfl T.gCyc rfl) pa_nil))) (pe_one (pe_cmpR (op_eqD hr.units) (pe_fld (pv 0) rfl) (pe_fld (pv 1) rfl) (nomark _))))), ?_⟩
    rcases h with ⟨q, ms, rfl, cq, k⟩ | ⟨ty, hty, kt, k⟩
    · obtain ⟨dy, u, g1, g2⟩ := cq.ob
      refine ⟨_, rfl, .ref q, .ref C, _, _, _, rfl, .own _, M.ty cq, M.self, _, rfl, ?_⟩
      refine iteT ⟨_, rfl, p, C, dx, _, _, rfl, h1, T.cl, T.nL, flds_l _ _, _, rfl, q, C, dy, _, _, rfl, g1, T.cl, T.nL, flds_l _ _, ?_⟩
      refine ⟨_, _, .tup (SqT.of h2) (dp_ints ls), .tup (SqT.of g2) (dp_ints ms), shaped_tints ls, shaped_tints ms, ?_⟩
      rw [eqv_tints]
      exact k
    · exact ⟨_, rfl, v, .ref C, _, _, false, rfl, .own _, hty, kt, _, rfl, iteF k⟩
/-- the text of lengths -/
def textL (ls : List Int) : Str := Txt.join " " (ls.map fun l => (toString l : String))
def spStrC (C : Addr) : Sp := fun vs H Q _ => ∃ (p : Addr) (ls : List Int), vs = [.ref p] ∧ CycAt C H p ls ∧ ∀ H', Same H H' → Q (.str (textL ls)) H'
theorem int_len {l : Int} (h : 1 ≤ l ∧ l ≤ 60) : (Str.ofString (toString l)).length ≤ 3 := by
  have e : (10 : Nat) ^ 2 = 100 := by decide
  have h2 : l.natAbs < 10 ^ 2 := by rw [e]; omega
  rw [PySem.ofString_length]
  exact int_text_length_le10 (k := 2) (by decide) h2
theorem log60 {n : Int} (h0 : 0 ≤ n) (h : n ≤ 1000) : n.natAbs.log2 < 1920 := by
  have e2 : (2 : Nat) ^ 64 = 18446744073709551616 := by decide
  exact Nat.lt_trans (PySem.Flt.log2_lt_of (k := 64) (by decide) (by rw [e2]; omega)) (by decide)
theorem lens_le : ∀ {ls : List Int}, (∀ l ∈ ls, 1 ≤ l ∧ l ≤ 60) → ((ls.map fun l => (Str.ofString (toString l : String))).map (·.length)).sum ≤ 3 * ls.length
  | [], _ => by simp
  | a :: r, h => by
    have h1 := int_len (h a (by simp))
    have h2 := lens_le (ls := r) fun l hl => h l (by simp [hl])
    simp only [List.map_cons, List.sum_cons, List.length_cons]
    omega
theorem scStr : FnScope ["self", "length"] ["self"] (defScope sStr) := ⟨rfl, rfl, rfl, by decide +kernel, rfl, by decide +kernel, by decide +kernel⟩
theorem ok_str {f : Addr} {fd : FuncData} (F : Fun K "__str__" "Cycle.__str__" sStr f fd) (T : Txt K mg C fWhole fBetw fDay fChk) : FnOk P w K mg base CX0 1 f fd ["self"] (spStrC C) := by
  refine F.ok scStr (fun vs H Q E h => ?_) (fun cdv A outer s H vs Q E hr h => ?_)
  · obtain ⟨p, ls, rfl, _⟩ := h
    rfl
  · obtain ⟨p, ls, rfl, ⟨⟨dx, t, h1, h2⟩, g⟩, k⟩ := h
    refine ⟨_, pss_one (ps_ret (pe_join pe_str (pe_lc (own := [("length", 1)]) (g := gName 1) (tt := tYes) rfl scStr.nd (pi_tup (pe_fld (pv 0) rfl)) (blkOk_by (N := ["self", "length"]) (sc := defScope sStr) (by decide +kernel)) (fun _ _ _ _ _ => pg_name (i := 1) scStr.nd rfl (Or.inl rfl)) (fun _ _ _ _ _ => pts_nil)
      (fun _ _ _ _ _ => pe_callTy call_str_int (by rfl) T.zStr (by decide +kernel) (pa_cons (pv 1) pa_nil))))), ?_⟩
    refine ⟨⟨_, rfl⟩, _, rfl, p, C, dx, _, _, rfl, h1, T.cl, T.nL, flds_l _ _, t, rfl, ⟨_, SqT.of h2⟩, fun D hD => ?_⟩
    refine lc_tup (K := K) (a := t) (xs := ls.map V.int) (fun i H' => H' D = some (.lst ((ls.take i).map fun l => V.str (toString l : String))) ∧ ∀ b o, b ≠ D → H b = some o → H' b = some o) ⟨upd_same, fun b o nb e => by rw [upd_ne nb]; exact e⟩ (fun i H' _ ⟨_, q⟩ => SqT.of (q _ _ (ne_of_none h2 hD) h2)) ?_ ?_
    · rintro i y H' hy ⟨hD', q⟩
      obtain ⟨l, hl, rfl⟩ : ∃ l, ls[i]? = some l ∧ y = V.int l := by
        rw [List.getElem?_map] at hy
        cases e : ls[i]? with
        | none => rw [e] at hy; cases hy
        | some z => rw [e] at hy; exact ⟨z, rfl, (Option.some.inj hy).symm⟩
      have gl := g.pos l (List.mem_of_getElem? hl)
      refine ⟨rfl, ?_⟩
      unfold tYes
      dsimp only
      rw [if_pos rfl]
      refine ⟨_, rfl, l, rfl, log60 (by omega) (by omega), _, hD', ?_, ?_, fun b o nb e => ?_⟩
      · rw [List.length_map]
        have := g.few
        exact Nat.lt_of_le_of_lt (List.length_take_le _ _) (Nat.lt_of_lt_of_le (show i < 13 by have := (List.getElem?_eq_some_iff.mp hl).1; omega) (by decide))
      · rw [upd_same, List.take_succ, hl]
        simp
      · rw [upd_ne nb]
        exact q b o nb e
    · rintro H4 ⟨hD', q⟩
      rw [List.length_map, List.take_of_length_le (Nat.le_refl _)] at hD'
      refine ⟨" ", D, ls.map fun l => (toString l : String), rfl, rfl, .inl (SqL.of (by rw [hD', List.map_map]; rfl)), ?_, k _ fun b o e => q b o (ne_of_none e hD) e⟩
      have hs := lens_le g.pos
      have hl := g.few
      have l1 : (Str.ofString " ").length = 1 := rfl
      rw [l1, List.length_map]
      have : ((ls.map fun l => (toString l : String)).map (fun s : String => (Str.ofString s).length)).sum = ((ls.map fun l => (Str.ofString (toString l : String))).map (·.length)).sum := by rw [List.map_map, List.map_map]; rfl
      omega
end
end My
namespace My
open PySem PySem.Spec PyProof.Rows L2
abbrev sHeard : Stmt := top 26
abbrev sDue : Stmt := top 27
/-- a wish about errors, told only of states with as many slots as the def has names -/
theorem takes_len {X : Cx} {W : WX} (tk : Takes X W) : Takes X (fun cls d σ H => σ.length = X.N.length → W cls d σ H) := fun u s' ⟨a, B, sI, pins, σ, H, cls, d, e, I, nb, up, sky, na, os, ag, w⟩ =>
  tk u s' ⟨a, B, sI, pins, σ, H, cls, d, e, I, nb, up, sky, na, os, ag, w I.len⟩
theorem okGc {P : Program} {w : World} {K : PySem.W.Frag} {mg : Str → Option Value} {base : Heap} {x qual : Str} {st : Stmt} {f c : Addr} {fd : FuncData} {N ps : List Str} {k : Nat} {sp : Sp} (F : Fun K x qual st f fd) (hc : fd.code = .ref c) (S : FnScope N ps (defScope st)) (len : ∀ vs H Q E, sp vs H Q E → vs.length = ps.length)
    (body : ∀ (A : Around) (outer : List Env) (s : Shared) (H : Hp) (vs : List V) (Q : VK) (E : XK), A.guards = some [] → Room k (A.deeper (envOfC qual (defScope st) s.heap.objs.size f (.ref c))) → sp vs H Q E →
      ∃ t, PSs (cxOf CX0 P w K mg base N qual (defScope st) f (.ref c) A outer s H E).nox (defBody st) t ∧ t { nx := fun _ H' => Q .non H', rt := Q } (start N vs) H) : FnG P w K mg base CX0 (k + 1) f fd ps sp := by
  obtain ⟨oc, od, kV, doc, pm, an, cdv, ct, osl, e, lk, hcd⟩ := F.ex
  have ec : cdv = .ref c := by rw [e] at hc; exact hc
  subst ec
  subst e
  refine ⟨len, fun A outer s H args us vs Q E gd room e0 bnd rv hs => ?_⟩
  have inK : K.In s.heap := e0.mod.kin.keeps fun b o e => (e0.bs b o e).1
  have nol : s.heap.NoLimit := e0.mod.nolimit.keeps fun b o e => (e0.bs b o e).1
  refine codeAny_call_function room.depth (inK _ _ lk) rfl S.co S.gen rfl (PySem.W.codeRec_of inK hcd) (bnd _ _ _ _ (wpAny_newFunctionEnv_cells S.kind (fun y hy => ?_) fun env he s1 x => ?_))
  · exact (S.par y.1 (List.of_mem_zip hy).1).elim .inl fun q => .inr ⟨q, PySem.W.cellsFrom_some _ _ _ (.inl q)⟩
  subst he
  refine ⟨nol.keeps x.toInCall.keep, codeAny_func ?_⟩
  obtain ⟨t, ht, hq⟩ := body A outer s H vs Q E gd (room.deeper _) hs
  refine wpAny_mono (ht.nox.run [] s1 (start N vs) H _ (inv_start S room.hd e0 (len _ _ _ _ hs) rv x) hq) (fun fl s' z => ?_) fun e s' z => z
  match fl, z with
  | .ret u, ⟨v, σ', H', J, ru, q⟩ => exact ⟨v, H', J.os, J.bare, J.base, J.hok, ru, q⟩
  | .next, ⟨σ', H', J, q⟩ => exact ⟨V.non, H', J.os, J.bare, J.base, J.hok, rfl, q⟩
  | .brk, ⟨_, _, _, q⟩ => exact q.elim
  | .cont, ⟨_, _, _, q⟩ => exact q.elim
section
variable {P : Program} {w : World} {K : PySem.W.Frag} {mg : Str → Option Value} {base : Heap} {cBC fBC cTM fTM cDE g c Pt : Addr} {fdH : FuncData}
/-- what heard wishes of an error -/
def Ech (cBC cTM : Addr) (Q : VK) : XK := fun cls d H' => ∃ dd : Addr, d = some dd ∧
  ((cls = .ref cBC ∧ ∃ k : Nat, k < 1000 ∧ H' dd = some (.xd [("at", .int (k : Nat))]) ∧ ∀ t H'', Same H' H'' → H' t = none → H'' t = some (.tup [.str "cycle", .str (toString ((k : Nat) : Int) : String)]) → Q (.ref t) H'') ∨
   (cls = .ref cTM ∧ ∃ (w : Str) (n : Int), H' dd = some (.xd [("most", .int n), ("what", .str w)]) ∧ ∀ t H'', Same H' H'' → H' t = none → H'' t = some (.tup [.str "many", .str w, .int n]) → Q (.ref t) H''))
/-- heard: what it returns in a list, or what was raised -/
def TTc (K : PySem.W.Frag) (cBC cTM : Addr) : (XK → Hp → VK → Prop) → Hp → VK → Prop := fun tl H Q => ∀ (H1 : Hp) (Q1 : VK), Same H H1 → (∀ v H2, (∀ t H3, Same H2 H3 → H2 t = none → H3 t = some (.lst [v]) → Q (.ref t) H3) → Q1 v H2) → tl (Ech cBC cTM Q) H1 Q1
structure HeardT (K : PySem.W.Frag) (mg : Str → Option Value) (cBC cTM cDE fBC fTM : Addr) : Prop where
  en : ErC K mg "BadCycle" "at" cBC fBC
  eu : ErC K mg "TooMany" "what" cTM fTM
  eu2 : ErC K mg "TooMany" "most" cTM fTM
  gDE : mg "DayError" = some (.ref cDE)
  xn : PySem.W.exmOne K (.ref cBC) (.ref cDE) = some true
  xu : PySem.W.exmOne K (.ref cTM) (.ref cDE) = some true
  knn : PySem.W.kitOne K (.ref cBC) (.ref cBC) = some true
  kun : PySem.W.kitOne K (.ref cTM) (.ref cBC) = some false
  kuu : PySem.W.kitOne K (.ref cTM) (.ref cTM) = some true
  zIsi : mg "isinstance" = none
  zRepr : mg "repr" = none
theorem scHeard : FnScope ["_law_ask", "_law_caught", "_law_found", "error"] ["_law_ask"] (defScope sHeard) := ⟨rfl, rfl, rfl, by decide +kernel, rfl, by decide +kernel, by decide +kernel⟩
theorem heard_gives {X : Cx} {g : Addr} {cdg : Value} {q : Str} (T : HeardT X.K X.mg cBC cTM cDE fBC fTM) (gd : X.A.guards = some []) (hu : ∀ e : Env, (X.A.deeper e).units + 70 < cLine) :
    LamX.GivesTo X ["_law_ask", "_law_caught", "_law_found", "error"] "_law_heard" (defScope sHeard) g cdg (defBody sHeard) "_law_ask" q (TTc X.K cBC cTM) := by
  intro f c' s H Q tl act hc h
  refine ⟨_, pss_cons (ps_asg (pe_tup (pa_cons pe_non (pa_cons pe_non pa_nil))) (pg_tup rfl (pgs_cons (pg_name (i := 1) scHeard.nd rfl (.inl rfl)) (pgs_cons (pg_name (i := 2) scHeard.nd rfl (.inl rfl)) pgs_nil))))
    (pss_cons (ps_try_keep (X := (cxOf C8.CX0 X.prog X.w X.K X.mg X.base ["_law_ask", "_law_caught", "_law_found", "error"] "_law_heard" (defScope sHeard) g cdg X.A X.stack s H C8.E0).nox) (c := .ref cDE) (i := 3)
        (tb := fun W D σ H => ∃ Ec : XK, (∀ cls d σ' H', Ec cls d H' → σ'.length = 4 → W cls d σ' H') ∧ σ[0]? = some (some (.ref f)) ∧ H c' = some (LamX.CodeO c' q) ∧ tl Ec H (fun v H1 => D.nx (σ.set 2 (some v)) H1))
        rfl rfl rfl scHeard.nd rfl rfl ⟨rfl, by decide, .inl T.gDE⟩ (fun W pn xe tk _ => ?_) (fun a oe cls d pn _ _ => pss_one (ps_set (i := 1) scHeard.nd rfl (Or.inl rfl) (pv 3))))
    (pss_cons (ps_if (pt_cmp (pc_isN (pv 1))) (pss_one (ps_ret (pe_lst (pa_cons (pv 2) pa_nil)))) pss_nil)
    (pss_cons (ps_if (pt_val (pe_callB call_isK (by rfl) T.zIsi (by decide +kernel) (pa_cons (pv 1) (pa_cons (pe_glob (v := .ref cBC) rfl T.en.g rfl) pa_nil))))
      (pss_one (ps_ret (pe_tup (pa_cons pe_str (pa_cons (pe_callB (cr_reprO gd (hu _)) (by rfl) T.zRepr (by decide +kernel) (pa_cons (pe_kf (pv 1)) pa_nil)) pa_nil))))) pss_nil)
    (pss_cons (ps_if (pt_val (pe_callB call_isK (by rfl) T.zIsi (by decide +kernel) (pa_cons (pv 1) (pa_cons (pe_glob (v := .ref cTM) rfl T.eu.g rfl) pa_nil))))
      (pss_one (ps_ret (pe_tup (pa_cons pe_str (pa_cons (pe_kf (pv 1)) (pa_cons (pe_kf (pv 1)) pa_nil)))))) pss_nil)
    pss_never)))), ?_⟩
  · refine ⟨fun pins s' σ H' D I h' => ?_⟩
    obtain ⟨Ec, hW, h1, h2, h3⟩ := h'
    exact PSs.run (pss_one (ps_set (i := 2) scHeard.nd rfl (Or.inl rfl) (act _ pn xe Ec _ _ (takes_len tk) (fun cls d σ' H' e l => hW cls d σ' H' e l)))) pins s' σ H' D I ⟨h1, h2, h3⟩
  · refine ⟨(by show 2 ≤ sizeLine; decide), fun t0 n0 => ?_⟩
    refine ⟨t0, _, rfl, SqT.of upd_same, rfl, _, _, rfl, _, _, rfl, rfl, ?_⟩
    have s0 : Same H (upd H t0 (.tup [.non, .non])) := same_new n0
    refine ⟨_, fun cls d σ' H' e l => ?_, rfl, s0 _ _ hc, h _ _ s0 fun v H2 k => ?_⟩
    rotate_left
    · exact ⟨_, rfl, _, rfl, iteT ⟨_, rfl, (by show 1 ≤ sizeLine; decide), fun t nt => k t _ (same_new nt) nt upd_same⟩⟩
    · obtain ⟨x0, x1, x2, x3, rfl⟩ : ∃ x0 x1 x2 x3, σ' = [x0, x1, x2, x3] := by
        match σ', l with
        | [x0, x1, x2, x3], _ => exact ⟨_, _, _, _, rfl⟩
      obtain ⟨dd, rfl, e⟩ := e
      rcases e with ⟨rfl, n, hn, hdd, k⟩ | ⟨rfl, wd, n, hdd, k⟩
      · refine ⟨T.xn, fun a na => ⟨_, rfl, fun na' => ?_⟩⟩
        have s1 : Same H' (upd H' a (ErrO a (.ref cBC) (some dd))) := same_new na
        have ke : Kept (upd H' a (ErrO a (.ref cBC) (some dd))) a cBC dd [("at", .int (n : Nat))] := ⟨upd_same, s1 _ _ hdd⟩
        refine ⟨_, rfl, _, rfl, iteF ?_⟩
        refine ⟨_, rfl, a, cBC, dd, [("at", .int (n : Nat))], .ref cBC, .ref cBC, true, rfl, ke, T.en.ec, (fun u q => q), T.knn, _, rfl, iteT ?_⟩
        have small : ((n : Nat) : Int).natAbs < 10 ^ 70 := by
          have e70 : (10 : Nat) ^ 70 = 10000000000000000000000000000000000000000000000000000000000000000000000 := by decide
          rw [e70]; omega
        refine ⟨_, rfl, a, cBC, dd, [("at", .int (n : Nat))], .int (n : Nat), rfl, ke, T.en.xf, T.en.no, rfl, .int (n : Nat), .int (n : Nat), rfl, .inl ⟨.int _, rfl⟩, ?_, by simp [PyData.depth], Nat.le_trans (int_shown small) (by decide), ?_⟩
        · have := showAll_ints [((n : Nat) : Int)] fun j hj => by rw [List.mem_singleton.mp hj]; exact small
          simpa [PyData.showableAll] using this
        · refine ⟨(by show 2 ≤ sizeLine; decide), fun t nt => k t _ (s1.trans (same_new nt)) (s1.free nt) (by rw [upd_same]; simp only [PyData.shown])⟩
      · refine ⟨T.xu, fun a na => ⟨_, rfl, fun na' => ?_⟩⟩
        have s1 : Same H' (upd H' a (ErrO a (.ref cTM) (some dd))) := same_new na
        have ke : Kept (upd H' a (ErrO a (.ref cTM) (some dd))) a cTM dd [("most", .int n), ("what", .str wd)] := ⟨upd_same, s1 _ _ hdd⟩
        refine ⟨_, rfl, _, rfl, iteF ?_⟩
        refine ⟨_, rfl, a, cTM, dd, _, .ref cBC, .ref cBC, false, rfl, ke, T.eu.ec, (fun u q => q), T.kun, _, rfl, iteF ?_⟩
        refine ⟨_, rfl, a, cTM, dd, _, .ref cTM, .ref cTM, true, rfl, ke, T.eu.ec, (fun u q => q), T.kuu, _, rfl, iteT ?_⟩
        refine ⟨_, rfl, a, cTM, dd, _, .str wd, rfl, ke, T.eu.xf, T.eu.no, rfl, _, rfl, a, cTM, dd, _, .int n, rfl, ke, T.eu2.xf, T.eu2.no, rfl, ?_⟩
        refine ⟨(by show 3 ≤ sizeLine; decide), fun t nt => k t _ (s1.trans (same_new nt)) (s1.free nt) upd_same⟩
/-- heard(lambda: ..) -/
theorem pe_heard {X : Cx} {k : Nat} {params : Arguments} {body : Expr} {scope : Scope} {t : XK → TE} {p lpos pos : Pos} (qn : Str) (hq : X.env.qual = qn) (FH : Fun X.K "_law_heard" "_law_heard" sHeard g fdH) (bH : Binds X.K fdH ["_law_ask"] []) (gH : X.mg "_law_heard" = some (.ref g)) (T : HeardT X.K X.mg cBC cTM cDE fBC fTM)
    (gd : X.A.guards = some []) (TB : LamX.TabB X.base X.mg c Pt) (hcode : X.env.code = .ref c) (hr : Room (k + 2) X.A) (hgl : Gl X "_law_heard") (sc : Scope) (hsc : X.env.scope = sc) (hL : LamX.lamSB sc scope = true) (hdef : defaultsOf params X.env = ([], []))
    (hbind : ∀ (q : Str) (cl : List (Str × Addr)) (pm cv ctv : Value), bindArgs (PySem.W.kla_fn "<lambda>" q params body scope cl pm cv ctv) ⟨[], []⟩ = pure [])
    (hbody : ∀ (A : Around) (outer : List Env) (s : Shared) (H : Hp) (E : XK) (f c' : Addr), Room k (A.deeper (LamX.lamEnv X scope s.heap.objs.size f c')) → PE (LamX.lamCx X A outer s H E scope f c') body (t E)) :
    PE X (.Call (.Name "_law_heard" p) [.Lambda params body scope lpos] [] pos) (LamX.tLam [(Pt, qn ++ Str.ofString "<lambda>")] (TTc X.K cBC cTM) t) := by
  subst hq
  obtain ⟨oc, od, kV, doc, pm, an, cdv, ct, osl, rfl, lk, hcd⟩ := FH.ex
  refine LamX.pe_lamcall (Ng := ["_law_ask", "_law_caught", "_law_found", "error"]) hgl gH FH.kp lk hcd bH scHeard rfl (.inl rfl) (heard_gives T gd fun e => ?_) TB hcode List.mem_cons_self (fun q hq _ => by rw [List.mem_singleton.mp hq]) hr (by rw [hsc]; exact LamX.lamS_by hL) hdef hbind hbody
  have := (hr.deeper e).un
  omega
/-- for i, x in enumerate(list) -/
theorem for_enumL {K : PySem.W.Frag} {a : Addr} {xs : List V} {g : TG} {tb : TS} {D : Ends} {σ : L2.St} {H : Hp} (Pv : Nat → L2.St → Hp → Prop) (h0 : Pv 0 σ H) (hl : ∀ i σ H, i ≤ xs.length → Pv i σ H → SqL K H a xs)
    (hs : ∀ i x σ H T, xs[i]? = some x → Pv i σ H → H T = none → g (.ref T) σ (upd H T (.tup [.int (i : Nat), x])) fun σ2 H2 => tb { D with nx := Pv (i + 1), ct := Pv (i + 1), bk := D.nx } σ2 H2) (hd : ∀ σ H, Pv xs.length σ H → D.nx σ H) :
    ∃ W : Nat → Nat → L2.St → Hp → Prop, (∃ m, W 0 m σ H) ∧ ∀ i m σ H, W i m σ H →
      ((Ite K a).stop i H ∧ D.nx σ H) ∨ ((Ite K a).go i H ∧ ∃ N : L2.St → Hp → Prop, (∀ σ' H', N σ' H' → ∃ m', m' < m ∧ W (i + 1) m' σ' H') ∧ ∀ x H', (Ite K a).yld i H x H' → g x σ H' fun σ2 H2 => tb { D with nx := N, ct := N, bk := D.nx } σ2 H2) := by
  refine ⟨fun i m σ H => m = xs.length - i ∧ i ≤ xs.length ∧ Pv i σ H, ⟨xs.length, by simp, Nat.zero_le _, h0⟩, ?_⟩
  rintro i m σ H ⟨rfl, hi, p⟩
  have q := hl i σ H hi p
  by_cases hlt : i < xs.length
  · refine .inr ⟨⟨xs, xs[i], q, by simp [hlt]⟩, Pv (i + 1), fun σ' H' p' => ⟨xs.length - (i + 1), by omega, rfl, hlt, p'⟩, fun x H' y => ?_⟩
    obtain ⟨T, x, rfl, hT, rfl, y⟩ := y
    exact hs i x σ H T (y xs q) p hT
  · have e : i = xs.length := by omega
    subst e
    exact .inl ⟨⟨xs, q, Nat.le_refl _⟩, hd σ H p⟩
variable {C fWhole fBetw fDay fChk : Addr}
/-- what the law hears of values that are refused -/
def dueV : Out → Option (List V)
  | .cyc k => some [.str "cycle", .str (toString ((k : Nat) : Int) : String)]
  | .many w n => some [.str "many", .str w, .int n]
  | .ok _ => none
inductive DueAt (H : Hp) (o : Out) : V → Prop where
  | yes {us : List V} {t : Addr} (e : dueV o = some us) (h : H t = some (.tup us)) : DueAt H o (.ref t)
  | no (e : dueV o = none) : DueAt H o .non
def spDue : Sp := fun vs H Q _ => ∃ (a : Addr) (xs : List V), vs = [.ref a] ∧ H a = some (.lst xs) ∧ (∀ x ∈ xs, AV H x) ∧ xs.length ≤ 1000 ∧ ∀ v H', Same H H' → DueAt H' (outOf xs) v → Q v H'
theorem scDue : FnScope ["_law_values_here", "_law_at", "_law_value"] ["_law_values_here"] (defScope sDue) := ⟨rfl, rfl, rfl, by decide +kernel, rfl, by decide +kernel, by decide +kernel⟩
theorem ok_due {f : Addr} {fd : FuncData} (F : Fun K "_law_due" "_law_due" sDue f fd) (T : Txt K mg C fWhole fBetw fDay fChk) : FnOk P w K mg base CX0 1 f fd ["_law_values_here"] spDue := by
  refine F.ok scDue (fun vs H Q E h => ?_) (fun cdv A outer s H vs Q E hr h => ?_)
  · obtain ⟨a, xs, rfl, _⟩ := h
    rfl
  · obtain ⟨a, xs, rfl, ha, av, hlen, k⟩ := h
    have k1 : ∀ us, dueV (outOf xs) = some us → ∀ t H', Same H H' → H' t = some (.tup us) → Q (.ref t) H' := fun us e t H' s h => k _ H' s (.yes e h)
    have k0 : dueV (outOf xs) = none → ∀ H', Same H H' → Q .non H' := fun e H' s => k _ H' s (.no e)
    refine ⟨_, pss_cons (ps_for PassesOwn.never rfl (pi_enum (by rfl) T.zEnum (pa_cons (pv 0) pa_nil)) (pg_tup rfl (pgs_cons (pg_name (i := 1) scDue.nd rfl (.inl rfl)) (pgs_cons (pg_name (i := 2) scDue.nd rfl (.inl rfl)) pgs_nil)))
        (pss_one (ps_if (PW.pt (pw_or (pt_not (pt_val (pe_callB call_isi (by rfl) T.zIsi (by decide +kernel) (pa_cons (pv 2) (pa_cons (pe_bltn (v := .ty "int") (by rfl) T.zInt (by decide +kernel) rfl) pa_nil)))))
            (pw_or (pt_val (pe_callB call_isi (by rfl) T.zIsi (by decide +kernel) (pa_cons (pv 2) (pa_cons (pe_bltn (v := .ty "bool") (by rfl) T.zBool (by decide +kernel) rfl) pa_nil))))
              (pw_or1 (pt_not (pt_chain op_le op_le pe_int (pv 2) pe_int))))))
          (pss_one (ps_ret (pe_tup (pa_cons pe_str (pa_cons (pe_callTy call_str_int (by rfl) T.zStr (by decide +kernel) (pa_cons (pv 1) pa_nil)) pa_nil))))) pss_nil)))
      (pss_cons (ps_if (pt_cmpR op_eq (pe_callB call_len_seq (by rfl) T.zLen PySem.boot_len (pa_cons (pv 0) pa_nil)) pe_int (nomark _)) (pss_one (ps_ret (pe_tup (pa_cons pe_str (pa_cons pe_str pa_nil))))) pss_nil)
      (pss_cons (ps_if (pt_cmpR op_gt (pe_callB call_len_seq (by rfl) T.zLen PySem.boot_len (pa_cons (pv 0) pa_nil)) pe_int (nomark _)) (pss_one (ps_ret (pe_tup (pa_cons pe_str (pa_cons pe_str (pa_cons pe_int pa_nil)))))) pss_nil)
      (pss_one (ps_ret (pe_ifExp (pt_cmpR op_gt (pe_callB (cr_sum rfl) (by rfl) T.zSum (by decide +kernel) (pa_cons (pv 0) pa_nil)) pe_int (nomark _)) (pe_tup (pa_cons pe_str (pa_cons pe_str (pa_cons pe_int pa_nil)))) pe_non))))), ?_⟩
    refine ⟨_, rfl, a, xs, rfl, SqL.of ha, for_enumL (K := K) (a := a) (xs := xs) (fun i σ H' => ∃ (u v : Option V), σ = [some (.ref a), u, v] ∧ Same H H' ∧ ∀ j, j < i → ∀ y, xs[j]? = some y → okV y = true)
      ⟨none, none, rfl, Same.refl H, fun j hj => absurd hj (Nat.not_lt_zero _)⟩ (fun i σ H' _ ⟨_, _, _, s1, _⟩ => SqL.of (s1 _ _ ha)) ?_ ?_⟩
    · rintro i x σ H' Tn hi ⟨u, v, rfl, s1, ok⟩ hT
      have s2 := s1.trans (same_new (o := .tup [.int (i : Nat), x]) hT)
      obtain ⟨ty, b1, b2, hty, h1, h2, h3⟩ := (AV.kinds (K := K) ((av x (List.mem_of_getElem? hi)).same s2)).ex
      refine ⟨Tn, _, rfl, SqT.of upd_same, rfl, _, _, rfl, _, _, rfl, rfl, ?_⟩
      have hi1 : i < 1000 := by have := (List.getElem?_eq_some_iff.mp hi).1; omega
      have bad : okV x = false → ∀ t H'', Same H H'' → H'' t = some (.tup [.str "cycle", .str (toString ((i : Nat) : Int) : String)]) → Q (.ref t) H'' := fun e t H'' s h => by
        refine k1 _ ?_ t H'' s h
        unfold outOf
        rw [bad_at hi ok e]
        rfl
      have fin : okV x = false → ∀ q, (upd H' Tn (.tup [.int (i : Nat), x])) q = none → Q (.ref q) (upd (upd H' Tn (.tup [.int (i : Nat), x])) q (.tup [.str "cycle", .str (toString ((i : Nat) : Int) : String)])) := fun e q nq => bad e q _ (s2.trans (same_new nq)) upd_same
      refine ⟨_, rfl, x, .ty "int", _, _, b1, rfl, .ty "int", hty, kit_ty h1, b1, rfl, ?_⟩
      cases b1 with
      | false =>
        have e : okV x = false := by
          cases x with
          | int i => cases h3
          | _ => rfl
        exact iteT ⟨_, rfl, _, rfl, log60 (by omega) (by omega), (by show 2 ≤ sizeLine; decide), fin e⟩
      | true =>
        refine iteF ⟨_, rfl, x, .ty "bool", _, _, b2, rfl, .ty "bool", hty, kit_ty h2, b2, rfl, ?_⟩
        cases b2 with
        | true =>
          have e : okV x = false := by
            cases x with
            | int i => cases h3
            | _ => rfl
          exact iteT ⟨_, rfl, _, rfl, log60 (by omega) (by omega), (by show 2 ≤ sizeLine; decide), fin e⟩
        | false =>
          obtain ⟨z, rfl⟩ : ∃ z, x = .int z := by
            cases x with
            | int i => exact ⟨i, rfl⟩
            | _ => cases h3
          refine iteF ⟨_, rfl, _, _, rfl, rfl, _, rfl, ?_⟩
          by_cases c : 1 ≤ z
          · rw [decide_eq_true c]
            refine iteT ⟨_, _, rfl, rfl, _, rfl, ?_⟩
            by_cases c60 : z ≤ 60
            · rw [decide_eq_true c60]
              refine iteF ⟨_, _, rfl, s2, fun j hj y hy => ?_⟩
              by_cases cj : j = i
              · subst cj
                rw [hi] at hy
                cases hy
                show (decide (1 ≤ z) && decide (z ≤ 60)) = true
                rw [decide_eq_true c, decide_eq_true c60]
                rfl
              · exact ok j (by omega) y hy
            · rw [decide_eq_false c60]
              have e : okV (.int z) = false := by show (decide (1 ≤ z) && decide (z ≤ 60)) = false; rw [decide_eq_false c60, Bool.and_false]
              exact iteT ⟨_, rfl, _, rfl, log60 (by omega) (by omega), (by show 2 ≤ sizeLine; decide), fin e⟩
          · rw [decide_eq_false c]
            have e : okV (.int z) = false := by show (decide (1 ≤ z) && decide (z ≤ 60)) = false; rw [decide_eq_false c]; rfl
            exact iteF ⟨_, rfl, iteT ⟨_, rfl, _, rfl, log60 (by omega) (by omega), (by show 2 ≤ sizeLine; decide), fin e⟩⟩
    · rintro σ H' ⟨u, v, rfl, s1, ok⟩
      have ha' := s1 _ _ ha
      have none_ : firstBad xs = none := bad_all fun j y hy => ok j (List.getElem?_eq_some_iff.mp hy).1 y hy
      obtain ⟨_, hmap⟩ := bad_none none_
      have eO : outOf xs = if xs.length = 0 then .cyc 0 else if 12 < xs.length then .many "blocks" 12 else if 60 < (xs.map intOf).sum then .many "days" 60 else .ok (xs.map intOf) := by unfold outOf; rw [none_]
      refine ⟨_, rfl, a, _, rfl, .inl (SqL.of ha'), rfl, _, rfl, ?_⟩
      by_cases e0 : xs.length = 0
      · rw [if_pos e0] at eO
        rw [decide_eq_true (by rw [e0]; rfl)]
        exact iteT ⟨(by show 2 ≤ sizeLine; decide), fun q nq => k1 _ (by rw [eO]; rfl) q _ (s1.trans (same_new nq)) (by rw [upd_same]; rfl)⟩
      · rw [if_neg e0] at eO
        rw [decide_eq_false (fun z => e0 (by have := V.int.inj z; omega))]
        refine iteF ⟨_, rfl, a, _, rfl, .inl (SqL.of ha'), _, _, rfl, rfl, _, rfl, ?_⟩
        by_cases e2 : 12 < xs.length
        · rw [if_pos e2] at eO
          rw [decide_eq_true (by omega)]
          exact iteT ⟨(by show 3 ≤ sizeLine; decide), fun q nq => k1 _ (by rw [eO]; rfl) q _ (s1.trans (same_new nq)) upd_same⟩
        · rw [if_neg e2] at eO
          rw [decide_eq_false (by omega)]
          refine iteF ⟨_, rfl, a, xs.map intOf, rfl, SqL.of (by rw [← hmap]; exact ha'), _, _, rfl, rfl, _, rfl, ?_⟩
          by_cases e3 : 60 < (xs.map intOf).sum
          · rw [if_pos e3] at eO
            rw [decide_eq_true e3]
            exact iteT ⟨(by show 3 ≤ sizeLine; decide), fun q nq => k1 _ (by rw [eO]; rfl) q _ (s1.trans (same_new nq)) upd_same⟩
          · rw [if_neg e3] at eO
            rw [decide_eq_false e3]
            exact iteF (k0 (by rw [eO]; rfl) _ s1)
end
end My
namespace My
open PySem PySem.Spec PyProof.Rows L2
abbrev sVals : Stmt := top 28
/-- a list that is made up while the pen draws -/
structure Vs (H0 H : Hp) (p l a : Addr) (N : Int) (xs : List V) : Prop where
  sb : SameBut p H0 H
  new : H0 a = none
  p0 : ∃ M, PenAt H0 p l M
  pen : PenAt H p l N
  h : H a = some (.lst xs)
  av : ∀ x ∈ xs, AV H x
section
variable {H0 H H' : Hp} {p l a : Addr} {N M : Int} {xs ys : List V}
theorem Vs.nap (v : Vs H0 H p l a N xs) : a ≠ p := let ⟨_, q⟩ := v.p0; let ⟨_, e⟩ := q.lst; Ne.symm (ne_of_none e v.new)
theorem Vs.draw (v : Vs H0 H p l a N xs) (s : SameBut p H H') (pn : PenAt H' p l M) : Vs H0 H' p l a M xs :=
  ⟨v.sb.trans s, v.new, v.p0, pn, s _ _ v.nap v.h, fun x hx => let ⟨_, e⟩ := pn.lst; (v.av x hx).but s e⟩
theorem Vs.same (v : Vs H0 H p l a N xs) (s : Same H H') : Vs H0 H' p l a N xs :=
  ⟨v.sb.trans (Same.but s), v.new, v.p0, v.pen.same s, s _ _ v.h, fun x hx => (v.av x hx).same s⟩
theorem Vs.le (v : Vs H0 H p l a N xs) (z : N ≤ M) : Vs H0 H p l a M xs := ⟨v.sb, v.new, v.p0, v.pen.le z, v.h, v.av⟩
theorem Vs.set (v : Vs H0 H p l a N xs) (hy : ∀ y ∈ ys, AV H y) : Vs H0 (upd H a (.lst ys)) p l a N ys := by
  obtain ⟨M, q⟩ := v.p0
  exact ⟨fun b o nb e => by rw [upd_ne (ne_of_none e v.new)]; exact v.sb b o nb e, v.new, ⟨M, q⟩, v.pen.upd q v.new, upd_same, fun y hyy => (hy y hyy).but (p := a) (fun b o nb e => by rw [upd_ne nb]; exact e) upd_same⟩
/-- a new list of ints -/
theorem Vs.mk' (q : PenAt H0 p l M) (sb : SameBut p H0 H) (pn : PenAt H p l N) (n0 : H0 a = none) (ha : H a = some (.lst xs)) (hx : ∀ x ∈ xs, ∃ i, x = V.int i) : Vs H0 H p l a N xs :=
  ⟨sb, n0, ⟨M, q⟩, pn, ha, fun x h => let ⟨i, e⟩ := hx x h; by rw [e]; exact .int i⟩
end
theorem new_of {p l a : Addr} {H H' : Hp} {N M : Int} (q : PenAt H p l N) (s : SameBut p H H') (q' : PenAt H' p l M) (h : H' a = none) : H a = none := by
  cases e : H a with
  | none => rfl
  | some o =>
    by_cases z : a = p
    · subst z
      obtain ⟨xs, e'⟩ := q'.lst
      rw [e'] at h
      cases h
    · rw [s _ _ z e] at h
      cases h
theorem ix_of {n : Nat} {r : Int} (h0 : 0 ≤ r) (h1 : r < n) : ixN n r = some r.toNat := by
  unfold ixN
  rw [if_pos h0, if_pos h1]
theorem mem_ins {α : Type} {xs : List α} {y x : α} {n : Nat} (h : x ∈ xs.take n ++ [y] ++ xs.drop n) : x ∈ xs ∨ x = y := by
  rcases List.mem_append.mp h with h | h
  · rcases List.mem_append.mp h with h | h
    · exact .inl (List.mem_of_mem_take h)
    · exact .inr (List.mem_singleton.mp h)
  · exact .inl (List.mem_of_mem_drop h)
theorem len_ins {α : Type} {xs : List α} {y : α} {n : Nat} : (xs.take n ++ [y] ++ xs.drop n).length = xs.length + 1 := by
  rw [List.length_append, List.length_append, List.length_take, List.length_drop, List.length_singleton]
  omega
section
variable {P : Program} {w : World} {K : PySem.W.Frag} {mg : Str → Option Value} {base : Heap} {C fWhole fBetw fDay fChk fDraw fPick : Addr} {fdD fdP : FuncData}
def spVals : Sp := fun vs H Q _ => ∃ (p l : Addr) (N : Int), vs = [.ref p] ∧ PenAt H p l N ∧ N ≤ 50000 ∧ ∀ a xs H', Vs H H' p l a (N + 100) xs → xs.length ≤ 20 → Q (.ref a) H'
theorem scVals : FnScope ["_law_pen_here", "_law_choice", "_law_found", "_law_k", "_law_turn", "_law_odd"] ["_law_pen_here"] (defScope sVals) := ⟨rfl, rfl, rfl, by decide +kernel, rfl, by decide +kernel, by decide +kernel⟩
set_option maxHeartbeats 8000000 in
theorem ok_vals {f : Addr} {fd : FuncData} (F : Fun K "_law_values" "_law_values" sVals f fd) (T : Txt K mg C fWhole fBetw fDay fChk) (D : Df P w K mg base "_law_draw" 1 fDraw fdD ["_law_pen_here", "_law_many"] spDraw)
    (G : Df P w K mg base "_law_pick" 2 fPick fdP ["_law_pen_here", "_law_some"] spPick) : FnOk P w K mg base CX0 3 f fd ["_law_pen_here"] spVals := by
  refine F.ok scVals (fun vs H Q E h => ?_) (fun cdv A outer s H vs Q E hr h => ?_)
  · obtain ⟨p, l, N, rfl, _⟩ := h
    rfl
  · obtain ⟨p, l, N, rfl, pen, hN, k⟩ := h
    have hr1 : Room 1 _ := hr.mono (by decide)
    refine ⟨_, pss_cons (ps_set (i := 1) scVals.nd rfl (Or.inl rfl) (pe_call D.F hr1 rfl D.g D.kp D.b .nil pass0 (pa_cons (pv 0) (pa_cons pe_int pa_nil))))
      (C8.pss_cut (ps_if (pt_cmpR op_eq (pv 1) pe_int (nomark _))
          (pss_cons (ps_set (i := 2) scVals.nd rfl (Or.inl rfl) (pe_op op_rep (pe_lst (pa_cons pe_int pa_nil)) pe_int))
            (pss_one (ps_asg (pe_op op_add pe_int (pe_call D.F hr1 rfl D.g D.kp D.b .nil pass0 (pa_cons (pv 0) (pa_cons pe_int pa_nil)))) (pg_sub (pv 2) (pe_call D.F hr1 rfl D.g D.kp D.b .nil pass0 (pa_cons (pv 0) (pa_cons pe_int pa_nil))) set_list))))
          (pss_one (ps_if (pt_cmpR op_eq (pv 1) pe_int (nomark _))
            (pss_one (ps_setLc (i := 2) (own := [("_law_k", 3)]) (g := gName 3) (tt := tYes) (by rfl) scVals.nd rfl rfl (sw_true rfl rfl rfl (by decide +kernel)) (pi_range1 rfl T.zRange (pa_cons (pe_op op_add pe_int (pe_call D.F hr1 rfl D.g D.kp D.b .nil pass0 (pa_cons (pv 0) (pa_cons pe_int pa_nil)))) pa_nil))
              (blkOk_by (N := ["_law_pen_here", "_law_choice", "_law_found", "_law_k", "_law_turn", "_law_odd"]) (sc := defScope sVals) (by decide +kernel)) (fun _ _ _ _ _ => pg_name (i := 3) scVals.nd rfl (Or.inl rfl)) (fun _ _ _ _ _ => pts_nil)
              (fun _ _ _ _ _ => pe_op op_add pe_int (pe_call D.F hr1 (by rfl) D.g D.kp D.b .nil pass0 (pa_cons (pv 0) (pa_cons pe_int pa_nil))))))
            (pss_one (ps_if (pt_cmpR op_eq (pv 1) pe_int (nomark _))
              (pss_one (ps_setLc (i := 2) (own := [("_law_k", 3)]) (g := gName 3) (tt := tYes) (by rfl) scVals.nd rfl rfl (sw_true rfl rfl rfl (by decide +kernel)) (pi_range1 rfl T.zRange (pa_cons (pe_op op_add pe_int (pe_call D.F hr1 rfl D.g D.kp D.b .nil pass0 (pa_cons (pv 0) (pa_cons pe_int pa_nil)))) pa_nil))
                (blkOk_by (N := ["_law_pen_here", "_law_choice", "_law_found", "_law_k", "_law_turn", "_law_odd"]) (sc := defScope sVals) (by decide +kernel)) (fun _ _ _ _ _ => pg_name (i := 3) scVals.nd rfl (Or.inl rfl)) (fun _ _ _ _ _ => pts_nil)
                (fun _ _ _ _ _ => pe_call G.F hr (by rfl) G.g G.kp G.b .nil pass0 (pa_cons (pv 0) (pa_cons (pe_lst (pa_cons pe_int (pa_cons pe_int (pa_cons pe_int (pa_cons pe_int (pa_cons pe_int pa_nil)))))) pa_nil)))))
              (pss_one (ps_setLc (i := 2) (own := [("_law_k", 3)]) (g := gName 3) (tt := tYes) (by rfl) scVals.nd rfl rfl (sw_true rfl rfl rfl (by decide +kernel)) (pi_range1 rfl T.zRange (pa_cons (pe_call D.F hr1 rfl D.g D.kp D.b .nil pass0 (pa_cons (pv 0) (pa_cons pe_int pa_nil))) pa_nil))
                (blkOk_by (N := ["_law_pen_here", "_law_choice", "_law_found", "_law_k", "_law_turn", "_law_odd"]) (sc := defScope sVals) (by decide +kernel)) (fun _ _ _ _ _ => pg_name (i := 3) scVals.nd rfl (Or.inl rfl)) (fun _ _ _ _ _ => pts_nil)
                (fun _ _ _ _ _ => pe_op op_add pe_int (pe_call D.F hr1 (by rfl) D.g D.kp D.b .nil pass0 (pa_cons (pv 0) (pa_cons pe_int pa_nil))))))))))) 
      (pss_cons (ps_for PassesOwn.never rfl (pi_range1 rfl T.zRange (pa_cons (pe_call G.F hr rfl G.g G.kp G.b .nil pass0 (pa_cons (pv 0) (pa_cons (pe_lst (pa_cons pe_int (pa_cons pe_int (pa_cons pe_int (pa_cons pe_int (pa_cons pe_int pa_nil)))))) pa_nil))) pa_nil)) (pg_name (i := 4) scVals.nd rfl (.inl rfl))
          (pss_cons (ps_set (i := 5) scVals.nd rfl (Or.inl rfl) (pe_call G.F hr rfl G.g G.kp G.b .nil pass0 (pa_cons (pv 0) (pa_cons (pe_lst (pa_cons pe_int (pa_cons pe_int (pa_cons (pe_un un_neg pe_int) (pa_cons pe_non (pa_cons pe_bl (pa_cons pe_str (pa_cons (pe_tup (pa_cons pe_int pa_nil)) (pa_cons (pe_lst (pa_cons pe_int pa_nil)) (pa_cons pe_dnewK (pa_cons (pe_op op_pow pe_int pe_int) pa_nil))))))))))) pa_nil))))
          (pss_one (ps_expr (pe_bm PySem.F.plainAttrs_list PySem.F.slot_list_insert PySem.F.type_list_insert mt_insert (pv 2) (pa_cons (pe_call D.F hr1 rfl D.g D.kp D.b .nil pass0 (pa_cons (pv 0) (pa_cons (pe_op op_add (pe_callB call_len_seq (by rfl) T.zLen PySem.boot_len (pa_cons (pv 2) pa_nil)) pe_int) pa_nil))) (pa_cons (pv 5) pa_nil)))))))
      (pss_one (ps_ret (pv 2))))), ?_⟩
    refine ⟨_, rfl, p, l, N, 5, rfl, pen, by decide, log_small (by decide) (by decide), by omega, fun c H1 c0 c1 sb1 pen1 => ?_⟩
    refine ⟨fun σ' H' => ∃ (a : Addr) (v3 : Option V) (xs : List V), σ' = [some (.ref p), some (.int c), some (.ref a), v3, none, none] ∧ Vs H H' p l a (N + 30) xs ∧ xs.length ≤ 14, ?_, ?_⟩
    · -- a comprehension of drawn ints
      have comp : ∀ (m n : Int) (H3 : Hp) (Dd : Addr) (N3 : Int), 0 < m → m < 100 → n ≤ 14 → N3 ≤ N + 4 → SameBut p H H3 → PenAt H3 p l N3 → H3 Dd = none →
          ∀ acc (i : Nat) (H4 : Hp), (i : Int) < n → (Vs H H4 p l Dd (N3 + i) acc ∧ acc.length = i) → ∀ (r : Int) (H5 : Hp), SameBut p H4 H5 → PenAt H5 p l (N3 + i + 1) → H5 Dd = some (.lst acc) ∧ acc.length < sizeLine ∧
            (Vs H (upd H5 Dd (.lst (acc ++ [V.int r]))) p l Dd (N3 + (i + 1 : Nat)) (acc ++ [V.int r]) ∧ (acc ++ [V.int r]).length = i + 1) := by
        intro m n H3 Dd N3 m0 m1 n1 hN3 sb3 pen3 hD acc i H4 hi hv r H5 sb5 pen5
        have v5 := hv.1.draw sb5 pen5
        refine ⟨v5.h, by rw [hv.2]; exact small1000 (by omega), (v5.set fun y hy => ?_).le (by omega), by rw [List.length_append, hv.2]; rfl⟩
        rcases List.mem_append.mp hy with h | h
        · exact v5.av y h
        · rw [List.mem_singleton.mp h]; exact .int _
      have start_ : ∀ (H3 : Hp) (Dd : Addr) (N3 : Int), SameBut p H H3 → PenAt H3 p l N3 → H3 Dd = none → Vs H (upd H3 Dd (.lst [])) p l Dd N3 [] := fun H3 Dd N3 sb3 pen3 hD =>
        .mk' pen (sb3.trans (Same.but (same_new hD))) (pen3.same (same_new hD)) (new_of pen sb3 pen3 hD) upd_same (fun x hx => absurd hx (by simp))
      refine ⟨_, rfl, rfl, _, rfl, ?_⟩
      refine ite2 (fun hc => ?_) (fun hc => ?_)
      · refine ⟨(by show 1 ≤ sizeLine; decide), fun q nq => ⟨q, 12, _, rfl, rfl, upd_same, by decide, by decide, by decide, fun a na => ?_⟩⟩
        have v0 : Vs H (upd (upd H1 q (.lst [.int 5])) a (.lst (List.replicate (12 : Int).toNat [V.int 5]).flatten)) p l a (N + 1) (List.replicate (12 : Int).toNat [V.int 5]).flatten := by
          have s2 := (same_new (o := .lst [.int 5]) nq).trans (same_new (o := .lst (List.replicate (12 : Int).toNat [V.int 5]).flatten) na)
          refine .mk' pen (sb1.trans (Same.but s2)) (pen1.same s2) (new_of pen sb1 pen1 ((same_new nq).free na)) upd_same fun x hx => ?_
          obtain ⟨y, hy, hxy⟩ := List.mem_flatten.mp hx
          rw [List.eq_of_mem_replicate hy] at hxy
          exact ⟨5, List.mem_singleton.mp hxy⟩
        have hl : (List.replicate (12 : Int).toNat [V.int 5]).flatten.length = 12 := by decide
        generalize (List.replicate (12 : Int).toNat [V.int 5]).flatten = xs at v0 hl ⊢
        generalize upd (upd H1 q (.lst [.int 5])) a (.lst xs) = H2 at v0 ⊢
        refine ⟨_, rfl, p, l, N + 1, 3, rfl, v0.pen, by decide, log_small (by decide) (by decide), by omega, fun r H3 r0 r1 sb3 pen3 => ⟨_, _, rfl, rfl, _, rfl, _, rfl, p, l, N + 1 + 1, 12, rfl, pen3, by decide, log_small (by decide) (by decide), by omega, fun r2 H4 q0 q1 sb4 pen4 => ?_⟩⟩
        have v4 := (v0.draw sb3 pen3).draw sb4 pen4
        refine ⟨a, xs, r2, r2.toNat, rfl, rfl, v4.h, by rw [hl]; exact ix_of q0 q1, a, none, _, rfl, (v4.set fun y hy => ?_).le (by omega), by rw [List.length_set, hl]; decide⟩
        rcases List.mem_or_eq_of_mem_set hy with h | h
        · exact v4.av y h
        · rw [h]; exact .int _
      · refine ⟨_, rfl, rfl, _, rfl, ?_⟩
        refine ite2 (fun hc => ?_) (fun hc => ?_)
        · refine ⟨_, rfl, p, l, N + 1, 4, rfl, pen1, by decide, log_small (by decide) (by decide), by omega, fun r2 H3 q0 q1 sb2 pen2 => ⟨_, _, rfl, rfl, _, rfl, by omega, by omega, fun Dd hD => ?_⟩⟩
          have sb3 := sb1.trans sb2
          refine lc_range (lo := 0) (n := (11 + r2).toNat) (fun i H' => ∃ acc : List V, Vs H H' p l Dd (N + 1 + 1 + i) acc ∧ acc.length = i) ⟨[], (start_ H3 Dd _ sb3 pen2 hD).le (by omega), rfl⟩ ?_ ?_
          · rintro i H4 hi ⟨acc, hv⟩
            refine ⟨rfl, ?_⟩
            unfold tYes
            dsimp only
            rw [if_pos rfl]
            refine ⟨_, rfl, p, l, N + 1 + 1 + i, 4, rfl, hv.1.pen, by decide, log_small (by decide) (by decide), by omega, fun r3 H5 w0 w1 sb5 pen5 => ⟨_, _, rfl, rfl, acc, ?_⟩⟩
            obtain ⟨z1, z2, z3⟩ := comp 4 (11 + r2) H3 Dd (N + 1 + 1) (by decide) (by decide) (by omega) (by omega) sb3 pen2 hD acc i H4 (by omega) hv (1 + r3) H5 sb5 pen5
            exact ⟨z1, z2, _, z3⟩
          · rintro H4 ⟨acc, hv⟩
            exact ⟨Dd, none, acc, rfl, hv.1.le (by omega), by rw [hv.2]; omega⟩
        · refine ⟨_, rfl, rfl, _, rfl, ?_⟩
          refine ite2 (fun hc => ?_) (fun hc => ?_)
          · refine ⟨_, rfl, p, l, N + 1, 2, rfl, pen1, by decide, log_small (by decide) (by decide), by omega, fun r2 H3 q0 q1 sb2 pen2 => ⟨_, _, rfl, rfl, _, rfl, by omega, by omega, fun Dd hD => ?_⟩⟩
            have sb3 := sb1.trans sb2
            refine lc_range (lo := 0) (n := (1 + r2).toNat) (fun i H' => ∃ acc : List V, Vs H H' p l Dd (N + 1 + 1 + i) acc ∧ acc.length = i) ⟨[], (start_ H3 Dd _ sb3 pen2 hD).le (by omega), rfl⟩ ?_ ?_
            · rintro i H4 hi ⟨acc, hv⟩
              refine ⟨rfl, ?_⟩
              unfold tYes
              dsimp only
              rw [if_pos rfl]
              refine ⟨_, rfl, (by show 5 ≤ sizeLine; decide), fun q nq => ?_⟩
              have v1 := hv.1.same (same_new (o := .lst [.int 59, .int 60, .int 30, .int 29, .int 1]) nq)
              have nqp : q ≠ p := let ⟨_, e⟩ := hv.1.pen.lst; Ne.symm (ne_of_none e nq)
              refine ⟨p, l, q, N + 1 + 1 + i, _, rfl, v1.pen, by omega, upd_same, nqp, (by show 0 < 5; decide), (by show 5 ≤ 1000; decide), fun j x H5 hx sb5 pen5 => ?_⟩
              obtain ⟨r, rfl⟩ : ∃ r, x = .int r := by
                have hx := List.mem_of_getElem? hx
                simp only [List.mem_cons, List.not_mem_nil, or_false] at hx
                rcases hx with rfl | rfl | rfl | rfl | rfl <;> exact ⟨_, rfl⟩
              obtain ⟨z1, z2, z3⟩ := comp 4 (1 + r2) H3 Dd (N + 1 + 1) (by decide) (by decide) (by omega) (by omega) sb3 pen2 hD acc i _ (by omega) ⟨v1, hv.2⟩ r H5 sb5 pen5
              exact ⟨acc, z1, z2, _, z3⟩
            · rintro H4 ⟨acc, hv⟩
              exact ⟨Dd, none, acc, rfl, hv.1.le (by omega), by rw [hv.2]; omega⟩
          · refine ⟨_, rfl, p, l, N + 1, 8, rfl, pen1, by decide, log_small (by decide) (by decide), by omega, fun r2 H3 q0 q1 sb2 pen2 => ⟨_, rfl, by omega, by omega, fun Dd hD => ?_⟩⟩
            have sb3 := sb1.trans sb2
            refine lc_range (lo := 0) (n := r2.toNat) (fun i H' => ∃ acc : List V, Vs H H' p l Dd (N + 1 + 1 + i) acc ∧ acc.length = i) ⟨[], (start_ H3 Dd _ sb3 pen2 hD).le (by omega), rfl⟩ ?_ ?_
            · rintro i H4 hi ⟨acc, hv⟩
              refine ⟨rfl, ?_⟩
              unfold tYes
              dsimp only
              rw [if_pos rfl]
              refine ⟨_, rfl, p, l, N + 1 + 1 + i, 9, rfl, hv.1.pen, by decide, log_small (by decide) (by decide), by omega, fun r3 H5 w0 w1 sb5 pen5 => ⟨_, _, rfl, rfl, acc, ?_⟩⟩
              obtain ⟨z1, z2, z3⟩ := comp 4 r2 H3 Dd (N + 1 + 1) (by decide) (by decide) (by omega) (by omega) sb3 pen2 hD acc i H4 (by omega) hv (1 + r3) H5 sb5 pen5
              exact ⟨z1, z2, _, z3⟩
            · rintro H4 ⟨acc, hv⟩
              exact ⟨Dd, none, acc, rfl, hv.1.le (by omega), by rw [hv.2]; omega⟩
    · rintro σ' H2 ⟨a, v3, xs, rfl, v, hl⟩
      refine ⟨_, rfl, (by show 5 ≤ sizeLine; decide), fun q nq => ?_⟩
      have v1 := v.same (same_new (o := .lst [.int 0, .int 0, .int 0, .int 1, .int 2]) nq)
      have nqp : q ≠ p := let ⟨_, e⟩ := v.pen.lst; Ne.symm (ne_of_none e nq)
      refine ⟨p, l, q, N + 30, _, rfl, v1.pen, by omega, upd_same, nqp, (by show 0 < 5; decide), (by show 5 ≤ 1000; decide), fun j x H3 hx sb3 pen3 => ?_⟩
      have v3' := v1.draw sb3 pen3
      obtain ⟨n, rfl, n0, n1⟩ : ∃ n, x = .int n ∧ 0 ≤ n ∧ n ≤ 2 := by
        have hx := List.mem_of_getElem? hx
        simp only [List.mem_cons, List.not_mem_nil, or_false] at hx
        rcases hx with rfl | rfl | rfl | rfl | rfl <;> exact ⟨_, rfl, by decide, by decide⟩
      clear hx
      refine ⟨_, rfl, by omega, by omega, for_range (lo := 0) (n := n.toNat) (fun i σ H' => ∃ (v4 v5 : Option V) (xs : List V), σ = [some (.ref p), some (.int c), some (.ref a), v3, v4, v5] ∧ Vs H H' p l a (N + 31 + 2 * i) xs ∧ xs.length ≤ 14 + i) ⟨none, none, xs, rfl, v3'.le (by omega), by omega⟩ ?_ ?_⟩
      · rintro i σ H4 hi ⟨v4, v5, xs, rfl, v, hl⟩
        refine ⟨_, rfl, _, rfl, (by show 1 ≤ sizeLine; decide), fun t1 nt1 => ⟨(by show 1 ≤ sizeLine; decide), fun u1 nu1 => fun d1 nd1 => ⟨_, _, rfl, rfl, ⟨by decide, by decide, by decide⟩, (by show 10 ≤ sizeLine; decide), fun q1 nq1 => ?_⟩⟩⟩
        have z1 := same_new (o := .tup [.int 7]) nt1
        have z2 := same_new (o := .lst [.int 7]) nu1
        have z3 := same_new (o := .dK []) nd1
        have z4 := same_new (o := .lst [.int 0, .int 61, .int (-1), .non, .bl true, .str "7", .ref t1, .ref u1, .ref d1, .int (10 ^ (30 : Int).toNat)]) nq1
        have v5' := v.same (z1.trans (z2.trans (z3.trans z4)))
        have gt := (z2.trans (z3.trans z4)) _ _ (upd_same (H := H4) (a := t1) (o := .tup [.int 7]))
        have gu := (z3.trans z4) _ _ (upd_same (H := upd H4 t1 (.tup [.int 7])) (a := u1) (o := .lst [.int 7]))
        have gd := z4 _ _ (upd_same (H := upd (upd H4 t1 (.tup [.int 7])) u1 (.lst [.int 7])) (a := d1) (o := .dK []))
        have nqp1 : q1 ≠ p := by
          obtain ⟨_, e⟩ := (v.same (z1.trans (z2.trans z3))).pen.lst
          exact Ne.symm (ne_of_none e nq1)
        have avs : ∀ y, y ∈ ([.int 0, .int 61, .int (-1), .non, .bl true, .str "7", .ref t1, .ref u1, .ref d1, .int (10 ^ (30 : Int).toNat)] : List V) → AV (upd (upd (upd (upd H4 t1 (.tup [.int 7])) u1 (.lst [.int 7])) d1 (.dK [])) q1 (.lst [.int 0, .int 61, .int (-1), .non, .bl true, .str "7", .ref t1, .ref u1, .ref d1, .int (10 ^ (30 : Int).toNat)])) y := fun y hy => by
          simp only [List.mem_cons, List.not_mem_nil, or_false] at hy
          rcases hy with rfl | rfl | rfl | rfl | rfl | rfl | rfl | rfl | rfl | rfl
          · exact .int _
          · exact .int _
          · exact .int _
          · exact .non
          · exact .bl _
          · exact .str _
          · exact .tup gt
          · exact .lst gu
          · exact .dct gd
          · exact .int _
        refine ⟨p, l, q1, N + 31 + 2 * i, _, rfl, v5'.pen, by omega, upd_same, nqp1, (by show 0 < 10; decide), (by show 10 ≤ 1000; decide), fun j x H5 hx sb5 pen5 => ?_⟩
        have v6 := v5'.draw sb5 pen5
        have ax : AV H5 x := let ⟨_, e⟩ := pen5.lst; (avs x (List.mem_of_getElem? hx)).but sb5 e
        refine ⟨_, rfl, .inl ⟨rfl, xs, SqL.of v6.h⟩, _, rfl, _, rfl, a, xs, rfl, .inl (SqL.of v6.h), _, _, rfl, rfl, p, l, N + 31 + 2 * i + 1, (xs.length : Int) + 1, rfl, v6.pen, by omega, log_small (by omega) (by omega), by omega, fun r H6 r0 r1 sb6 pen6 => ?_⟩
        have v7 := v6.draw sb6 pen6
        have ax6 : AV H6 x := let ⟨_, e⟩ := pen6.lst; ax.but sb6 e
        refine ⟨_, rfl, a, xs, r, x, rfl, rfl, v7.h, small1000 (by omega), r0, by omega, ?_⟩
        refine ⟨_, _, _, rfl, (v7.set fun y hy => ?_).le (by omega), by rw [len_ins]; omega⟩
        rcases mem_ins hy with h | h
        · exact v7.av y h
        · rw [h]; exact ax6
      · rintro σ H4 ⟨v4, v5, xs, rfl, v, hl⟩
        exact ⟨_, rfl, k a xs H4 (v.le (by omega)) (by omega)⟩
end
end My
namespace My
open PySem PySem.Spec PyProof.Rows L2
abbrev sRight : Stmt := top 29
def rowD (ls : List Int) (x : Int) : PyData := .list (.int x :: ls.map PyData.int)
/-- rows [x, ls ..], one for each x -/
def RowsAt (H : Hp) (W : Addr) (ls : List Int) : List V → List Int → Prop
  | [], [] => True
  | v :: vs, x :: xs => (∃ a, v = .ref a ∧ a ≠ W ∧ H a = some (.lst (.int x :: ls.map V.int))) ∧ RowsAt H W ls vs xs
  | _, _ => False
theorem RowsAt.but {H H' : Hp} {W : Addr} {ls : List Int} (s : ∀ b o, b ≠ W → H b = some o → H' b = some o) : ∀ {vs : List V} {xs : List Int}, RowsAt H W ls vs xs → RowsAt H' W ls vs xs
  | [], [], _ => trivial
  | v :: vs, x :: xs, ⟨⟨a, e, n, h⟩, r⟩ => ⟨⟨a, e, n, s _ _ n h⟩, RowsAt.but s r⟩
theorem RowsAt.snoc {H : Hp} {W a : Addr} {ls : List Int} {x : Int} (n : a ≠ W) (h : H a = some (.lst (.int x :: ls.map V.int))) : ∀ {vs : List V} {xs : List Int}, RowsAt H W ls vs xs → RowsAt H W ls (vs ++ [.ref a]) (xs ++ [x])
  | [], [], _ => ⟨⟨a, rfl, n, h⟩, trivial⟩
  | v :: vs, y :: xs, ⟨q, r⟩ => ⟨q, RowsAt.snoc n h r⟩
theorem RowsAt.len {H : Hp} {W : Addr} {ls : List Int} : ∀ {vs : List V} {xs : List Int}, RowsAt H W ls vs xs → vs.length = xs.length
  | [], [], _ => rfl
  | v :: vs, y :: xs, ⟨_, r⟩ => congrArg (· + 1) (RowsAt.len r)
theorem RowsAt.dp {K : PySem.W.Frag} {H : Hp} {W : Addr} {ls : List Int} : ∀ {vs : List V} {xs : List Int}, RowsAt H W ls vs xs → DpAll K H vs (xs.map (rowD ls))
  | [], [], _ => .nil
  | v :: vs, x :: xs, ⟨⟨a, e, n, h⟩, r⟩ => by
    subst e
    exact .cons (.lst (SqL.of h) (.cons (.int x) (dp_ints ls))) (RowsAt.dp r)
theorem rows_can (ls : List Int) : ∀ xs : List Int, PyData.canLayAll0 (xs.map (rowD ls)) = true
  | [] => by simp [PyData.canLayAll0]
  | x :: r => by
    have h := PySem.W.canLayAll0_ints (x :: ls)
    simp only [List.map_cons] at h
    simp only [List.map_cons, PyData.canLayAll0, rowD, PyData.canLay0, rows_can ls r, Bool.and_true]
    exact h
theorem rows_depth (ls : List Int) : ∀ xs : List Int, PyData.depthAll (xs.map (rowD ls)) ≤ 2
  | [] => by simp [PyData.depthAll]
  | x :: r => by
    have h := PySem.W.depthAll_ints (x :: ls)
    simp only [List.map_cons] at h
    have h2 := rows_depth ls r
    simp only [List.map_cons, PyData.depthAll, rowD, PyData.depth] at *
    omega
theorem rows_shaped (ls xs : List Int) : SeqAt.shaped (.list (xs.map (rowD ls))) = true := by
  have h2 : PyData.depth (.list (xs.map (rowD ls))) ≤ 64 := by
    have := rows_depth ls xs
    simp only [PyData.depth]
    omega
  show (PyData.canLay0 (.list (xs.map (rowD ls))) && decide (PyData.depth (.list (xs.map (rowD ls))) ≤ 64)) = true
  rw [Bool.and_eq_true]
  exact ⟨by simp only [PyData.canLay0]; exact rows_can ls xs, decide_eq_true h2⟩
/-- what is shown of a cycle -/
def showD (ls : List Int) : PyData := .list [.tuple (ls.map PyData.int), .int ls.sum, .int ls.length]
theorem sum_small : ∀ {ls : List Int}, (∀ l ∈ ls, 1 ≤ l ∧ l ≤ 60) → 0 ≤ ls.sum
  | [], _ => by simp
  | a :: r, h => by
    have h1 := (h a (by simp)).1
    have h2 := sum_small (ls := r) fun l hl => h l (by simp [hl])
    rw [List.sum_cons]
    omega
theorem show_ok {K : PySem.W.Frag} {H : Hp} {q t : Addr} {ls : List Int} (g : Good ls) (hq : H q = some (.lst [.ref t, .int ls.sum, .int ls.length])) (ht : H t = some (.tup (ls.map V.int))) : DpO K H (.ref q) (showD ls) ∧ (showD ls).showable = true ∧ (showD ls).depth ≤ 64 ∧ (showD ls).shown.length ≤ sizeLine := by
  have e70 : (10 : Nat) ^ 70 = 10000000000000000000000000000000000000000000000000000000000000000000000 := by decide
  have sm : ∀ i ∈ ls, i.natAbs < 10 ^ 70 := fun i hi => by
    have := g.pos i hi
    rw [e70]; omega
  have s0 := sum_small g.pos
  have s1 := g.sum
  have l1 := g.few
  have sS : ls.sum.natAbs < 10 ^ 70 := by rw [e70]; omega
  have sL : ((ls.length : Nat) : Int).natAbs < 10 ^ 70 := by rw [e70]; omega
  have shS := showAll_ints [ls.sum, (ls.length : Int)] fun j hj => by
    rcases List.mem_cons.mp hj with h | h
    · rw [h]; exact sS
    · rw [List.mem_singleton.mp h]; exact sL
  refine ⟨.inl ⟨.lst (SqL.of hq) (.cons (.tup (SqT.of ht) (dp_ints ls)) (.cons (.int _) (.cons (.int _) .nil))), ?_⟩, ?_, ?_, ?_⟩
  · simp only [showD, PyData.hasDict, PyData.hasDictAll, noDict_ints]
    rfl
  · simp only [List.map_cons, List.map_nil, PyData.showableAll, Bool.and_true, Bool.and_eq_true] at shS
    simp only [showD, PyData.showable, PyData.showableAll, showAll_ints ls sm, Bool.and_true, Bool.true_and]
    simp only [PyData.showable] at shS
    rw [shS.1, shS.2]
    rfl
  · have d1 := PySem.W.depthAll_ints ls
    simp only [showD, PyData.depth, PyData.depthAll]
    omega
  · have t1 := tup_shown sm (by omega)
    have e : (showD ls).shown = listText [PyData.shown (.tuple (ls.map PyData.int)), PyData.shown (.int ls.sum), PyData.shown (.int ls.length)] := by simp only [showD, PyData.shown, PyData.shownAll]
    rw [e]
    unfold listText
    have hf := from_le (B := 94000) [PyData.shown (.tuple (ls.map PyData.int)), PyData.shown (.int ls.sum), PyData.shown (.int ls.length)] 0 "[" fun t ht => by
      simp only [List.mem_cons, List.not_mem_nil, or_false] at ht
      rcases ht with rfl | rfl | rfl
      · exact t1
      · exact Nat.le_trans (int_shown sS) (by decide)
      · exact Nat.le_trans (int_shown sL) (by decide)
    rw [strLen_append, sizeLine_eq]
    have k1 : (("[" : Str)).length = 1 := by decide
    have k2 : (("]" : Str)).length = 1 := by decide
    have k3 : ([PyData.shown (.tuple (ls.map PyData.int)), PyData.shown (.int ls.sum), PyData.shown (.int ls.length)] : List Str).length = 3 := rfl
    rw [k3, k1] at hf
    omega
/-- a property of Cycle -/
structure CP (P : Program) (w : World) (K : PySem.W.Frag) (mg : Str → Option Value) (base : Heap) (C : Addr) (x : Str) (sp : Sp) (pr f : Addr) (fd : FuncData) : Prop where
  F : FnOk P w K mg base CX0 1 f fd ["self"] sp
  b : Binds K fd ["self"] []
  p : PropOf K C x pr f
/-- its len, str, iter -/
structure CS (P : Program) (w : World) (K : PySem.W.Frag) (mg : Str → Option Value) (base : Heap) (C : Addr) (x : Str) (sp : Sp) (f : Addr) (fd : FuncData) : Prop where
  F : FnOk P w K mg base CX0 1 f fd ["self"] sp
  b : Binds K fd ["self"] []
  at_ : PySem.W.findIn K (.ref C) x = some (some (.ref f))
  fn : PySem.W.isFn K (.ref f) = true
structure CI (P : Program) (w : World) (K : PySem.W.Frag) (mg : Str → Option Value) (base : Heap) (C : Addr) (f : Addr) : Prop where
  F : FnI P w K mg base 1 f (spIt C)
  at_ : PySem.W.findIn K (.ref C) "__iter__" = some (some (.ref f))
  fn : PySem.W.isFn K (.ref f) = true
section
variable {P : Program} {w : World} {K : PySem.W.Frag} {mg : Str → Option Value} {base : Heap} {C fWhole fBetw fDay fChk pGl fGl pGt fGt fLn fSt fIt : Addr} {dGl dGt dLn dSt : FuncData}
def spRight (C : Addr) : Sp := fun vs H Q _ => ∃ (p a : Addr) (ls : List Int), vs = [.ref p, .ref a] ∧ CycAt C H p ls ∧ H a = some (.lst (ls.map V.int)) ∧ ∀ H', Same H H' → Q (.bl true) H'
theorem scRight : FnScope ["_law_made", "_law_values_here", "_law_walked", "_law_length", "_law_other", "_law_one"] ["_law_made", "_law_values_here"] (defScope sRight) := ⟨rfl, rfl, rfl, by decide +kernel, rfl, by decide +kernel, by decide +kernel⟩
set_option maxHeartbeats 8000000 in
theorem ok_right {f : Addr} {fd : FuncData} (F : Fun K "_law_right" "_law_right" sRight f fd) (T : Txt K mg C fWhole fBetw fDay fChk) (GL : CP P w K mg base C "lengths" (spGetL C) pGl fGl dGl) (GT : CP P w K mg base C "total" (spGetT C) pGt fGt dGt)
    (LN : CS P w K mg base C "__len__" (spLen C) fLn dLn) (ST : CS P w K mg base C "__str__" (spStrC C) fSt dSt) (IT : CI P w K mg base C fIt) : FnG P w K mg base CX0 4 f fd ["_law_made", "_law_values_here"] (spRight C) := by
  refine okG F scRight (fun vs H Q E h => ?_) (fun cdv A outer s H vs Q E gd hr h => ?_)
  · obtain ⟨p, a, ls, rfl, _⟩ := h
    rfl
  · obtain ⟨p, a, ls, rfl, c, ha, kk⟩ := h
    have g := c.ok
    have hr1 : Room 1 _ := hr.mono (by decide)
    have hr2 : Room 2 _ := hr.mono (by decide)
    have hu70 : (A.deeper (envOfC "_law_right" (defScope sRight) s.heap.objs.size f cdv)).units + 70 < cLine := by have := hr.un; omega
    refine ⟨_, pss_cons (ps_if (pt_cmpR op_ne (pe_callB (cr_reprO gd hu70) (by rfl) T.zRepr (by decide +kernel) (pa_cons (pe_lst (pa_cons (pe_prop (pv 0) T.cl GL.p GL.F hr2 GL.b .nil pass0 rfl) (pa_cons (pe_prop (pv 0) T.cl GT.p GT.F hr2 GT.b .nil pass0 rfl) (pa_cons (pe_callB (call_lenO LN.at_ LN.fn (LN.F.raw LN.b .nil) hr2 pass0) (by rfl) T.zLen PySem.boot_len (pa_cons (pv 0) pa_nil)) pa_nil)))) pa_nil))
        (pe_callB (cr_reprO gd hu70) (by rfl) T.zRepr (by decide +kernel) (pa_cons (pe_lst (pa_cons (pe_callTy call_tuple_of (by rfl) T.zTuple (by decide +kernel) (pa_cons (pv 1) pa_nil)) (pa_cons (pe_callB (cr_sum rfl) (by rfl) T.zSum (by decide +kernel) (pa_cons (pv 1) pa_nil)) (pa_cons (pe_callB call_len_seq (by rfl) T.zLen PySem.boot_len (pa_cons (pv 1) pa_nil)) pa_nil)))) pa_nil)) (nomark _)) pss_never pss_nil)
      (pss_cons (ps_set (i := 2) scRight.nd rfl (Or.inl rfl) (pe_lst pa_nil))
      (pss_cons (ps_for PassesOwn.never rfl (pi_ownT (pv 0) IT.at_ IT.fn IT.F hr1) (pg_name (i := 3) scRight.nd rfl (.inl rfl))
        (pss_one (ps_expr (pe_bm PySem.F.plainAttrs_list PySem.F.slot_list_append PySem.F.type_list_append mt_append (pv 2) (pa_cons (pe_op op_cat (pe_lst (pa_cons (pv 3) pa_nil))
          (pe_lc (own := [("_law_other", 4)]) (g := gName 4) (tt := tYes) rfl scRight.nd (pi_ownT (pv 0) IT.at_ IT.fn IT.F hr1) (blkOk_by (N := ["_law_made", "_law_values_here", "_law_walked", "_law_length", "_law_other", "_law_one"]) (sc := defScope sRight) (by decide +kernel)) (fun _ _ _ _ _ => pg_name (i := 4) scRight.nd rfl (Or.inl rfl)) (fun _ _ _ _ _ => pts_nil)
            (fun _ _ _ _ _ => pv 4))) pa_nil)))))
      (pss_one (ps_ret (pe_and (pe_cmpR (op_eqD hr.units) (pv 2) (pe_lc (own := [("_law_length", 3)]) (g := gName 3) (tt := tYes) rfl scRight.nd (pi_list (pv 1)) (blkOk_by (N := ["_law_made", "_law_values_here", "_law_walked", "_law_length", "_law_other", "_law_one"]) (sc := defScope sRight) (by decide +kernel)) (fun _ _ _ _ _ => pg_name (i := 3) scRight.nd rfl (Or.inl rfl)) (fun _ _ _ _ _ => pts_nil)
            (fun _ _ _ _ _ => pe_op op_cat (pe_lst (pa_cons (pv 3) pa_nil)) (pv 1))) (nomark _))
          (pe_one (pe_cmpR op_eq (pe_callTy (call_strO ST.at_ ST.fn (ST.F.raw ST.b .nil) hr pass0) (by rfl) T.zStr (by decide +kernel) (pa_cons (pv 0) pa_nil))
            (pe_join pe_str (pe_lc (own := [("_law_one", 5)]) (g := gName 5) (tt := tYes) rfl scRight.nd (pi_list (pv 1)) (blkOk_by (N := ["_law_made", "_law_values_here", "_law_walked", "_law_length", "_law_other", "_law_one"]) (sc := defScope sRight) (by decide +kernel)) (fun _ _ _ _ _ => pg_name (i := 5) scRight.nd rfl (Or.inl rfl)) (fun _ _ _ _ _ => pts_nil)
              (fun _ _ _ _ _ => pe_callTy call_str_int (by rfl) T.zStr (by decide +kernel) (pa_cons (pv 5) pa_nil)))) (nomark _)))))))), ?_⟩
    obtain ⟨dx, t, h1, h2⟩ := c.ob
    have l1 := g.few
    have elt : ∀ {i : Nat} {x : V}, (ls.map V.int)[i]? = some x → ∃ z, ls[i]? = some z ∧ x = V.int z := fun {i x} hi => by
      rw [List.getElem?_map] at hi
      cases e : ls[i]? with
      | none => rw [e] at hi; cases hi
      | some z => rw [e] at hi; exact ⟨z, rfl, (Option.some.inj hi).symm⟩
    refine ⟨_, rfl, p, dx, _, rfl, h1, p, ls, rfl, c, fun t' ht' => ⟨_, rfl, p, dx, _, rfl, h1, p, ls, rfl, c, _, rfl, p, dx, _, rfl, h1, p, ls, rfl, c, (ls.length : Int), rfl, by omega, by omega, (by show 3 ≤ sizeLine; decide), fun q nq => ?_⟩⟩
    have s1 := same_new (o := .lst [.ref t', .int ls.sum, .int ls.length]) nq
    obtain ⟨e1, e2, e3, e4⟩ := show_ok (K := K) g (H := upd H q (.lst [.ref t', .int ls.sum, .int ls.length])) upd_same (s1 _ _ ht')
    refine ⟨_, showD ls, rfl, e1, e2, e3, e4, ?_⟩
    clear e1 e2 e3 e4
    refine ⟨_, rfl, a, _, rfl, .inl ⟨SqL.of (s1 _ _ ha), fun t2 nt2 => ?_⟩⟩
    have s2 := s1.trans (same_new (o := .tup (ls.map V.int)) nt2)
    refine ⟨_, rfl, a, ls, rfl, SqL.of (s2 _ _ ha), _, rfl, a, _, rfl, .inl (SqL.of (s2 _ _ ha)), (by show 3 ≤ sizeLine; decide), fun q2 nq2 => ?_⟩
    have s3 := s2.trans (same_new (o := .lst [.ref t2, .int ls.sum, .int (ls.map V.int).length]) nq2)
    obtain ⟨e1, e2, e3, e4⟩ := show_ok (K := K) (q := q2) (t := t2) g (H := upd (upd (upd H q (.lst [.ref t', .int ls.sum, .int ls.length])) t2 (.tup (ls.map V.int))) q2 (.lst [.ref t2, .int ls.sum, .int (ls.map V.int).length])) (by rw [upd_same, List.length_map]) ((same_new nq2) _ _ upd_same)
    refine ⟨_, showD ls, rfl, e1, e2, e3, e4, rfl, _, rfl, ?_⟩
    clear e1 e2 e3 e4
    rw [decide_eq_true rfl]
    refine iteF ⟨Nat.zero_le _, fun W nW => ?_⟩
    have s4 := s3.trans (same_new (o := .lst []) nW)
    have hW0 := upd_same (H := upd (upd (upd H q (.lst [.ref t', .int ls.sum, .int ls.length])) t2 (.tup (ls.map V.int))) q2 (.lst [.ref t2, .int ls.sum, .int (ls.map V.int).length])) (a := W) (o := .lst [])
    have nWH : H W = none := s3.free nW
    generalize upd (upd (upd (upd H q (.lst [.ref t', .int ls.sum, .int ls.length])) t2 (.tup (ls.map V.int))) q2 (.lst [.ref t2, .int ls.sum, .int (ls.map V.int).length])) W (.lst []) = H2 at s4 hW0 ⊢
    clear s3 s2 s1 nq nt2 nq2 nW
    -- what stands but for W
    have keep : ∀ {H' : Hp}, (∀ b o, b ≠ W → H2 b = some o → H' b = some o) → Same H H' := fun q b o e => q b o (ne_of_none e nWH) (s4 _ _ e)
    refine ⟨_, rfl, p, dx, _, rfl, s4 _ _ h1, fun n => ⟨p, ls, rfl, c.same s4, fun tt it htt hit hle => ⟨it, tt, rfl, hle, hit, rfl, ⟨_, SqT.of htt⟩, ?_⟩⟩⟩
    have ntW : tt ≠ W := ne_of htt hW0 (by intro z; cases z)
    refine for_tup (K := K) (a := tt) (xs := ls.map V.int) (fun i σ H' => ∃ (v3 : Option V) (rs : List V), σ = [some (.ref p), some (.ref a), some (.ref W), v3, none, none] ∧ H' W = some (.lst rs) ∧ RowsAt H' W ls rs (ls.take i) ∧ ∀ b o, b ≠ W → H2 b = some o → H' b = some o)
      ⟨none, [], rfl, hW0, trivial, fun b o _ e => e⟩ (fun i σ H' _ ⟨_, _, _, _, _, q⟩ => SqT.of (q _ _ ntW htt)) ?_ ?_
    · rintro i x σ H' hi ⟨v3, rs, rfl, hW, hr, q⟩
      obtain ⟨z, hz, rfl⟩ := elt hi
      have hil := (List.getElem?_eq_some_iff.mp hz).1
      have sH := keep q
      refine ⟨_, rfl, .inl ⟨rfl, rs, SqL.of hW⟩, _, rfl, (by show 1 ≤ sizeLine; decide), fun u nu => ?_⟩
      have su := same_new (o := .lst [.int z]) nu
      refine ⟨_, rfl, p, dx, _, rfl, su _ _ (sH _ _ h1), fun n => ⟨p, ls, rfl, c.same (sH.trans su), fun tt2 it2 htt2 hit2 hle2 => ⟨it2, tt2, rfl, hle2, hit2, rfl, ⟨_, SqT.of htt2⟩, fun D hD => ?_⟩⟩⟩
      refine lc_tup (K := K) (a := tt2) (xs := ls.map V.int) (fun j H'' => H'' D = some (.lst ((ls.take j).map V.int)) ∧ ∀ b o, b ≠ D → (upd H' u (.lst [.int z])) b = some o → H'' b = some o) ⟨upd_same, fun b o nb e => by rw [upd_ne nb]; exact e⟩ (fun j H'' _ ⟨_, q⟩ => SqT.of (q _ _ (ne_of_none htt2 hD) htt2)) ?_ ?_
      · rintro j y H4 hy ⟨hD', q4⟩
        obtain ⟨zy, hzy, rfl⟩ := elt hy
        have hjl := (List.getElem?_eq_some_iff.mp hzy).1
        refine ⟨rfl, ?_⟩
        unfold tYes
        dsimp only
        rw [if_pos rfl]
        refine ⟨_, rfl, _, hD', ?_, ?_, fun b o nb e => ?_⟩
        · rw [List.length_map]
          exact small1000 (Nat.le_trans (List.length_take_le _ _) (by omega))
        · rw [upd_same, List.take_succ, hzy]
          simp
        · rw [upd_ne nb]
          exact q4 b o nb e
      · rintro H4 ⟨hD', q4⟩
        rw [List.length_map, List.take_of_length_le (Nat.le_refl _)] at hD'
        have nuD : u ≠ D := ne_of_none upd_same hD
        have hu4 := q4 _ _ nuD upd_same
        refine ⟨u, D, _, _, rfl, rfl, hu4, hD', (by rw [List.length_map]; exact Nat.le_of_lt (small1000 (by show 1 + ls.length ≤ 1000; omega))), fun r nr => ?_⟩
        have hW' := su _ _ hW
        have nWD : W ≠ D := ne_of_none hW' hD
        have hW4 := q4 _ _ nWD hW'
        have nrW : r ≠ W := Ne.symm (ne_of_none hW4 nr)
        have sr := same_new (o := .lst ([V.int z] ++ ls.map V.int)) nr
        have hl := hr.len
        refine ⟨W, rs, .ref r, rfl, rfl, sr _ _ hW4, small1000 (by rw [hl]; exact Nat.le_trans (List.length_take_le _ _) (by omega)), _, rs ++ [.ref r], rfl, upd_same, ?_, fun b o nb e => ?_⟩
        · rw [List.take_succ, hz]
          refine RowsAt.snoc nrW (by rw [upd_ne nrW, upd_same]; rfl) (hr.but fun b o nb e => ?_)
          rw [upd_ne nb]
          have e1 := su _ _ e
          exact sr _ _ (q4 _ _ (ne_of_none e1 hD) e1)
        · rw [upd_ne nb]
          have e1 := su _ _ (q _ _ nb e)
          exact sr _ _ (q4 _ _ (ne_of_none e1 hD) e1)
    · rintro σ H5 ⟨v3, rs, rfl, hW, hr, q⟩
      rw [List.length_map, List.take_of_length_le (Nat.le_refl _)] at hr
      have sH := keep q
      refine ⟨_, rfl, _, rfl, a, rfl, ⟨_, SqL.of (sH _ _ ha)⟩, fun D hD => ?_⟩
      have naD : a ≠ D := ne_of_none (sH _ _ ha) hD
      refine lc_list (K := K) (a := a) (xs := ls.map V.int) (fun i H'' => ∃ rs : List V, H'' D = some (.lst rs) ∧ RowsAt H'' D ls rs (ls.take i) ∧ ∀ b o, b ≠ D → H5 b = some o → H'' b = some o) ⟨[], upd_same, trivial, fun b o nb e => by rw [upd_ne nb]; exact e⟩ (fun i H'' _ ⟨_, _, _, q⟩ => SqL.of (q _ _ naD (sH _ _ ha))) ?_ ?_
      · rintro i y H6 hy ⟨rs2, hD6, hr6, q6⟩
        obtain ⟨z, hz, rfl⟩ := elt hy
        have hil := (List.getElem?_eq_some_iff.mp hz).1
        refine ⟨rfl, ?_⟩
        unfold tYes
        dsimp only
        rw [if_pos rfl]
        refine ⟨_, rfl, (by show 1 ≤ sizeLine; decide), fun u nu => ?_⟩
        have su := same_new (o := .lst [.int z]) nu
        have ha6 := su _ _ (q6 _ _ naD (sH _ _ ha))
        refine ⟨_, rfl, u, a, _, _, rfl, rfl, upd_same, ha6, (by rw [List.length_map]; exact Nat.le_of_lt (small1000 (by show 1 + ls.length ≤ 1000; omega))), fun r nr => ?_⟩
        have sr := su.trans (same_new (o := .lst ([V.int z] ++ ls.map V.int)) nr)
        have hDr := sr _ _ hD6
        have nrD : r ≠ D := Ne.symm (ne_of_none (su _ _ hD6) nr)
        have hl := hr6.len
        refine ⟨rs2, hDr, small1000 (by rw [hl]; exact Nat.le_trans (List.length_take_le _ _) (by omega)), rs2 ++ [.ref r], upd_same, ?_, fun b o nb e => ?_⟩
        · rw [List.take_succ, hz]
          refine RowsAt.snoc nrD (by rw [upd_ne nrD, upd_same]; rfl) (hr6.but fun b o nb e => ?_)
          rw [upd_ne nb]
          exact sr _ _ e
        · rw [upd_ne nb]
          exact sr _ _ (q6 _ _ nb e)
      · rintro H6 ⟨rs2, hD6, hr6, q6⟩
        rw [List.length_map, List.take_of_length_le (Nat.le_refl _)] at hr6
        have nWD : W ≠ D := ne_of_none hW hD
        have s6 : Same H5 H6 := fun b o e => q6 b o (ne_of_none e hD) e
        have sH6 := sH.trans s6
        refine ⟨_, _, .lst (SqL.of (s6 _ _ hW)) (hr.but fun b o _ e => s6 _ _ e).dp, .lst (SqL.of hD6) hr6.dp, rows_shaped ls ls, rows_shaped ls ls, _, rfl, ?_⟩
        rw [SeqAt.eqv_refl _ (SeqAt.canLay_of_shaped (rows_shaped ls ls))]
        refine iteT ⟨_, rfl, p, dx, _, rfl, sH6 _ _ h1, p, ls, rfl, c.same sH6, fun H7 s7 => ⟨_, rfl, ⟨_, rfl⟩, _, rfl, a, rfl, ⟨_, SqL.of ((sH6.trans s7) _ _ ha)⟩, fun D2 hD2 => ?_⟩⟩
        have sH7 := sH6.trans s7
        have naD2 : a ≠ D2 := ne_of_none (sH7 _ _ ha) hD2
        refine lc_list (K := K) (a := a) (xs := ls.map V.int) (fun i H' => H' D2 = some (.lst ((ls.take i).map fun l => V.str (toString l : String))) ∧ ∀ b o, b ≠ D2 → H7 b = some o → H' b = some o) ⟨upd_same, fun b o nb e => by rw [upd_ne nb]; exact e⟩ (fun i H' _ ⟨_, q⟩ => SqL.of (q _ _ naD2 (sH7 _ _ ha))) ?_ ?_
        · rintro i y H8 hy ⟨hD', q8⟩
          obtain ⟨l, hl, rfl⟩ := elt hy
          have gl := g.pos l (List.mem_of_getElem? hl)
          have hil := (List.getElem?_eq_some_iff.mp hl).1
          refine ⟨rfl, ?_⟩
          unfold tYes
          dsimp only
          rw [if_pos rfl]
          refine ⟨_, rfl, l, rfl, log60 (by omega) (by omega), _, hD', ?_, ?_, fun b o nb e => ?_⟩
          · rw [List.length_map]
            exact small1000 (Nat.le_trans (List.length_take_le _ _) (by omega))
          · rw [upd_same, List.take_succ, hl]
            simp
          · rw [upd_ne nb]
            exact q8 b o nb e
        · rintro H8 ⟨hD', q8⟩
          rw [List.length_map, List.take_of_length_le (Nat.le_refl _)] at hD'
          have s8 : Same H7 H8 := fun b o e => q8 b o (ne_of_none e hD2) e
          refine ⟨" ", D2, ls.map fun l => (toString l : String), rfl, rfl, .inl (SqL.of (by rw [hD', List.map_map]; rfl)), ?_, rfl, ?_⟩
          · have hs := lens_le g.pos
            have l1' : (Str.ofString " ").length = 1 := rfl
            rw [l1', List.length_map]
            have : ((ls.map fun l => (toString l : String)).map (fun s : String => (Str.ofString s).length)).sum = ((ls.map fun l => (Str.ofString (toString l : String))).map (·.length)).sum := by rw [List.map_map, List.map_map]; rfl
            omega
          · show Q (.bl (decide (V.str (textL ls) = V.str (textL ls)))) H8
            rw [decide_eq_true rfl]
            exact kk _ (sH7.trans s8)
end
end My
namespace My
open PySem PySem.Spec PyProof.Rows L2
abbrev sLaw : Stmt := top 30
def gD {α : Type} : List α → List α → List α
  | [a], [d] => [a, d]
  | _, _ => []
theorem rel_D {vs : List V} {us : List Value} {zs : List V} {ws : List Value} (r1 : Vals vs us) (r2 : Vals zs ws) : Vals (gD vs zs) (gD us ws) := by
  cases r1 with
  | nil => exact .nil
  | cons h1 t1 =>
    cases t1 with
    | cons _ _ => exact .nil
    | nil =>
      cases r2 with
      | nil => exact .nil
      | cons h2 t2 =>
        cases t2 with
        | nil => exact .cons h1 (.cons h2 .nil)
        | cons _ _ => exact .nil
theorem kb_of {K : PySem.W.Frag} {x qual : Str} {st : Stmt} {f : Addr} {fd : FuncData} (F : Fun K x qual st f fd) (h : ∀ (kV doc pm : Value) (an : Option Addr) (cdv ct a d : Value), bindArgs (PySem.W.fnOf x qual (defArgs st) (defBody st) (defScope st) .none kV doc pm an cdv ct) ⟨[a], [("lengths", d)]⟩ = pure [(("cls" : Str), a), (("lengths" : Str), d)]) :
    KBinds K fd ["cls", "lengths"] ["lengths"] gD gD := by
  obtain ⟨oc, od, kV, doc, pm, an, cdv, ct, osl, rfl, lk, hcd⟩ := F.ex
  refine ⟨fun s us ws _ hl => ?_, rel_D⟩
  match us, ws, hl with
  | [a], [d], _ => exact .of_eq (h kV doc pm an cdv ct a d)
  | [], _, hl => exact absurd hl (by simp [gD])
  | [_], [], hl => exact absurd hl (by simp [gD])
  | [_], _ :: _ :: _, hl => exact absurd hl (by simp [gD])
  | _ :: _ :: _, _, hl => exact absurd hl (by simp [gD])
theorem tabs_but {T : List (Addr × Str)} {H H' : Hp} {L : Addr} {xs : List V} (t : LamX.Tabs T H) (s : SameBut L H H') (hL : H L = some (.lst xs)) : LamX.Tabs T H' := fun q hq => by
  obtain ⟨ps, h1, h2, h3⟩ := t q hq
  refine ⟨ps, s _ _ (ne_of h1 hL (by intro z; cases z)) h1, h2, fun pos cv hc => ?_⟩
  obtain ⟨c, e1, e2⟩ := h3 pos cv hc
  exact ⟨c, e1, s _ _ (ne_of e2 hL (by intro z; unfold LamX.CodeO at z; cases z)) e2⟩
theorem tabs_same {T : List (Addr × Str)} {H H' : Hp} (t : LamX.Tabs T H) (s : Same H H') : LamX.Tabs T H' := t.ext s
theorem pen_ext {H H' : Hp} {p l : Addr} {N : Int} (h : PenAt H p l N) (s : LamX.ExtN H H') : PenAt H' p l N := by
  obtain ⟨ms, n, c, e1, e2, z⟩ := h.ex
  exact ⟨ms, n, c, s _ _ e1 (fun _ q => by cases q), s _ _ e2 (fun _ q => by cases q), z⟩
theorem pen_but {H H' : Hp} {p l q : Addr} {N : Int} (h : PenAt H p l N) (s : SameBut q H H') (n1 : p ≠ q) (n2 : l ≠ q) : PenAt H' p l N := by
  obtain ⟨ms, n, c, e1, e2, z⟩ := h.ex
  exact ⟨ms, n, c, s _ _ n1 e1, s _ _ n2 e2, z⟩
theorem but_upd {q : Addr} {H : Hp} {o : HO} : SameBut q H (upd H q o) := fun b ob nb e => by rw [upd_ne nb]; exact e
/-- a heard value -/
def HdAt (C : Addr) (H : Hp) (t : Addr) (o : Out) : Prop :=
  match o with
  | .cyc k => H t = some (.tup [.str "cycle", .str (toString ((k : Nat) : Int) : String)])
  | .many w n => H t = some (.tup [.str "many", .str w, .int n])
  | .ok ls => ∃ m, H t = some (.lst [.ref m]) ∧ CycAt C H m ls
theorem HdAt.ext {C t : Addr} {H H' : Hp} {o : Out} (h : HdAt C H t o) (s : LamX.ExtN H H') : HdAt C H' t o := by
  cases o with
  | cyc k => exact s _ _ h (fun _ q => by cases q)
  | many w n => exact s _ _ h (fun _ q => by cases q)
  | ok ls => exact let ⟨m, h1, h2⟩ := h; ⟨m, s _ _ h1 (fun _ q => by cases q), h2.ext s⟩
theorem HdAt.but {C t q : Addr} {H H' : Hp} {o : Out} {xs : List V} (h : HdAt C H t o) (s : SameBut q H H') (hq : H q = some (.lst xs)) (n : t ≠ q) : HdAt C H' t o := by
  cases o with
  | cyc k => exact s _ _ n h
  | many w n => exact s _ _ (by assumption) h
  | ok ls => exact let ⟨m, h1, h2⟩ := h; ⟨m, s _ _ n h1, h2.but s hq⟩
theorem DueAt.ext {H H' : Hp} {o : Out} {v : V} (d : DueAt H o v) (s : LamX.ExtN H H') : DueAt H' o v := by
  cases d with
  | yes e h => exact .yes e (s _ _ h fun _ q => by cases q)
  | no e => exact .no e
theorem DueAt.but {H H' : Hp} {o : Out} {v : V} {q : Addr} {xs : List V} (d : DueAt H o v) (s : SameBut q H H') (hq : H q = some (.lst xs)) : DueAt H' o v := by
  cases d with
  | yes e h => exact .yes e (s _ _ (ne_of h hq (by intro z; cases z)) h)
  | no e => exact .no e
/-- a turn of the law: the pen, the values at a, their copy at kp, what is due, the table -/
structure OkT (Pt : Addr) (q : Str) (p l a kp : Addr) (xs : List V) (dv : V) (H : Hp) (N : Int) : Prop where
  pen : PenAt H p l N
  ha : H a = some (.lst xs)
  hk : H kp = some (.lst xs)
  av : ∀ x ∈ xs, AV H x
  du : DueAt H (outOf xs) dv
  tb : LamX.Tabs [(Pt, q)] H
  nka : kp ≠ a
  nap : p ≠ a
  nal : l ≠ a
theorem OkT.ext {Pt : Addr} {q : Str} {p l a kp : Addr} {xs : List V} {dv : V} {H H' : Hp} {N : Int} (o : OkT Pt q p l a kp xs dv H N) (s : LamX.ExtN H H') (t : LamX.Tabs [(Pt, q)] H') : OkT Pt q p l a kp xs dv H' N :=
  ⟨pen_ext o.pen s, s _ _ o.ha (fun _ q => by cases q), s _ _ o.hk (fun _ q => by cases q), fun x hx => (o.av x hx).ext s, o.du.ext s, t, o.nka, o.nap, o.nal⟩
theorem OkT.same {Pt : Addr} {q : Str} {p l a kp : Addr} {xs : List V} {dv : V} {H H' : Hp} {N : Int} (o : OkT Pt q p l a kp xs dv H N) (s : Same H H') : OkT Pt q p l a kp xs dv H' N := o.ext (.of s) (tabs_same o.tb s)
/-- the list of what was heard, at hh -/
structure HhAt (C p l a kp hh : Addr) (o : Out) (rs : List V) (H : Hp) : Prop where
  h : H hh = some (.lst rs)
  np : p ≠ hh
  nl : l ≠ hh
  na : a ≠ hh
  nk : kp ≠ hh
  all : ∀ v ∈ rs, ∃ t, v = .ref t ∧ t ≠ hh ∧ t ≠ a ∧ HdAt C H t o
theorem HhAt.ext {C p l a kp hh : Addr} {o : Out} {rs : List V} {H H' : Hp} (b : HhAt C p l a kp hh o rs H) (s : LamX.ExtN H H') : HhAt C p l a kp hh o rs H' :=
  ⟨s _ _ b.h (fun _ q => by cases q), b.np, b.nl, b.na, b.nk, fun v hv => let ⟨t, e, n1, n2, d⟩ := b.all v hv; ⟨t, e, n1, n2, d.ext s⟩⟩
theorem HhAt.same {C p l a kp hh : Addr} {o : Out} {rs : List V} {H H' : Hp} (b : HhAt C p l a kp hh o rs H) (s : Same H H') : HhAt C p l a kp hh o rs H' := b.ext (.of s)
/-- one more is heard -/
theorem HhAt.app {C p l a kp hh t : Addr} {o : Out} {rs : List V} {H : Hp} (b : HhAt C p l a kp hh o rs H) (n1 : t ≠ hh) (n2 : t ≠ a) (d : HdAt C H t o) : HhAt C p l a kp hh o (rs ++ [.ref t]) (upd H hh (.lst (rs ++ [.ref t]))) :=
  ⟨upd_same, b.np, b.nl, b.na, b.nk, fun v hv => by
    rcases List.mem_append.mp hv with h | h
    · obtain ⟨t', e, m1, m2, d'⟩ := b.all v h
      exact ⟨t', e, m1, m2, d'.but but_upd b.h m1⟩
    · rw [List.mem_singleton.mp h]
      exact ⟨t, rfl, n1, n2, d.but but_upd b.h n1⟩⟩
theorem OkT.app {C Pt : Addr} {q : Str} {p l a kp hh : Addr} {xs : List V} {dv : V} {H : Hp} {N : Int} {o : Out} {rs ys : List V} (k : OkT Pt q p l a kp xs dv H N) (b : HhAt C p l a kp hh o rs H) : OkT Pt q p l a kp xs dv (upd H hh (.lst ys)) N :=
  ⟨pen_but k.pen but_upd b.np b.nl, by rw [upd_ne b.na]; exact k.ha, by rw [upd_ne b.nk]; exact k.hk, fun x hx => (k.av x hx).but but_upd upd_same, k.du.but but_upd b.h, tabs_but k.tb but_upd b.h, k.nka, k.nap, k.nal⟩
theorem HdAt.there {C t : Addr} {H : Hp} {o : Out} (h : HdAt C H t o) : ∃ ob, H t = some ob := by
  cases o with
  | cyc k => exact ⟨_, h⟩
  | many w n => exact ⟨_, h⟩
  | ok ls => exact let ⟨_, h1, _⟩ := h; ⟨_, h1⟩
theorem HhAt.start {C Pt : Addr} {q : Str} {p l a kp hh t : Addr} {xs : List V} {dv : V} {H : Hp} {N : Int} (k : OkT Pt q p l a kp xs dv H N) (n : H hh = none) (ta : t ≠ a) (d : HdAt C H t (outOf xs)) : HhAt C p l a kp hh (outOf xs) [.ref t] (upd H hh (.lst [.ref t])) := by
  obtain ⟨ms, m, c, e1, e2, _⟩ := k.pen.ex
  obtain ⟨ob, e3⟩ := d.there
  exact ⟨upd_same, ne_of_none e1 n, ne_of_none e2 n, ne_of_none k.ha n, ne_of_none k.hk n, fun v hv => by
    rw [List.mem_singleton.mp hv]
    exact ⟨t, rfl, ne_of_none e3 n, ta, d.ext (.of (same_new n))⟩⟩
/-- behind values.append(1) -/
structure OkU (C Pt : Addr) (q : Str) (p l kp hh : Addr) (xs : List V) (dv : V) (rs : List V) (H : Hp) (N : Int) : Prop where
  pen : PenAt H p l N
  hk : H kp = some (.lst xs)
  du : DueAt H (outOf xs) dv
  tb : LamX.Tabs [(Pt, q)] H
  h : H hh = some (.lst rs)
  all : ∀ v ∈ rs, ∃ t, v = .ref t ∧ HdAt C H t (outOf xs)
theorem OkU.mk' {C Pt : Addr} {q : Str} {p l a kp hh : Addr} {xs ys : List V} {dv : V} {H : Hp} {N : Int} {rs : List V} (k : OkT Pt q p l a kp xs dv H N) (b : HhAt C p l a kp hh (outOf xs) rs H) : OkU C Pt q p l kp hh xs dv rs (upd H a (.lst ys)) N :=
  ⟨pen_but k.pen but_upd k.nap k.nal, by rw [upd_ne k.nka]; exact k.hk, k.du.but but_upd k.ha, tabs_but k.tb but_upd k.ha, by rw [upd_ne (Ne.symm b.na)]; exact b.h, fun v hv => let ⟨t, e, _, n2, d⟩ := b.all v hv; ⟨t, e, d.but but_upd k.ha n2⟩⟩
theorem OkU.same {C Pt : Addr} {q : Str} {p l kp hh : Addr} {xs : List V} {dv : V} {H H' : Hp} {N : Int} {rs : List V} (k : OkU C Pt q p l kp hh xs dv rs H N) (s : Same H H') : OkU C Pt q p l kp hh xs dv rs H' N :=
  ⟨k.pen.same s, s _ _ k.hk, k.du.ext (.of s), tabs_same k.tb s, s _ _ k.h, fun v hv => let ⟨t, e, d⟩ := k.all v hv; ⟨t, e, d.ext (.of s)⟩⟩
/-- what a lambda's making of a Cycle asks, if heard gives it on -/
theorem heard_mk {C cBC cTM : Addr} {xs : List V} {H : Hp} {Q Q1 : VK} (av : ∀ x ∈ xs, AV H x) (len : xs.length ≤ 1000)
    (hQ : ∀ v H2, (∀ t H3, Same H2 H3 → H2 t = none → H3 t = some (.lst [v]) → Q (.ref t) H3) → Q1 v H2) (k : ∀ t H', Same H H' → H t = none → HdAt C H' t (outOf xs) → Q (.ref t) H') : MkC C cBC cTM xs H Q1 (Ech cBC cTM Q) := by
  refine ⟨av, len, ?_, fun ls e m H' s c => hQ (.ref m) H' fun t H3 s3 n3 h3 => k t H3 (s.trans s3) (s.free n3) ?_⟩
  · cases e : outOf xs with
    | cyc n => exact fun dd H' s h => ⟨dd, rfl, .inl ⟨rfl, n, out_lt e len, h, fun t H'' s' n' ht => k t H'' (s.trans s') (s.free n') (by rw [e]; exact ht)⟩⟩
    | many w n => exact fun dd H' s h => ⟨dd, rfl, .inr ⟨rfl, w, n, h, fun t H'' s' n' ht => k t H'' (s.trans s') (s.free n') (by rw [e]; exact ht)⟩⟩
    | ok ls => trivial
  · rw [e]
    exact ⟨m, h3, c.same s3⟩
theorem good_all : ∀ {ls : List Int}, (∀ l ∈ ls, 1 ≤ l ∧ l ≤ 60) → firstBad (ls.map V.int) = none
  | [], _ => rfl
  | a :: r, h => by
    have h1 := h a (by simp)
    show (if okV (.int a) = true then (firstBad (r.map V.int)).map (· + 1) else some 0) = none
    have e : okV (.int a) = true := by show (decide (1 ≤ a) && decide (a ≤ 60)) = true; rw [decide_eq_true h1.1, decide_eq_true h1.2]; rfl
    rw [if_pos e, good_all (ls := r) fun l hl => h l (by simp [hl])]
    rfl
theorem int_back : ∀ ls : List Int, (ls.map V.int).map intOf = ls
  | [] => rfl
  | a :: r => congrArg (a :: ·) (int_back r)
theorem out_good {ls : List Int} (g : Good ls) : outOf (ls.map V.int) = .ok ls := by
  have h1 := g.ne
  have h2 := g.few
  have h3 := g.sum
  unfold outOf
  rw [good_all g.pos]
  dsimp only
  rw [List.length_map, int_back, if_neg (by omega), if_neg (by omega), if_neg (by omega)]
theorem good_rev {ls : List Int} (g : Good ls) : Good ls.reverse := ⟨fun l hl => g.pos l (List.mem_reverse.mp hl), by rw [List.length_reverse]; exact g.ne, by rw [List.length_reverse]; exact g.few, by rw [List.sum_reverse]; exact g.sum⟩
theorem mk_good {C cBC cTM : Addr} {ls : List Int} {H : Hp} {Q : VK} {E : XK} (g : Good ls) (k : ∀ p H', Same H H' → CycAt C H' p ls → Q (.ref p) H') : MkC C cBC cTM (ls.map V.int) H Q E := by
  have e := out_good g
  refine ⟨fun x hx => ?_, by rw [List.length_map]; exact Nat.le_trans g.few (by decide), ?_, fun ms em p H' s c => ?_⟩
  · obtain ⟨i, _, rfl⟩ := List.mem_map.mp hx
    exact .int i
  · rw [e]; trivial
  · rw [e] at em
    cases em
    exact k p H' s c
theorem star_good {C cBC cTM : Addr} {ls : List Int} {us : List V} {H : Hp} {R : Hp → Prop} {E : XK} (g : Good ls) (hu : us = ls.map V.int) {x dx : Addr} (nx : H x = none) (nd : H dx = none) (ne : dx ≠ x) (kk : ∀ H', Same H H' → CycAt C H' x ls → R H') :
    spStarO C cBC cTM (V.ref x :: us) (upd (upd H dx (.own x)) x (.ins C dx [])) (fun v H2 => v = .non ∧ R H2) E := by
  subst hu
  have m : MkC C cBC cTM (ls.map V.int) H (fun v H' => v = .ref x → R H') E := mk_good g fun p H' s c e => by
    cases e
    exact kk H' s c
  have z := m.star nx nd ne
  have e : (fun (v : V) (H2 : Hp) => v = V.non ∧ (V.ref x = V.ref x → R H2)) = (fun v H2 => v = V.non ∧ R H2) := by
    funext v H2
    simp
  rw [e] at z
  exact z
/-- what is due, as data -/
def dueD (o : Out) : PyData := match o with
  | .cyc k => .tuple [.str "cycle", .str (toString ((k : Nat) : Int) : String)]
  | .many w n => .tuple [.str "many", .str w, .int n]
  | .ok _ => .none
theorem strOk_of (s : String) : PyData.strOk (Str.ofString s) = true := by
  rw [show Str.ofString s = ⟨(s.toList.map Char.toNat).toArray⟩ from PySem.Str.ofString_eq_toList s]
  unfold PyData.strOk
  rw [List.all_toArray, List.all_eq_true]
  intro n hn
  obtain ⟨c, _, rfl⟩ := List.mem_map.mp hn
  have h := c.valid
  rw [decide_eq_true_eq]
  have e : c.toNat = c.val.toNat := rfl
  unfold UInt32.isValidChar Nat.isValidChar at h
  omega
theorem out_word {xs : List V} {w : Str} {n : Int} (h : outOf xs = .many w n) : PyData.strOk w = true := by
  unfold outOf at h
  split at h
  · cases h
  · split at h
    · cases h
    · split at h
      · cases h
        exact strOk_of "blocks"
      · split at h
        · cases h
          exact strOk_of "days"
        · cases h
theorem due_shaped {xs : List V} {us : List V} (h : dueV (outOf xs) = some us) : SeqAt.shaped (dueD (outOf xs)) = true := by
  cases e : outOf xs with
  | cyc k =>
    show (PyData.canLay0 _ && decide (PyData.depth _ ≤ 64)) = true
    rw [Bool.and_eq_true, decide_eq_true_eq]
    refine ⟨?_, ?_⟩
    · simp only [dueD, PyData.canLay0, PyData.canLayAll0, strOk_of, Bool.and_self]
    · simp [dueD, PyData.depth, PyData.depthAll]
  | many w n =>
    show (PyData.canLay0 _ && decide (PyData.depth _ ≤ 64)) = true
    rw [Bool.and_eq_true, decide_eq_true_eq]
    refine ⟨?_, ?_⟩
    · simp only [dueD, PyData.canLay0, PyData.canLayAll0, strOk_of, out_word e, Bool.and_self]
    · simp [dueD, PyData.depth, PyData.depthAll]
  | ok ls =>
    rw [e] at h
    cases h
theorem due_dp {K : PySem.W.Frag} {H : Hp} {t : Addr} {o : Out} {us : List V} (e : dueV o = some us) (h : H t = some (.tup us)) : Dp K H (.ref t) (dueD o) := by
  cases o with
  | cyc k => cases e; exact .tup (SqT.of h) (.cons (.str _) (.cons (.str _) .nil))
  | many w n => cases e; exact .tup (SqT.of h) (.cons (.str _) (.cons (.str _) (.cons (.int _) .nil)))
  | ok ls => cases e
theorem heard_due {C t : Addr} {H : Hp} {o : Out} {us : List V} (h : HdAt C H t o) (e : dueV o = some us) : H t = some (.tup us) := by
  cases o with
  | cyc k => cases e; exact h
  | many w n => cases e; exact h
  | ok ls => cases e
theorem due_none {o : Out} (e : dueV o = none) : ∃ ls, o = .ok ls := by
  cases o with
  | cyc k => cases e
  | many w n => cases e
  | ok ls => exact ⟨ls, rfl⟩
section
variable {X : Cx} {CX : CXT} {k : Nat} {f : Addr} {fd : FuncData} {ps : List Str} {sp : Sp} {E : XK} {x : Str} {e : Expr} {es : List Expr} {t : TA} {p pos : Pos}
/-- x(e, ..) of a def that is called while no repr is under way -/
def tCallG (sp : Sp) (E : XK) (t : TA) : TE := fun σ H Q => t σ H fun vs H1 => sp vs H1 Q E
theorem pe_callG (F : FnG X.prog X.w X.K X.mg X.base CX k f fd ps sp) (gd : X.A.guards = some []) (hr : Room k X.A) (hg : Gl X x) (hm : X.mg x = some (.ref f)) (hk : PySem.W.keepIn X.K (.ref f) = true) (hb : Binds X.K fd ps []) (hx : Passes CX X E) (ha : PA X (e :: es) t)
    (hdb : (x == ("__debug__" : Str)) = false := by decide) (he : starEach (e :: es) X.env = (false, eval e X.env) :: starEach es X.env := by rfl) (hpl : (backTo pos (starEach es X.env)).any (·.1) = false := by rfl) : PE X (.Call (.Name x p) (e :: es) [] pos) (tCallG sp E t) := by
  refine ⟨fun pins s σ H Q I h => wpAny_Call_Name_kw (ld_glob I hg hm (PySem.W.callWith_K (h₀ := X.base) I.ok.mod.kin hk (thn (ha.run pos pins s σ H _ I h) fun us s1 z => ?_) he hpl) hdb)⟩
  obtain ⟨vs, H1, I1, r, q⟩ := z
  refine ⟨I1.kIn, wpAny_call (codeAny_mono (F.run X.A X.stack s1 H1 ⟨us, []⟩ us vs Q E gd hr I1.env0 ?_ r q) fun res s2 hq => ?_)⟩
  · have hl : (us ++ []).length = ps.length := by
      rw [List.append_nil, ← r.length]
      exact F.len _ _ _ _ q
    have := hb s1 us I1.kIn hl
    rw [List.append_nil] at this
    exact this
  · match res, hq with
    | .error e, hq => exact hx pins σ H1 s1 e s2 I1 hq
    | .ok (.ret u), hq => exact I1.after hq
    | .ok .next, hq => exact hq.elim
    | .ok .brk, hq => exact hq.elim
    | .ok .cont, hq => exact hq.elim
end
def rTupOf (K : PySem.W.Frag) : List V → Hp → VK → Prop := fun xs H Q => ∃ p ys, xs = [V.ref p] ∧ ((SqL K H p ys ∧ ∀ l, H l = none → Q (.ref l) (upd H l (.tup ys))) ∨ (SqT K H p ys ∧ Q (.ref p) H))
theorem cr_tupOf {X : Cx} : CallR X (.type "tuple") (rTupOf X.K) := call_tuple_of
theorem kll : kitB "list" "list" = some true := by decide +kernel
end My
namespace My
open PySem PySem.Spec PyProof.Rows L2
def spLawT (K : PySem.W.Frag) (Pt : Addr) : Sp := fun vs H Q _ => ∃ (a : Addr) (ns : List Int), vs = [.ref a] ∧ H Pt = some (.tbl #[]) ∧ SqL K H a (ns.map V.int) ∧ ns.length ≤ 63 ∧ ∀ H', Q (.bl true) H'
/-- == and != of a Cycle -/
structure EqT (P : Program) (w : World) (K : PySem.W.Frag) (mg : Str → Option Value) (base : Heap) (C f : Addr) (fd : FuncData) : Prop where
  F : FnOk P w K mg base CX0 1 f fd ["self", "other"] (spEqC K C)
  b : Binds K fd ["self", "other"] []
  eq : EqO K C f
  ne : NeO K C f
/-- the kinds of things that are no Cycle -/
structure KindsN (K : PySem.W.Frag) (C : Addr) : Prop where
  kit : ∀ t ∈ (["NoneType", "tuple", "list", "str", "int"] : List String), PySem.W.kitOne K (.type t) (.ref C) = some false ∧ PySem.W.subIn K (.type t) (.ref C) = some false
section
variable {P : Program} {w : World} {K : PySem.W.Frag} {mg : Str → Option Value} {base : Heap} {C fWhole fBetw fDay fChk fDraw fPick fPen fVa fDu fRi fHe fOf pOf fCI c Pt cBC fBC cTM fTM cDE pGl fGl fSt fE : Addr} {dDraw dPick dPen dVa dDu dRi dHe dOf dGl dSt dE : FuncData} {mc : Value}
theorem scLaw : FnScope ["_law_script", "_law_pen_here", "_law_turn", "_law_values_here", "_law_due_here", "_law_kept", "_law_heard_here", "_law_written", "_law_by_hand", "_law_one", "_law_made", "_law_other", "_law_thing"] ["_law_script"] (defScope sLaw) := ⟨rfl, rfl, rfl, by decide +kernel, rfl, by decide +kernel, by decide +kernel⟩
set_option maxHeartbeats 16000000 in
theorem ok_law {f : Addr} {fd : FuncData} (F : Fun K "law" "law" sLaw f fd) (hc : fd.code = .ref c) (T : Txt K mg C fWhole fBetw fDay fChk) (M : CyK K C) (KN : KindsN K C) (EQ : EqT P w K mg base C fE dE) (TB : LamX.TabB base mg c Pt)
    (DP : Df P w K mg base "_law_pen" 1 fPen dPen ["_law_script"] (spPen K)) (DV : Df P w K mg base "_law_values" 3 fVa dVa ["_law_pen_here"] spVals) (DU : Df P w K mg base "_law_due" 1 fDu dDu ["_law_values_here"] spDue)
    (RF : FnG P w K mg base CX0 4 fRi dRi ["_law_made", "_law_values_here"] (spRight C)) (bR : Binds K dRi ["_law_made", "_law_values_here"] []) (kR : PySem.W.keepIn K (.ref fRi) = true) (gR : mg "_law_right" = some (.ref fRi))
    (GL : CP P w K mg base C "lengths" (spGetL C) pGl fGl dGl) (ST : CS P w K mg base C "__str__" (spStrC C) fSt dSt)
    (CI : FnR P w K mg base (L2.CX P w) 4 fCI (spStarO C cBC cTM)) (MI : Mk K C fCI) (OF : FnOk P w K mg base (L2.CX P w) 6 fOf dOf ["cls", "lengths"] (spOf C cBC cTM)) (bOf : Binds K dOf ["cls", "lengths"] []) (kOf : KBinds K dOf ["cls", "lengths"] ["lengths"] gD gD) (cr : ClX.CRead K C mc) (cm : ClX.CMet K C mc "of" pOf fOf)
    (FH : Fun K "_law_heard" "_law_heard" sHeard fHe dHe) (bH : Binds K dHe ["_law_ask"] []) (gH : mg "_law_heard" = some (.ref fHe)) (HT : HeardT K mg cBC cTM cDE fBC fTM) : FnG P w K mg base CX0 9 f fd ["_law_script"] (spLawT K Pt) := by
  refine okGc F hc scLaw (fun vs H Q E h => ?_) (fun A outer s H vs Q E gd hr h => ?_)
  · obtain ⟨a, ns, rfl, _⟩ := h
    rfl
  · obtain ⟨a, ns, rfl, hT, hS, hlen, kk⟩ := h
    have hr1 : Room 1 _ := hr.mono (by decide)
    have hr2 : Room 2 _ := hr.mono (by decide)
    have hr3 : Room 3 _ := hr.mono (by decide)
    have hr4 : Room 4 _ := hr.mono (by decide)
    have hr5 : Room 5 _ := hr.mono (by decide)
    have hr6 : Room 6 _ := hr.mono (by decide)
    refine ⟨_, pss_cons (ps_set (i := 1) scLaw.nd rfl (Or.inl rfl) (pe_call DP.F hr1 rfl DP.g DP.kp DP.b .nil pass0 (pa_cons (pv 0) pa_nil))) (pss_cons (ps_for PassesOwn.never rfl (pi_range1 rfl T.zRange (pa_cons pe_int pa_nil)) (pg_name (i := 2) scLaw.nd rfl (Or.inl rfl)) (pss_cons (ps_set (i := 3) scLaw.nd rfl (Or.inr rfl) (pe_call DV.F hr3 rfl DV.g DV.kp DV.b .nil pass0 (pa_cons (pv 1) pa_nil))) (pss_cons (ps_par (i := 4) (j := 5) (by rfl) scLaw.nd rfl rfl (by decide) rfl rfl (pa_cons (pe_call DU.F hr1 rfl DU.g DU.kp DU.b .nil pass0 (pa_cons (pv 3) pa_nil)) (pa_cons (pe_callTy call_list_of (by rfl) T.zList (by decide +kernel) (pa_cons (pv 3) pa_nil)) pa_nil)) (by rfl)) (pss_cons (ps_set (i := 6) scLaw.nd rfl (Or.inl rfl) (pe_lst (pa_cons (pe_heard (Str.ofString "law" ++ Str.ofString ".<locals>.") (by rfl) FH bH gH HT gd TB rfl hr rfl (defScope sLaw) rfl (by decide +kernel) rfl (fun _ _ _ _ _ => rfl) (fun A outer s H E f c' hr => ClX.pe_cmeth (E := E) (pe_glob (v := .ref C) rfl T.gCyc rfl) cr cm (OF.raw bOf .nil) (hr.mono (by decide)) (passes_call (takes_of rfl rfl rfl rfl) fun _ _ _ _ h => h) (pa_cons (pv 3) pa_nil))) pa_nil))) (pss_cons (ps_expr (pe_bm PySem.F.plainAttrs_list PySem.F.slot_list_append PySem.F.type_list_append mt_append (pv 6) (pa_cons (pe_heard (Str.ofString "law" ++ Str.ofString ".<locals>.") (by rfl) FH bH gH HT gd TB rfl hr rfl (defScope sLaw) rfl (by decide +kernel) rfl (fun _ _ _ _ _ => rfl) (fun A outer s H E f c' hr => pe_cmethK (E := E) (pe_glob (v := .ref C) rfl T.gCyc rfl) cr cm OF (hr.mono (by decide)) kOf (passes_call (takes_of rfl rfl rfl rfl) fun _ _ _ _ h => h) (pk_cons (pe_callTy (T := "tuple") (r := rTupOf K) cr_tupOf (by rfl) T.zTuple (by decide +kernel) (pa_cons (pv 3) pa_nil)) pk_nil))) pa_nil))) (C8.pss_cut (ps_if (pt_cmpR op_lt (pe_callB call_len_seq (by rfl) T.zLen PySem.boot_len (pa_cons (pv 3) pa_nil)) pe_int (nomark _)) (pss_cons (ps_set (i := 7) scLaw.nd rfl (Or.inr rfl) (pe_op op_cat (pv 3) (pe_lst (pa_cons pe_non (pa_cons pe_non pa_nil))))) (pss_cons (ps_set (i := 8) scLaw.nd rfl (Or.inl rfl) (pe_heard (Str.ofString "law" ++ Str.ofString ".<locals>.") (by rfl) FH bH gH HT gd TB rfl hr rfl (defScope sLaw) rfl (by decide +kernel) rfl (fun _ _ _ _ _ => rfl) (fun A outer s H E f c' hr => pe_makeR0 (E := E) MI CI (hr.mono (by decide)) (by rfl) T.gCyc (passes_call (takes_of rfl rfl rfl rfl) fun _ _ _ _ h => h)))) (C8.pss_cut (ps_if (pt_cmpR op_eq (pe_callB call_len_seq (by rfl) T.zLen PySem.boot_len (pa_cons (pv 3) pa_nil)) pe_int (nomark _)) (pss_one (ps_set (i := 8) scLaw.nd rfl (Or.inl rfl) (pe_heard (Str.ofString "law" ++ Str.ofString ".<locals>.") (by rfl) FH bH gH HT gd TB rfl hr rfl (defScope sLaw) rfl (by decide +kernel) rfl (fun _ _ _ _ _ => rfl) (fun A outer s H E f c' hr => StX.pe_makeR (E := E) MI CI (hr.mono (by decide)) (by rfl) T.gCyc (passes_call (takes_of rfl rfl rfl rfl) fun _ _ _ _ h => h) (pa_cons (pe_ix (r := rIxL K) ix_list (pv 7) pe_int (fun _ _ => rfl)) pa_nil))))) pss_nil) (C8.pss_cut (ps_if (pt_cmpR op_eq (pe_callB call_len_seq (by rfl) T.zLen PySem.boot_len (pa_cons (pv 3) pa_nil)) pe_int (nomark _)) (pss_one (ps_set (i := 8) scLaw.nd rfl (Or.inl rfl) (pe_heard (Str.ofString "law" ++ Str.ofString ".<locals>.") (by rfl) FH bH gH HT gd TB rfl hr rfl (defScope sLaw) rfl (by decide +kernel) rfl (fun _ _ _ _ _ => rfl) (fun A outer s H E f c' hr => StX.pe_makeR (E := E) MI CI (hr.mono (by decide)) (by rfl) T.gCyc (passes_call (takes_of rfl rfl rfl rfl) fun _ _ _ _ h => h) (pa_cons (pe_ix (r := rIxL K) ix_list (pv 7) pe_int (fun _ _ => rfl)) (pa_cons (pe_ix (r := rIxL K) ix_list (pv 7) pe_int (fun _ _ => rfl)) pa_nil)))))) pss_nil) (pss_one (ps_expr (pe_bm PySem.F.plainAttrs_list PySem.F.slot_list_append PySem.F.type_list_append mt_append (pv 6) (pa_cons (pv 8) pa_nil)))))))) pss_nil) (pss_cons (ps_expr (pe_bm PySem.F.plainAttrs_list PySem.F.slot_list_append PySem.F.type_list_append mt_append (pv 3) (pa_cons pe_int pa_nil))) (pss_cons (ps_for PassesOwn.never rfl (pi_list (pv 6)) (pg_name (i := 9) scLaw.nd rfl (Or.inl rfl)) (pss_cons (ps_if (PW.pt (pw_and (pt_cmp (pc_notN (pv 4))) (pw_and1 (pt_cmpR (op_neD hr.units) (pv 9) (pv 4) (nomark _))))) pss_never pss_nil) (pss_one (ps_if (PW.pt (pw_and (pt_cmp (pc_isN (pv 4))) (pw_and1 (PW.pt (pw_or (pt_not (pt_val (pe_callB call_isi (by rfl) T.zIsi (by decide +kernel) (pa_cons (pv 9) (pa_cons (pe_bltn (v := .ty "list") (by rfl) T.zList (by decide +kernel) rfl) pa_nil))))) (pw_or1 (pt_not (pt_val (pe_callG RF gd hr4 rfl gR kR bR pass0 (pa_cons (pe_ix ix_list (pv 9) pe_int (fun _ _ => rfl)) (pa_cons (pv 5) pa_nil))))))))))) pss_never pss_nil)))) (pss_one (ps_if (pt_cmp (pc_isN (pv 4))) (pss_cons (ps_asg (pe_tup (pa_cons (pe_ix ix_list (pe_ix ix_list (pv 6) pe_int (fun _ _ => rfl)) pe_int (fun _ _ => rfl)) (pa_cons (ClX.pe_cmeth (pe_glob (v := .ref C) rfl T.gCyc rfl) cr cm (OF.raw bOf .nil) hr6 passL (pa_cons (pe_revL (pv 5)) pa_nil)) pa_nil))) (pg_tup rfl (pgs_cons (pg_name (i := 10) scLaw.nd rfl (Or.inr rfl)) (pgs_cons (pg_name (i := 11) scLaw.nd rfl (Or.inl rfl)) pgs_nil)))) (pss_cons (ps_if (PW.pt (pw_or (pt_cmpR op_ne (pe_cmpR (op_eqO EQ.eq (EQ.F.raw EQ.b .nil) hr2 pass0) (pv 10) (pv 11) (nomark _)) (pe_cmpR (op_eqD hr.units) (pv 5) (pe_revL (pv 5)) (nomark _)) (nomark _)) (pw_or1 (pt_cmpR (op_neO EQ.ne (EQ.F.raw EQ.b .nil) hr2 pass0) (pv 10) (pe_ix ix_list (pe_ix ix_list (pv 6) pe_int (fun _ _ => rfl)) pe_int (fun _ _ => rfl)) (nomark _))))) pss_never pss_nil) (pss_one (ps_if (pt_cmpR (op_neD hr.units) (pe_lc (own := [("_law_thing", 12)]) (g := gName 12) rfl scLaw.nd (pi_list (pe_lst (pa_cons pe_non (pa_cons (pe_prop (pv 10) T.cl GL.p GL.F hr2 GL.b .nil pass0 rfl) (pa_cons (pv 5) (pa_cons (pe_callTy (call_strO ST.at_ ST.fn (ST.F.raw ST.b .nil) hr3 pass0) (by rfl) T.zStr (by decide +kernel) (pa_cons (pv 10) pa_nil)) (pa_cons pe_int pa_nil))))))) (blkOk_by (N := ["_law_script", "_law_pen_here", "_law_turn", "_law_values_here", "_law_due_here", "_law_kept", "_law_heard_here", "_law_written", "_law_by_hand", "_law_one", "_law_made", "_law_other", "_law_thing"]) (sc := defScope sLaw) (by decide +kernel)) (fun _ _ _ _ _ => pg_name (i := 12) scLaw.nd rfl (Or.inl rfl)) (fun _ _ _ _ _ => pts_one (pt_cmpR (r := rEqO K C (fun vs H Q E => spEqC K C (vs ++ []) H Q E) E0) (op_eqO EQ.eq (EQ.F.raw EQ.b .nil) hr2 pass0) (pv 10) (pv 12) (nomark _))) (fun _ _ _ _ _ => pv 12)) (pe_lst pa_nil) (nomark _)) pss_never pss_nil)))) pss_nil)))))))))) (pss_one (ps_ret (pe_cmpR (op_neO EQ.ne (EQ.F.raw EQ.b .nil) hr2 pass0) (StX.pe_makeR MI CI hr5 rfl T.gCyc passL (pa_cons pe_int pa_nil)) (StX.pe_makeR MI CI hr5 rfl T.gCyc passL (pa_cons pe_int (pa_cons pe_int pa_nil))) (nomark _))))), ?_⟩
    refine ⟨_, rfl, a, ns, rfl, hS, hlen, fun p l H1 s1 pen0 => ?_⟩
    have tb0 : LamX.Tabs [(Pt, ((Str.ofString "law" ++ Str.ofString ".<locals>.") ++ Str.ofString "<lambda>"))] H1 := fun q hq => by
      rw [List.mem_singleton.mp hq]
      exact .nil (s1 _ _ hT)
    generalize hQ : ((Str.ofString "law" ++ Str.ofString ".<locals>.") ++ Str.ofString "<lambda>") = qq at tb0 ⊢
    refine ⟨14, rfl, by decide, by decide, for_range (lo := 0) (n := 14) (fun i σ H' => ∃ v2 v3 v4 v5 v6 v7 v8 v9 v10 v11 : Option V, σ = [some (.ref a), some (.ref p), v2, v3, v4, v5, v6, v7, v8, v9, v10, v11, none] ∧ PenAt H' p l (100 * i) ∧ LamX.Tabs [(Pt, qq)] H') ⟨none, none, none, none, none, none, none, none, none, none, rfl, pen0.le (by omega), tb0⟩ ?_ ?_⟩
    · rintro i σ H2 hi ⟨v2, v3, v4, v5, v6, v7, v8, v9, v10, v11, rfl, pen2, tb2⟩
      clear tb0 pen0
      refine ⟨_, rfl, p, l, 100 * i, rfl, pen2, by omega, fun va xs H3 vs3 hl3 => ?_⟩
      obtain ⟨px, hpx⟩ := pen2.lst
      have tb3 : LamX.Tabs [(Pt, qq)] H3 := tabs_but tb2 vs3.sb hpx
      have nap : p ≠ va := Ne.symm vs3.nap
      have nal : l ≠ va := by
        obtain ⟨ms, n, c0, e1, e2, _⟩ := pen2.ex
        exact ne_of_none e2 vs3.new
      refine ⟨_, rfl, va, xs, rfl, vs3.h, vs3.av, by omega, fun dv H4 s4 du4 => ?_⟩
      have v4' := vs3.same s4
      refine ⟨_, rfl, va, xs, rfl, .inl (SqL.of v4'.h), fun kp nkp => ?_⟩
      have o5 : OkT Pt qq p l va kp xs dv (upd H4 kp (.lst xs)) (100 * i + 100) := by
        have sk := same_new (o := .lst xs) nkp
        exact ⟨v4'.pen.same sk, sk _ _ v4'.h, upd_same, fun x hx => (v4'.av x hx).same sk, du4.ext (.of sk), tabs_same (tabs_same tb3 s4) sk, Ne.symm (ne_of_none v4'.h nkp), nap, nal⟩
      clear vs3 tb3 tb2 pen2 hpx du4 v4' s4 nkp
      generalize upd H4 kp (.lst xs) = H5 at o5 ⊢
      clear nap nal
      -- heard: Cycle.of(values)
      refine ⟨_, _, rfl, o5.tb, fun Ha ea ta Hb Q1 sb hQ => ?_⟩
      have ob := (o5.ext ea ta).same sb
      refine ⟨rfl, _, rfl, va, xs, rfl, .inr ob.ha, heard_mk ob.av (by omega) hQ fun t1 H6 s6 n6 d6 => ?_⟩
      have o6 := ob.same s6
      have t1a : t1 ≠ va := Ne.symm (ne_of_none ob.ha n6)
      refine ⟨(by show 1 ≤ sizeLine; decide), fun hh nhh => ?_⟩
      have b7 := HhAt.start o6 nhh t1a d6
      have o7 := o6.same (same_new (o := .lst [.ref t1]) nhh)
      generalize upd H6 hh (.lst [.ref t1]) = H7 at b7 o7 ⊢
      clear o6 ob hQ sb ta ea s6 n6 d6 nhh o5
      -- heard: Cycle.of(lengths = tuple(values))
      refine ⟨_, rfl, .inl ⟨rfl, _, SqL.of b7.h⟩, o7.tb, fun Ha ea ta Hb Q1 sb hQ => ?_⟩
      have ob := (o7.ext ea ta).same sb
      have bb := (b7.ext ea).same sb
      refine ⟨rfl, _, rfl, va, xs, rfl, .inl ⟨SqL.of ob.ha, fun tt ntt => ?_⟩⟩
      have oc := ob.same (same_new (o := .tup xs) ntt)
      have bc := bb.same (same_new (o := .tup xs) ntt)
      refine ⟨tt, xs, rfl, .inl upd_same, heard_mk oc.av (by omega) hQ fun t2 H8 s8 n8 d8 => ?_⟩
      have o8 := oc.same s8
      have b8 := bc.same s8
      have t2a : t2 ≠ va := Ne.symm (ne_of_none oc.ha n8)
      have t2h : t2 ≠ hh := Ne.symm (ne_of_none bc.h n8)
      refine ⟨hh, _, .ref t2, rfl, rfl, b8.h, (by show 1 < sizeLine; decide), ?_⟩
      have b9 := b8.app t2h t2a d8
      have o9 := o8.app (ys := [.ref t1] ++ [.ref t2]) b8
      generalize upd H8 hh (.lst ([.ref t1] ++ [.ref t2])) = H9 at b9 o9 ⊢
      clear o8 b8 oc bc ob bb hQ sb ta ea s8 n8 d8 ntt o7 b7
      -- fewer than three values
      refine ⟨fun σ' H' => ∃ (v7 v8 : Option V) (rs : List V), σ' = [some (.ref a), some (.ref p), some (.int (0 + i)), some (.ref va), some dv, some (.ref kp), some (.ref hh), v7, v8, v9, v10, v11, none] ∧ OkT Pt qq p l va kp xs dv H' (100 * i + 100) ∧ HhAt C p l va kp hh (outOf xs) rs H' ∧ 2 ≤ rs.length ∧ rs.length ≤ 3, ?_, ?_⟩
      · refine ⟨_, rfl, va, _, rfl, .inl (SqL.of o9.ha), _, _, rfl, rfl, _, rfl, ?_⟩
        refine ite2 (fun h3 => ?_) (fun h3 => ?_)
        rotate_left
        · exact ⟨v7, v8, [.ref t1] ++ [.ref t2], rfl, o9, b9, (by show 2 ≤ 2; decide), (by show 2 ≤ 3; decide)⟩
        · have h3' := of_decide_eq_true h3
          refine ⟨_, rfl, (by show 2 ≤ sizeLine; decide), fun u nu => ?_⟩
          have su := same_new (o := .lst [.non, .non]) nu
          refine ⟨va, u, _, _, rfl, rfl, su _ _ o9.ha, upd_same, Nat.le_of_lt (small1000 (by show xs.length + 2 ≤ 1000; omega)), fun wr nwr => ?_⟩
          have sw := su.trans (same_new (o := .lst (xs ++ [.non, .non])) nwr)
          have oA := o9.same sw
          have bA := b9.same sw
          have hwA := upd_same (H := upd H9 u (.lst [.non, .non])) (a := wr) (o := .lst (xs ++ [.non, .non]))
          generalize upd (upd H9 u (.lst [.non, .non])) wr (.lst (xs ++ [.non, .non])) = HA at oA bA hwA ⊢
          clear o9 b9 su sw nu nwr
          -- heard: Cycle()
          refine ⟨oA.tb, fun Ha ea ta Hb Q1 sb hQ => ?_⟩
          have ob := (oA.ext ea ta).same sb
          have bb := (bA.ext ea).same sb
          have hwb := sb _ _ (ea _ _ hwA (fun _ q => by cases q))
          refine fun x dx nx nd ne => (heard_mk (xs := []) (fun x hx => absurd hx (by simp)) (by decide) hQ fun t3 HB sB nB dB => ?_).star nx nd ne
          have oB := ob.same sB
          have bB := bb.same sB
          have hwB := sB _ _ hwb
          have t3a : t3 ≠ va := Ne.symm (ne_of_none ob.ha nB)
          have t3h : t3 ≠ hh := Ne.symm (ne_of_none bb.h nB)
          clear oA bA hwA ob bb hwb hQ sb ta ea sB nB
          refine ⟨fun σ' H' => ∃ (t3 : Addr) (zs : List V), σ' = [some (.ref a), some (.ref p), some (.int (0 + i)), some (.ref va), some dv, some (.ref kp), some (.ref hh), some (.ref wr), some (.ref t3), v9, v10, v11, none] ∧ OkT Pt qq p l va kp xs dv H' (100 * i + 100) ∧ HhAt C p l va kp hh (outOf xs) ([.ref t1] ++ [.ref t2]) H' ∧
            H' wr = some (.lst (xs ++ [.non, .non])) ∧ t3 ≠ va ∧ t3 ≠ hh ∧ HdAt C H' t3 (outOf zs) ∧ (xs.length ≤ 1 → zs = xs), ?_, ?_⟩
          · refine ⟨_, rfl, va, _, rfl, .inl (SqL.of oB.ha), rfl, _, rfl, ?_⟩
            by_cases e1 : xs.length = 1
            · rw [decide_eq_true (by rw [e1]; rfl)]
              obtain ⟨x0, hx⟩ : ∃ x0, xs = [x0] := List.length_eq_one_iff.mp e1
              refine iteT ⟨oB.tb, fun Ha ea ta Hb Q1 sb hQ => ?_⟩
              have ob := (oB.ext ea ta).same sb
              have bb := (bB.ext ea).same sb
              have hwb := sb _ _ (ea _ _ hwB (fun _ q => by cases q))
              refine ⟨_, rfl, wr, _, _, x0, rfl, rfl, SqL.of hwb, atI_nat (j := 0) (by rw [hx]; rfl), fun x dx nx nd ne => ?_⟩
              rw [show ([x0] : List V) = xs from hx.symm]
              exact (heard_mk ob.av (by omega) hQ fun t3 HC sC nC dC => ⟨t3, xs, rfl, ob.same sC, bb.same sC, sC _ _ hwb, Ne.symm (ne_of_none ob.ha nC), Ne.symm (ne_of_none bb.h nC), dC, fun _ => rfl⟩).star nx nd ne
            · rw [decide_eq_false (fun z => e1 (by have := V.int.inj z; omega))]
              exact iteF ⟨t3, [], rfl, oB, bB, hwB, t3a, t3h, dB, fun h => (List.length_eq_zero_iff.mp (by omega)).symm⟩
          · rintro σ' HC ⟨t3, zs, rfl, oC, bC, hwC, t3a, t3h, dC, ez⟩
            clear oB bB hwB dB
            refine ⟨fun σ' H' => ∃ (t3 : Addr), σ' = [some (.ref a), some (.ref p), some (.int (0 + i)), some (.ref va), some dv, some (.ref kp), some (.ref hh), some (.ref wr), some (.ref t3), v9, v10, v11, none] ∧ OkT Pt qq p l va kp xs dv H' (100 * i + 100) ∧ HhAt C p l va kp hh (outOf xs) ([.ref t1] ++ [.ref t2]) H' ∧
              t3 ≠ va ∧ t3 ≠ hh ∧ HdAt C H' t3 (outOf xs), ?_, ?_⟩
            · refine ⟨_, rfl, va, _, rfl, .inl (SqL.of oC.ha), rfl, _, rfl, ?_⟩
              by_cases e2 : xs.length = 2
              · rw [decide_eq_true (by rw [e2]; rfl)]
                obtain ⟨x0, x1, hx⟩ : ∃ x0 x1, xs = [x0, x1] := match xs, e2 with | [x0, x1], _ => ⟨x0, x1, rfl⟩
                refine iteT ⟨oC.tb, fun Ha ea ta Hb Q1 sb hQ => ?_⟩
                have ob := (oC.ext ea ta).same sb
                have bb := (bC.ext ea).same sb
                have hwb := sb _ _ (ea _ _ hwC (fun _ q => by cases q))
                refine ⟨_, rfl, wr, _, _, x0, rfl, rfl, SqL.of hwb, atI_nat (j := 0) (by rw [hx]; rfl), _, rfl, wr, _, _, x1, rfl, rfl, SqL.of hwb, atI_nat (j := 1) (by rw [hx]; rfl), fun x dx nx nd ne => ?_⟩
                rw [show ([x0, x1] : List V) = xs from hx.symm]
                exact (heard_mk ob.av (by omega) hQ fun t3 HD sD nD dD => ⟨t3, rfl, ob.same sD, bb.same sD, Ne.symm (ne_of_none ob.ha nD), Ne.symm (ne_of_none bb.h nD), dD⟩).star nx nd ne
              · rw [decide_eq_false (fun z => e2 (by have := V.int.inj z; omega))]
                have e := ez (by omega)
                rw [e] at dC
                exact iteF ⟨t3, rfl, oC, bC, t3a, t3h, dC⟩
            · rintro σ' HD ⟨t3, rfl, oD, bD, t3a, t3h, dD⟩
              refine ⟨_, rfl, .inl ⟨rfl, _, SqL.of bD.h⟩, _, rfl, hh, _, .ref t3, rfl, rfl, bD.h, (by show 2 < sizeLine; decide), ?_⟩
              exact ⟨_, _, ([.ref t1] ++ [.ref t2]) ++ [.ref t3], rfl, oD.app bD, bD.app t3h t3a dD, (by show 2 ≤ 3; decide), (by show 3 ≤ 3; decide)⟩
      · rintro σ' HE ⟨v7', v8', rs, rfl, oE, bE, hr2', hr3'⟩
        have uE := OkU.mk' (ys := xs ++ [.int 1]) oE bE
        refine ⟨_, rfl, .inl ⟨rfl, _, SqL.of oE.ha⟩, va, xs, .int 1, rfl, rfl, oE.ha, small1000 (by omega), ?_⟩
        generalize upd HE va (.lst (xs ++ [.int 1])) = HF at uE ⊢
        clear oE bE
        refine ⟨_, rfl, hh, rfl, ⟨_, SqL.of uE.h⟩, for_list (K := K) (a := hh) (xs := rs) (fun j σ H' => ∃ v9 : Option V, σ = [some (.ref a), some (.ref p), some (.int (0 + i)), some (.ref va), some dv, some (.ref kp), some (.ref hh), v7', v8', v9, v10, v11, none] ∧ OkU C Pt qq p l kp hh xs dv rs H' (100 * i + 100)) ⟨_, rfl, uE⟩ (fun j σ H' _ ⟨_, _, u⟩ => SqL.of u.h) ?_ ?_⟩
        · rintro j x σ HG hj ⟨v9', rfl, uG⟩
          obtain ⟨t, rfl, hd⟩ := uG.all x (List.mem_of_getElem? hj)
          have du := uG.du
          cases hdv : dueV (outOf xs) with
          | some us =>
            have ht := heard_due hd hdv
            obtain ⟨u, rfl, hu⟩ : ∃ u, dv = .ref u ∧ HG u = some (.tup us) := by
              cases du with
              | yes e h => rw [hdv] at e; cases e; exact ⟨_, rfl, h⟩
              | no e => rw [hdv] at e; cases e
            refine ⟨_, rfl, _, rfl, iteT ⟨_, rfl, _, rfl, dueD (outOf xs), dueD (outOf xs), due_dp hdv ht, due_dp hdv hu, due_shaped hdv, due_shaped hdv, _, rfl, ?_⟩⟩
            rw [SeqAt.eqv_refl _ (SeqAt.canLay_of_shaped (due_shaped hdv))]
            refine iteF ⟨_, rfl, _, rfl, iteF ?_⟩
            exact ⟨_, rfl, uG⟩
          | none =>
            obtain ⟨ls, ho⟩ := due_none hdv
            obtain rfl : dv = .non := by
              cases du with
              | yes e h => rw [hdv] at e; cases e
              | no e => rfl
            rw [ho] at hd
            obtain ⟨m, ht, cy⟩ := hd
            obtain ⟨g, hxs⟩ := out_ok ho
            have hk := uG.hk
            rw [hxs] at hk
            have lq : ([V.ref m] : List V)[0]? = some (.ref m) := rfl
            refine ⟨_, rfl, _, rfl, iteF ⟨_, rfl, _, rfl, iteT ⟨_, rfl, .ref t, .ty "list", _, _, true, rfl, .ty "list", .base (.lst ht), kit_ty kll, _, rfl, iteF ?_⟩⟩⟩
            refine ⟨_, rfl, t, _, _, _, rfl, rfl, SqL.of ht, atI_nat (j := 0) lq, _, rfl, m, kp, ls, rfl, cy, hk, fun HH sH => ⟨_, rfl, iteF ?_⟩⟩
            exact ⟨_, rfl, uG.same sH⟩
        · rintro σ HG ⟨v9', rfl, uG⟩
          have du := uG.du
          have fin : ∀ {H' : Hp}, OkU C Pt qq p l kp hh xs dv rs H' (100 * i + 100) → PenAt H' p l (100 * ((i + 1 : Nat) : Int)) ∧ LamX.Tabs [(Pt, qq)] H' := fun u => ⟨u.pen.le (by omega), u.tb⟩
          cases hdv : dueV (outOf xs) with
          | some us =>
            obtain ⟨u, rfl, hu⟩ : ∃ u, dv = .ref u ∧ HG u = some (.tup us) := by
              cases du with
              | yes e h => rw [hdv] at e; cases e; exact ⟨_, rfl, h⟩
              | no e => rw [hdv] at e; cases e
            exact ⟨_, rfl, _, rfl, iteF ⟨_, _, _, _, _, _, _, _, _, _, rfl, fin uG⟩⟩
          | none =>
            obtain ⟨ls, ho⟩ := due_none hdv
            obtain rfl : dv = .non := by
              cases du with
              | yes e h => rw [hdv] at e; cases e
              | no e => rfl
            obtain ⟨g, hxs⟩ := out_ok ho
            have hk := uG.hk
            rw [hxs] at hk
            obtain ⟨y1, y2, hy1, hy2⟩ : ∃ y1 y2, rs[0]? = some y1 ∧ rs[1]? = some y2 := ⟨_, _, List.getElem?_eq_getElem (by omega), List.getElem?_eq_getElem (by omega)⟩
            obtain ⟨t1, rfl, d1⟩ := uG.all y1 (List.mem_of_getElem? hy1)
            obtain ⟨t2, rfl, d2⟩ := uG.all y2 (List.mem_of_getElem? hy2)
            rw [ho] at d1 d2
            obtain ⟨m1, ht1, c1⟩ := d1
            obtain ⟨m2, ht2, c2⟩ := d2
            have lq1 : ([V.ref m1] : List V)[0]? = some (.ref m1) := rfl
            have lq2 : ([V.ref m2] : List V)[0]? = some (.ref m2) := rfl
            refine ⟨_, rfl, _, rfl, iteT ?_⟩
            refine ⟨_, rfl, hh, _, _, _, rfl, rfl, SqL.of uG.h, atI_nat (j := 0) hy1, t1, _, _, _, rfl, rfl, SqL.of ht1, atI_nat (j := 0) lq1, rfl, _, rfl, kp, _, rfl, SqL.of hk, fun rv nrv => ?_⟩
            have sr := same_new (o := .lst (ls.map V.int).reverse) nrv
            refine ⟨rv, ls.reverse.map V.int, rfl, .inr (by rw [upd_same, List.map_reverse]), mk_good (good_rev g) fun m3 HI sI c3 => ?_⟩
            have sI' := sr.trans sI
            refine ⟨(by show 2 ≤ sizeLine; decide), fun t0 nt0 => ⟨t0, _, rfl, SqT.of upd_same, rfl, _, _, rfl, _, _, rfl, rfl, ?_⟩⟩
            have s0 := same_new (o := .tup [.ref m1, .ref m3]) nt0
            have sJ := sI'.trans s0
            have c3J := c3.same s0
            have uJ := uG.same sJ
            have c1J := c1.same sJ
            have c2J := c2.same sJ
            have ht2J := sJ _ _ ht2
            have hkJ := sJ _ _ hk
            generalize upd HI t0 (.tup [.ref m1, .ref m3]) = HJ at c3J uJ c1J c2J ht2J hkJ ⊢
            clear sJ s0 sI' sr sI c3 nt0 nrv hk ht1 ht2 c1 c2 uG
            obtain ⟨dx1, u1, h1, g1⟩ := c1J.ob
            obtain ⟨dx2, u2, h2, g2⟩ := c2J.ob
            -- made == other, and the row turned about
            refine ⟨_, rfl, _, rfl, m1, dx1, _, .ref C, rfl, h1, M.ty c3J, .inl rfl, m1, .ref m3, ls, rfl, c1J, .inl ⟨m3, ls.reverse, rfl, c3J, _, rfl, ?_⟩⟩
            refine ⟨_, rfl, _, rfl, kp, _, rfl, SqL.of hkJ, fun rv nrv => ?_⟩
            have sK := same_new (o := .lst (ls.map V.int).reverse) nrv
            refine ⟨.list (ls.map PyData.int), .list (ls.reverse.map PyData.int), .lst (SqL.of (sK _ _ hkJ)) (dp_ints ls), .lst (SqL.of (by rw [upd_same, List.map_reverse])) (dp_ints ls.reverse), PySem.W.shaped_ints _, PySem.W.shaped_ints _, ?_⟩
            rw [eqv_lints]
            refine ⟨rfl, _, rfl, ?_⟩
            rw [decide_eq_true rfl]
            have uK := uJ.same sK
            have c1K := c1J.same sK
            have c2K := c2J.same sK
            have ht2K := sK _ _ ht2J
            refine iteF ⟨_, rfl, _, rfl, hh, _, _, _, rfl, rfl, SqL.of uK.h, atI_nat (j := 1) hy2, t2, _, _, _, rfl, rfl, SqL.of ht2K, atI_nat (j := 0) lq2, m1, m2, dx1, dx2, _, _, rfl, rfl, sK _ _ h1, sK _ _ h2, m1, .ref m2, ls, rfl, c1K, .inl ⟨m2, ls, rfl, c2K, _, rfl, _, rfl, ?_⟩⟩
            rw [decide_eq_true rfl]
            refine iteF ?_
            have h1K := sK _ _ h1
            generalize upd HJ rv (.lst (ls.map V.int).reverse) = HK at uK c1K h1K ⊢
            clear sK c2K ht2K nrv c1J c2J c3J uJ ht2J hkJ h1 h2 g1 g2
            -- nothing else is equal to it
            refine ⟨_, rfl, m1, dx1, _, rfl, h1K, m1, ls, rfl, c1K, fun tl htl => ⟨_, rfl, _, rfl, m1, dx1, _, rfl, h1K, m1, ls, rfl, c1K, fun HL sL => ⟨_, rfl, (by show 5 ≤ sizeLine; decide), fun L nL => ⟨L, rfl, ⟨_, SqL.of upd_same⟩, fun D hD => ?_⟩⟩⟩⟩
            have uL := uK.same sL
            have c1L := c1K.same sL
            have htlL := sL _ _ htl
            have hkL := uL.hk
            have sM := same_new (o := .lst [.non, .ref tl, .ref kp, .str (textL ls), .int 7]) nL
            have hL := upd_same (H := HL) (a := L) (o := .lst [.non, .ref tl, .ref kp, .str (textL ls), .int 7])
            refine lc_list (K := K) (a := L) (xs := [.non, .ref tl, .ref kp, .str (textL ls), .int 7]) (fun j H' => H' D = some (.lst []) ∧ Same (upd HL L (.lst [.non, .ref tl, .ref kp, .str (textL ls), .int 7])) H') ⟨upd_same, same_new hD⟩ (fun j H' _ ⟨_, q⟩ => SqL.of (q _ _ hL)) ?_ ?_
            · rintro j y HM hy ⟨hD', q⟩
              refine ⟨rfl, ?_⟩
              have sH := sM.trans q
              have ty : ∃ t : String, TyX K HM y (.type t) ∧ PySem.W.kitOne K (.type t) (.ref C) = some false ∧ PySem.W.subIn K (.type t) (.ref C) = some false := by
                have hy := List.mem_of_getElem? hy
                simp only [List.mem_cons, List.not_mem_nil, or_false] at hy
                rcases hy with rfl | rfl | rfl | rfl | rfl
                · exact ⟨"NoneType", .base .non, KN.kit _ (by simp)⟩
                · exact ⟨"tuple", .base (.tup (sH _ _ htlL)), KN.kit _ (by simp)⟩
                · exact ⟨"list", .base (.lst (sH _ _ hkL)), KN.kit _ (by simp)⟩
                · exact ⟨"str", .base (.str _), KN.kit _ (by simp)⟩
                · exact ⟨"int", .base (.int _), KN.kit _ (by simp)⟩
              obtain ⟨t, ty, tk, ts⟩ := ty
              exact ⟨_, rfl, _, rfl, m1, dx1, _, .type t, rfl, sH _ _ (sL _ _ h1K), ty, .inr ts, m1, y, ls, rfl, c1L.same sH, .inr ⟨.type t, ty, tk, false, rfl, _, rfl, iteF ⟨hD', q⟩⟩⟩
            · rintro HN ⟨hD', q⟩
              refine ⟨Nat.zero_le _, fun u nu => ?_⟩
              refine ⟨_, _, .lst (SqL.of ((same_new nu) _ _ hD')) .nil, .lst (SqL.of upd_same) .nil, PySem.W.shaped_ints [], PySem.W.shaped_ints [], _, rfl, iteF ?_⟩
              have sD := sM.trans (q.trans (same_new (o := .lst []) nu))
              exact ⟨_, _, _, _, _, _, _, _, _, _, rfl, fin (uL.same sD)⟩
    · rintro σ H2 ⟨v2, v3, v4, v5, v6, v7, v8, v9, v10, v11, rfl, _, _⟩
      have g1 : Good [7] := ⟨by decide, by decide, by decide, by decide⟩
      have g2 : Good [7, 7] := ⟨by decide, by decide, by decide, by decide⟩
      refine fun m1 dm1 nx nd ne => star_good g1 rfl nx nd ne fun H3 s3 c1 => ?_
      refine fun m2 dm2 nx nd ne => star_good g2 rfl nx nd ne fun H4 s4 c2 => ?_
      have c1' := c1.same s4
      obtain ⟨dx1, u1, h1, _⟩ := c1'.ob
      obtain ⟨dx2, u2, h2, _⟩ := c2.ob
      refine ⟨m1, m2, dx1, dx2, _, _, rfl, rfl, h1, h2, m1, .ref m2, [7], rfl, c1', .inl ⟨m2, [7, 7], rfl, c2, _, rfl, ?_⟩⟩
      exact kk _
end
end My
namespace My
open PySem PySem.Spec PyProof.Rows L2
theorem kit_self {K : PySem.W.Frag} {t : Value} : PySem.W.kitOne K t t = some true := by
  unfold PySem.W.kitOne
  rw [if_pos (beq_iff_eq.mpr rfl)]
theorem kit_tyR {K : PySem.W.Frag} {t : String} {D : Addr} {b : Bool} (hd : PySem.W.hasDictIn K D = true) (ty : PySem.W.typeIn K (.ref D) = some (.type "type")) (sub : PySem.W.subIn K (.type t) (.ref D) = some b) : PySem.W.kitOne K (.type t) (.ref D) = some b := by
  unfold PySem.W.kitOne
  rw [if_neg (fun q => by cases beq_iff_eq.mp q)]
  obtain ⟨cd, hc, _⟩ := PySem.W.any_some hd
  unfold PySem.W.kitCls
  have z : ((PySem.W.clsIn K D).isSome && PySem.W.typeIn K (.ref D) == some (.type "type")) = true := by rw [hc, ty]; rfl
  simp only [z, if_true]
  exact sub
set_option maxHeartbeats 16000000 in
theorem all_mk {l : PySem.W.OpenLaw} {w : World} {K : PySem.W.Frag} {h : Heap} {mg : Str → Option Value} {fa C : Addr} (X : K.In h) (G : h.Ns mainGlobals mg) (hfa : mg "law" = some (.ref fa)) (OT : OwnT K mg h "law")
    {odF0 anF0 : Option Addr} {slF0 : Array (Option Value)} {ocF0 kVF0 dcF0 pmF0 cdF0 ctF0 : Value} {fF0 : Addr}
    {odF1 anF1 : Option Addr} {slF1 : Array (Option Value)} {ocF1 kVF1 dcF1 pmF1 cdF1 ctF1 : Value} {fF1 : Addr}
    {odF2 anF2 : Option Addr} {slF2 : Array (Option Value)} {ocF2 kVF2 dcF2 pmF2 cdF2 ctF2 : Value} {fF2 : Addr}
    {odF3 anF3 : Option Addr} {slF3 : Array (Option Value)} {ocF3 kVF3 dcF3 pmF3 cdF3 ctF3 : Value} {fF3 : Addr}
    {odF4 anF4 : Option Addr} {slF4 : Array (Option Value)} {ocF4 kVF4 dcF4 pmF4 cdF4 ctF4 : Value} {fF4 : Addr}
    {odF5 anF5 : Option Addr} {slF5 : Array (Option Value)} {ocF5 kVF5 dcF5 pmF5 cdF5 ctF5 : Value} {fF5 : Addr}
    {odF6 anF6 : Option Addr} {slF6 : Array (Option Value)} {ocF6 kVF6 dcF6 pmF6 cdF6 ctF6 : Value} {fF6 : Addr}
    {odF7 anF7 : Option Addr} {slF7 : Array (Option Value)} {ocF7 kVF7 dcF7 pmF7 cdF7 ctF7 : Value} {fF7 : Addr}
    {odF8 anF8 : Option Addr} {slF8 : Array (Option Value)} {ocF8 kVF8 dcF8 pmF8 cdF8 ctF8 : Value} {fF8 : Addr}
    {odF9 anF9 : Option Addr} {slF9 : Array (Option Value)} {ocF9 kVF9 dcF9 pmF9 cdF9 ctF9 : Value} {fF9 : Addr}
    {odF10 anF10 : Option Addr} {slF10 : Array (Option Value)} {ocF10 kVF10 dcF10 pmF10 cdF10 ctF10 : Value} {fF10 : Addr}
    {odM0 anM0 : Option Addr} {slM0 : Array (Option Value)} {ocM0 kVM0 dcM0 pmM0 cdM0 ctM0 : Value} {fM0 : Addr}
    {odM1 anM1 : Option Addr} {slM1 : Array (Option Value)} {ocM1 kVM1 dcM1 pmM1 cdM1 ctM1 : Value} {fM1 : Addr}
    {odM2 anM2 : Option Addr} {slM2 : Array (Option Value)} {ocM2 kVM2 dcM2 pmM2 cdM2 ctM2 : Value} {fM2 : Addr}
    {odM3 anM3 : Option Addr} {slM3 : Array (Option Value)} {ocM3 kVM3 dcM3 pmM3 cdM3 ctM3 : Value} {fM3 : Addr}
    {odM4 anM4 : Option Addr} {slM4 : Array (Option Value)} {ocM4 kVM4 dcM4 pmM4 cdM4 ctM4 : Value} {fM4 : Addr}
    {odP0 anP0 : Option Addr} {slP0 : Array (Option Value)} {ocP0 kVP0 dcP0 pmP0 cdP0 ctP0 : Value} {fP0 : Addr}
    {qP0 : Addr} {rsP0 : List Value}
    {odP1 anP1 : Option Addr} {slP1 : Array (Option Value)} {ocP1 kVP1 dcP1 pmP1 cdP1 ctP1 : Value} {fP1 : Addr}
    {qP1 : Addr} {rsP1 : List Value}
    {odO1 anO1 : Option Addr} {slO1 : Array (Option Value)} {ocO1 kVO1 dcO1 pmO1 cdO1 ctO1 : Value} {fO1 : Addr}
    {qO1 : Addr} {rsO1 : List Value}
    {tkMB tkMT : Tok}
    {cDE : Addr}
    {odJBC anJBC : Option Addr} {slJBC : Array (Option Value)} {ocJBC kVJBC dcJBC pmJBC cdJBC ctJBC : Value} {fJBC : Addr}
    {cBC : Addr} {nmBC qBC : Str} {NBC : Addr} {bsBC : List Value} {snBC : List Str} {subBC : List Value} {abBC : Bool} {colBC : Option Bool} {ddBC : Option Addr} {m0BC m1BC m2BC m3BC m5BC : Option Value}
    {odJTM anJTM : Option Addr} {slJTM : Array (Option Value)} {ocJTM kVJTM dcJTM pmJTM cdJTM ctJTM : Value} {fJTM : Addr}
    {cTM : Addr} {nmTM qTM : Str} {NTM : Addr} {bsTM : List Value} {snTM : List Str} {subTM : List Value} {abTM : Bool} {colTM : Option Bool} {ddTM : Option Addr} {m0TM m1TM m2TM m3TM m5TM : Option Value}
    {cR Pt : Addr} {eR : Value} {dR : Option Addr} {vR : Array Value} {sR : Array (Option Value)}
    (aC : PySem.W.nsIn K mainGlobals "Cycle" = some (some (.ref C)))
    (aF0 : PySem.W.nsIn K mainGlobals "is_whole" = some (some (.ref fF0)))
    (lF0 : K.lookup fF0 = some ⟨ocF0, odF0, .func (PySem.W.fnOf "is_whole" "is_whole" (defArgs sWhole) (defBody sWhole) (defScope sWhole) .none kVF0 dcF0 pmF0 anF0 cdF0 ctF0), slF0⟩)
    (cF0 : PySem.W.codeIn K cdF0 "is_whole" = true)
    (kF0 : PySem.W.keepIn K (.ref fF0) = true)
    (aF1 : PySem.W.nsIn K mainGlobals "is_between" = some (some (.ref fF1)))
    (lF1 : K.lookup fF1 = some ⟨ocF1, odF1, .func (PySem.W.fnOf "is_between" "is_between" (defArgs sBetw) (defBody sBetw) (defScope sBetw) .none kVF1 dcF1 pmF1 anF1 cdF1 ctF1), slF1⟩)
    (cF1 : PySem.W.codeIn K cdF1 "is_between" = true)
    (kF1 : PySem.W.keepIn K (.ref fF1) = true)
    (aF2 : PySem.W.nsIn K mainGlobals "check_lengths" = some (some (.ref fF2)))
    (lF2 : K.lookup fF2 = some ⟨ocF2, odF2, .func (PySem.W.fnOf "check_lengths" "check_lengths" (defArgs sChk) (defBody sChk) (defScope sChk) .none kVF2 dcF2 pmF2 anF2 cdF2 ctF2), slF2⟩)
    (cF2 : PySem.W.codeIn K cdF2 "check_lengths" = true)
    (kF2 : PySem.W.keepIn K (.ref fF2) = true)
    (aF3 : PySem.W.nsIn K mainGlobals "_law_pen" = some (some (.ref fF3)))
    (lF3 : K.lookup fF3 = some ⟨ocF3, odF3, .func (PySem.W.fnOf "_law_pen" "_law_pen" (defArgs sPen) (defBody sPen) (defScope sPen) .none kVF3 dcF3 pmF3 anF3 cdF3 ctF3), slF3⟩)
    (cF3 : PySem.W.codeIn K cdF3 "_law_pen" = true)
    (kF3 : PySem.W.keepIn K (.ref fF3) = true)
    (aF4 : PySem.W.nsIn K mainGlobals "_law_draw" = some (some (.ref fF4)))
    (lF4 : K.lookup fF4 = some ⟨ocF4, odF4, .func (PySem.W.fnOf "_law_draw" "_law_draw" (defArgs sDraw) (defBody sDraw) (defScope sDraw) .none kVF4 dcF4 pmF4 anF4 cdF4 ctF4), slF4⟩)
    (cF4 : PySem.W.codeIn K cdF4 "_law_draw" = true)
    (kF4 : PySem.W.keepIn K (.ref fF4) = true)
    (aF5 : PySem.W.nsIn K mainGlobals "_law_pick" = some (some (.ref fF5)))
    (lF5 : K.lookup fF5 = some ⟨ocF5, odF5, .func (PySem.W.fnOf "_law_pick" "_law_pick" (defArgs sPick) (defBody sPick) (defScope sPick) .none kVF5 dcF5 pmF5 anF5 cdF5 ctF5), slF5⟩)
    (cF5 : PySem.W.codeIn K cdF5 "_law_pick" = true)
    (kF5 : PySem.W.keepIn K (.ref fF5) = true)
    (aF6 : PySem.W.nsIn K mainGlobals "_law_heard" = some (some (.ref fF6)))
    (lF6 : K.lookup fF6 = some ⟨ocF6, odF6, .func (PySem.W.fnOf "_law_heard" "_law_heard" (defArgs sHeard) (defBody sHeard) (defScope sHeard) .none kVF6 dcF6 pmF6 anF6 cdF6 ctF6), slF6⟩)
    (cF6 : PySem.W.codeIn K cdF6 "_law_heard" = true)
    (kF6 : PySem.W.keepIn K (.ref fF6) = true)
    (aF7 : PySem.W.nsIn K mainGlobals "_law_due" = some (some (.ref fF7)))
    (lF7 : K.lookup fF7 = some ⟨ocF7, odF7, .func (PySem.W.fnOf "_law_due" "_law_due" (defArgs sDue) (defBody sDue) (defScope sDue) .none kVF7 dcF7 pmF7 anF7 cdF7 ctF7), slF7⟩)
    (cF7 : PySem.W.codeIn K cdF7 "_law_due" = true)
    (kF7 : PySem.W.keepIn K (.ref fF7) = true)
    (aF8 : PySem.W.nsIn K mainGlobals "_law_values" = some (some (.ref fF8)))
    (lF8 : K.lookup fF8 = some ⟨ocF8, odF8, .func (PySem.W.fnOf "_law_values" "_law_values" (defArgs sVals) (defBody sVals) (defScope sVals) .none kVF8 dcF8 pmF8 anF8 cdF8 ctF8), slF8⟩)
    (cF8 : PySem.W.codeIn K cdF8 "_law_values" = true)
    (kF8 : PySem.W.keepIn K (.ref fF8) = true)
    (aF9 : PySem.W.nsIn K mainGlobals "_law_right" = some (some (.ref fF9)))
    (lF9 : K.lookup fF9 = some ⟨ocF9, odF9, .func (PySem.W.fnOf "_law_right" "_law_right" (defArgs sRight) (defBody sRight) (defScope sRight) .none kVF9 dcF9 pmF9 anF9 cdF9 ctF9), slF9⟩)
    (cF9 : PySem.W.codeIn K cdF9 "_law_right" = true)
    (kF9 : PySem.W.keepIn K (.ref fF9) = true)
    (aF10 : PySem.W.nsIn K mainGlobals "law" = some (some (.ref fF10)))
    (lF10 : K.lookup fF10 = some ⟨ocF10, odF10, .func (PySem.W.fnOf "law" "law" (defArgs sLaw) (defBody sLaw) (defScope sLaw) .none kVF10 dcF10 pmF10 anF10 cdF10 ctF10), slF10⟩)
    (cF10 : PySem.W.codeIn K cdF10 "law" = true)
    (kF10 : PySem.W.keepIn K (.ref fF10) = true)
    (aM0 : PySem.W.findIn K (.ref C) "__init__" = some (some (.ref fM0)))
    (iM0 : PySem.W.isFn K (.ref fM0) = true)
    (lM0 : K.lookup fM0 = some ⟨ocM0, odM0, .func (PySem.W.fnOf "__init__" "Cycle.__init__" (defArgs sInit) (defBody sInit) (defScope sInit) .none kVM0 dcM0 pmM0 anM0 cdM0 ctM0), slM0⟩)
    (cM0 : PySem.W.codeIn K cdM0 "Cycle.__init__" = true)
    (kM0 : PySem.W.keepIn K (.ref fM0) = true)
    (aM1 : PySem.W.findIn K (.ref C) "__len__" = some (some (.ref fM1)))
    (iM1 : PySem.W.isFn K (.ref fM1) = true)
    (lM1 : K.lookup fM1 = some ⟨ocM1, odM1, .func (PySem.W.fnOf "__len__" "Cycle.__len__" (defArgs sLen) (defBody sLen) (defScope sLen) .none kVM1 dcM1 pmM1 anM1 cdM1 ctM1), slM1⟩)
    (cM1 : PySem.W.codeIn K cdM1 "Cycle.__len__" = true)
    (kM1 : PySem.W.keepIn K (.ref fM1) = true)
    (aM2 : PySem.W.findIn K (.ref C) "__iter__" = some (some (.ref fM2)))
    (iM2 : PySem.W.isFn K (.ref fM2) = true)
    (lM2 : K.lookup fM2 = some ⟨ocM2, odM2, .func (PySem.W.fnOf "__iter__" "Cycle.__iter__" (defArgs sIter) (defBody sIter) (defScope sIter) .none kVM2 dcM2 pmM2 anM2 cdM2 ctM2), slM2⟩)
    (cM2 : PySem.W.codeIn K cdM2 "Cycle.__iter__" = true)
    (kM2 : PySem.W.keepIn K (.ref fM2) = true)
    (aM3 : PySem.W.findIn K (.ref C) "__eq__" = some (some (.ref fM3)))
    (iM3 : PySem.W.isFn K (.ref fM3) = true)
    (lM3 : K.lookup fM3 = some ⟨ocM3, odM3, .func (PySem.W.fnOf "__eq__" "Cycle.__eq__" (defArgs sEq) (defBody sEq) (defScope sEq) .none kVM3 dcM3 pmM3 anM3 cdM3 ctM3), slM3⟩)
    (cM3 : PySem.W.codeIn K cdM3 "Cycle.__eq__" = true)
    (kM3 : PySem.W.keepIn K (.ref fM3) = true)
    (aM4 : PySem.W.findIn K (.ref C) "__str__" = some (some (.ref fM4)))
    (iM4 : PySem.W.isFn K (.ref fM4) = true)
    (lM4 : K.lookup fM4 = some ⟨ocM4, odM4, .func (PySem.W.fnOf "__str__" "Cycle.__str__" (defArgs sStr) (defBody sStr) (defScope sStr) .none kVM4 dcM4 pmM4 anM4 cdM4 ctM4), slM4⟩)
    (cM4 : PySem.W.codeIn K cdM4 "Cycle.__str__" = true)
    (kM4 : PySem.W.keepIn K (.ref fM4) = true)
    (aP0 : PySem.W.findIn K (.ref C) "lengths" = some (some (.ref qP0)))
    (gP0 : PySem.W.specialIn K (.ref qP0) "__get__" = some (some (.builtin "property.__get__")))
    (tP0 : PySem.W.takesIn K (.ref qP0) = some true)
    (rP0 : PySem.W.recIn K qP0 "property" = some (.ref fP0 :: rsP0))
    (lP0 : K.lookup fP0 = some ⟨ocP0, odP0, .func (PySem.W.fnOf "lengths" "Cycle.lengths" (defArgs sLengths) (defBody sLengths) (defScope sLengths) .none kVP0 dcP0 pmP0 anP0 cdP0 ctP0), slP0⟩)
    (cP0 : PySem.W.codeIn K cdP0 "Cycle.lengths" = true)
    (kP0 : PySem.W.keepIn K (.ref fP0) = true)
    (aP1 : PySem.W.findIn K (.ref C) "total" = some (some (.ref qP1)))
    (gP1 : PySem.W.specialIn K (.ref qP1) "__get__" = some (some (.builtin "property.__get__")))
    (tP1 : PySem.W.takesIn K (.ref qP1) = some true)
    (rP1 : PySem.W.recIn K qP1 "property" = some (.ref fP1 :: rsP1))
    (lP1 : K.lookup fP1 = some ⟨ocP1, odP1, .func (PySem.W.fnOf "total" "Cycle.total" (defArgs sTotal) (defBody sTotal) (defScope sTotal) .none kVP1 dcP1 pmP1 anP1 cdP1 ctP1), slP1⟩)
    (cP1 : PySem.W.codeIn K cdP1 "Cycle.total" = true)
    (kP1 : PySem.W.keepIn K (.ref fP1) = true)
    (rd : PySem.W.readsIn K C (.type "type") = true)
    (ga : PySem.W.specialIn K (.ref C) "__getattribute__" = some (some (.builtin "type.__getattribute__")))
    (aO1 : PySem.W.findCls K (.ref C) (.type "type") "of" = some (.get (.builtin "classmethod.__get__") (.ref qO1) .none (.ref C)))
    (rO1 : PySem.W.recIn K qO1 "classmethod" = some (.ref fO1 :: rsO1))
    (nO1 : PySem.W.fnIn K fO1 = true)
    (lO1 : K.lookup fO1 = some ⟨ocO1, odO1, .func (PySem.W.fnOf "of" "Cycle.of" (defArgs sOf) (defBody sOf) (defScope sOf) .none kVO1 dcO1 pmO1 anO1 cdO1 ctO1), slO1⟩)
    (cO1 : PySem.W.codeIn K cdO1 "Cycle.of" = true)
    (kO1 : PySem.W.keepIn K (.ref fO1) = true)
    (pg : PySem.W.plainGet K C Str.empty = true)
    (hd : PySem.W.hasDictIn K C = true)
    (po : PySem.W.plainOver K C = true)
    (sa : PySem.W.findIn K (.ref C) "__setattr__" = some (some (.builtin "object.__setattr__")))
    (mk : PySem.W.makesIn K C = true)
    (kc : PySem.W.keepIn K (.ref C) = true)
    (nL : PySem.W.findIn K (.ref C) "_lengths" = some none)
    (nT : PySem.W.findIn K (.ref C) "_total" = some none)
    (ty : PySem.W.typeIn K (.ref C) = some (.type "type"))
    (cc : PySem.W.findIn K (.ref C) "__class__" = some (some (.builtin "object.__class__")))
    (mo : PySem.W.mroIn K C (.type "object") = some true)
    (ne : PySem.W.findIn K (.ref C) "__ne__" = some (some (.builtin "object.__ne__")))
    (sb0 : PySem.W.subIn K (.type "NoneType") (.ref C) = some false)
    (sb1 : PySem.W.subIn K (.type "tuple") (.ref C) = some false)
    (sb2 : PySem.W.subIn K (.type "list") (.ref C) = some false)
    (sb3 : PySem.W.subIn K (.type "str") (.ref C) = some false)
    (sb4 : PySem.W.subIn K (.type "int") (.ref C) = some false)
    (mb : PySem.W.nsIn K mainGlobals "MOST_BLOCKS" = some (some (.int 12 tkMB)))
    (mt : PySem.W.nsIn K mainGlobals "MOST_TOTAL" = some (some (.int 60 tkMT)))
    (z_isinstance : PySem.W.nsIn K mainGlobals "isinstance" = some none)
    (z_int : PySem.W.nsIn K mainGlobals "int" = some none)
    (z_bool : PySem.W.nsIn K mainGlobals "bool" = some none)
    (z_str : PySem.W.nsIn K mainGlobals "str" = some none)
    (z_repr : PySem.W.nsIn K mainGlobals "repr" = some none)
    (z_len : PySem.W.nsIn K mainGlobals "len" = some none)
    (z_list : PySem.W.nsIn K mainGlobals "list" = some none)
    (z_tuple : PySem.W.nsIn K mainGlobals "tuple" = some none)
    (z_range : PySem.W.nsIn K mainGlobals "range" = some none)
    (z_abs : PySem.W.nsIn K mainGlobals "abs" = some none)
    (z_enumerate : PySem.W.nsIn K mainGlobals "enumerate" = some none)
    (z_sum : PySem.W.nsIn K mainGlobals "sum" = some none)
    (z_iter : PySem.W.nsIn K mainGlobals "iter" = some none)
    (clsG : PySem.W.specialIn K (.builtin "object.__class__") "__get__" = some (some (.builtin "getset_descriptor.__get__")))
    (clsT : PySem.W.takesIn K (.builtin "object.__class__") = some true)
    (aDE : PySem.W.nsIn K mainGlobals "DayError" = some (some (.ref cDE)))
    (exDE : PySem.W.subIn K (.ref cDE) (.type "BaseException") = some true)
    (hdDE : PySem.W.hasDictIn K cDE = true)
    (tyDE : PySem.W.typeIn K (.ref cDE) = some (.type "type"))
    (nBC : PySem.W.nsIn K mainGlobals "BadCycle" = some (some (.ref cBC)))
    (xBC : K.lookup cBC = some (excClassObj nmBC qBC cBC NBC bsBC [.ref cDE, .type "ValueError", .type "Exception", .type "BaseException", .type "object"] true snBC subBC abBC colBC ddBC m0BC m1BC m2BC m3BC m5BC "ValueError.__new__"))
    (saBC : PySem.W.findIn K (.ref cBC) "__setattr__" = some (some (.builtin "object.__setattr__")))
    (exBC : PySem.W.subIn K (.ref cBC) (.type "BaseException") = some true)
    (tyBC : PySem.W.typeIn K (.ref cBC) = some (.type "type"))
    (kcBC : PySem.W.keepIn K (.ref cBC) = true)
    (aJBC : PySem.W.findIn K (.ref cBC) "__init__" = some (some (.ref fJBC)))
    (tiBC : PySem.W.typeIn K (.ref fJBC) = some (.type "function"))
    (lJBC : K.lookup fJBC = some ⟨ocJBC, odJBC, .func (PySem.W.fnOf "__init__" "BadCycle.__init__" (defArgs sBCI) (defBody sBCI) (defScope sBCI) .none kVJBC dcJBC pmJBC anJBC cdJBC ctJBC), slJBC⟩)
    (cJBC : PySem.W.codeIn K cdJBC "BadCycle.__init__" = true)
    (kJBC : PySem.W.keepIn K (.ref fJBC) = true)
    (no0BC : PySem.W.findIn K (.ref cBC) "at" = some none)
    (ggBC : PySem.W.findIn K (.ref cBC) "__getattribute__" = some (some (.builtin "BaseException.__getattribute__")))
    (gtBC : PySem.W.findIn K (.ref cBC) "__getattr__" = some none)
    (hdBC : PySem.W.hasDictIn K cBC = true)
    (ccBC : PySem.W.findIn K (.ref cBC) "__class__" = some (some (.builtin "object.__class__")))
    (moBC : PySem.W.mroIn K cBC (.type "object") = some true)
    (sdBC : PySem.W.subIn K (.ref cBC) (.ref cDE) = some true)
    (nTM : PySem.W.nsIn K mainGlobals "TooMany" = some (some (.ref cTM)))
    (xTM : K.lookup cTM = some (excClassObj nmTM qTM cTM NTM bsTM [.ref cDE, .type "ValueError", .type "Exception", .type "BaseException", .type "object"] true snTM subTM abTM colTM ddTM m0TM m1TM m2TM m3TM m5TM "ValueError.__new__"))
    (saTM : PySem.W.findIn K (.ref cTM) "__setattr__" = some (some (.builtin "object.__setattr__")))
    (exTM : PySem.W.subIn K (.ref cTM) (.type "BaseException") = some true)
    (tyTM : PySem.W.typeIn K (.ref cTM) = some (.type "type"))
    (kcTM : PySem.W.keepIn K (.ref cTM) = true)
    (aJTM : PySem.W.findIn K (.ref cTM) "__init__" = some (some (.ref fJTM)))
    (tiTM : PySem.W.typeIn K (.ref fJTM) = some (.type "function"))
    (lJTM : K.lookup fJTM = some ⟨ocJTM, odJTM, .func (PySem.W.fnOf "__init__" "TooMany.__init__" (defArgs sTMI) (defBody sTMI) (defScope sTMI) .none kVJTM dcJTM pmJTM anJTM cdJTM ctJTM), slJTM⟩)
    (cJTM : PySem.W.codeIn K cdJTM "TooMany.__init__" = true)
    (kJTM : PySem.W.keepIn K (.ref fJTM) = true)
    (no0TM : PySem.W.findIn K (.ref cTM) "what" = some none)
    (no1TM : PySem.W.findIn K (.ref cTM) "most" = some none)
    (ggTM : PySem.W.findIn K (.ref cTM) "__getattribute__" = some (some (.builtin "BaseException.__getattribute__")))
    (gtTM : PySem.W.findIn K (.ref cTM) "__getattr__" = some none)
    (hdTM : PySem.W.hasDictIn K cTM = true)
    (ccTM : PySem.W.findIn K (.ref cTM) "__class__" = some (some (.builtin "object.__class__")))
    (moTM : PySem.W.mroIn K cTM (.type "object") = some true)
    (sdTM : PySem.W.subIn K (.ref cTM) (.ref cDE) = some true)
    (sUN : PySem.W.subIn K (.ref cTM) (.ref cBC) = some false)
    (sUU : PySem.W.subIn K (.ref cTM) (.ref cTM) = some true)
    (eCR : cdF10 = .ref cR)
    (lR : K.lookup cR = some ⟨eR, dR, .fields vR, sR⟩)
    (pR : vR[11]? = some (.ref Pt))
    (nR : K.lookup Pt = none)
    : ∃ (fd : FuncData) (c Pt : Addr), (∀ (s : Shared) (v : Value), BindsTo s fd ⟨[v], []⟩ [("_law_script", v)]) ∧ Maker K h c Pt ∧ ∀ base : Heap, K.In base → base.Ns mainGlobals mg → LamX.TabB base mg c Pt → FnG l.prog w K mg base CX0 9 fa fd ["_law_script"] (spLawT K Pt) := by
  subst eCR
  have e := hfa.symm.trans (PySem.W.mg_of X G aF10)
  cases e
  have GF0 := PySem.W.mg_of X G aF0
  have HF0 := fun_mk (st := sWhole) lF0 cF0 kF0
  have GF1 := PySem.W.mg_of X G aF1
  have HF1 := fun_mk (st := sBetw) lF1 cF1 kF1
  have GF2 := PySem.W.mg_of X G aF2
  have HF2 := fun_mk (st := sChk) lF2 cF2 kF2
  have GF3 := PySem.W.mg_of X G aF3
  have HF3 := fun_mk (st := sPen) lF3 cF3 kF3
  have GF4 := PySem.W.mg_of X G aF4
  have HF4 := fun_mk (st := sDraw) lF4 cF4 kF4
  have GF5 := PySem.W.mg_of X G aF5
  have HF5 := fun_mk (st := sPick) lF5 cF5 kF5
  have GF6 := PySem.W.mg_of X G aF6
  have HF6 := fun_mk (st := sHeard) lF6 cF6 kF6
  have GF7 := PySem.W.mg_of X G aF7
  have HF7 := fun_mk (st := sDue) lF7 cF7 kF7
  have GF8 := PySem.W.mg_of X G aF8
  have HF8 := fun_mk (st := sVals) lF8 cF8 kF8
  have GF9 := PySem.W.mg_of X G aF9
  have HF9 := fun_mk (st := sRight) lF9 cF9 kF9
  have GF10 := PySem.W.mg_of X G aF10
  have HF10 := fun_mk (st := sLaw) lF10 cF10 kF10
  have HM0 := fun_mk (st := sInit) lM0 cM0 kM0
  have HM1 := fun_mk (st := sLen) lM1 cM1 kM1
  have HM2 := fun_mk (st := sIter) lM2 cM2 kM2
  have HM3 := fun_mk (st := sEq) lM3 cM3 kM3
  have HM4 := fun_mk (st := sStr) lM4 cM4 kM4
  have HP0 := fun_mk (st := sLengths) lP0 cP0 kP0
  have HP1 := fun_mk (st := sTotal) lP1 cP1 kP1
  have HO1 := fun_mk (st := sOf) lO1 cO1 kO1
  have HJBC := fun_mk (st := sBCI) lJBC cJBC kJBC
  have HJTM := fun_mk (st := sTMI) lJTM cJTM kJTM
  have bF0 := HF0.binds (ps := ["value"]) fun _ _ _ _ _ _ us hl => match us, hl with | [_], _ => rfl
  have bF1 := HF1.binds (ps := ["value", "low", "high"]) fun _ _ _ _ _ _ us hl => match us, hl with | [_, _, _], _ => rfl
  have bF2 := HF2.binds (ps := ["lengths"]) fun _ _ _ _ _ _ us hl => match us, hl with | [_], _ => rfl
  have bF3 := HF3.binds (ps := ["_law_script"]) fun _ _ _ _ _ _ us hl => match us, hl with | [_], _ => rfl
  have bF4 := HF4.binds (ps := ["_law_pen_here", "_law_many"]) fun _ _ _ _ _ _ us hl => match us, hl with | [_, _], _ => rfl
  have bF5 := HF5.binds (ps := ["_law_pen_here", "_law_some"]) fun _ _ _ _ _ _ us hl => match us, hl with | [_, _], _ => rfl
  have bF6 := HF6.binds (ps := ["_law_ask"]) fun _ _ _ _ _ _ us hl => match us, hl with | [_], _ => rfl
  have bF7 := HF7.binds (ps := ["_law_values_here"]) fun _ _ _ _ _ _ us hl => match us, hl with | [_], _ => rfl
  have bF8 := HF8.binds (ps := ["_law_pen_here"]) fun _ _ _ _ _ _ us hl => match us, hl with | [_], _ => rfl
  have bF9 := HF9.binds (ps := ["_law_made", "_law_values_here"]) fun _ _ _ _ _ _ us hl => match us, hl with | [_, _], _ => rfl
  have bM1 := HM1.binds (ps := ["self"]) fun _ _ _ _ _ _ us hl => match us, hl with | [_], _ => rfl
  have bM2 := HM2.binds (ps := ["self"]) fun _ _ _ _ _ _ us hl => match us, hl with | [_], _ => rfl
  have bM3 := HM3.binds (ps := ["self", "other"]) fun _ _ _ _ _ _ us hl => match us, hl with | [_, _], _ => rfl
  have bM4 := HM4.binds (ps := ["self"]) fun _ _ _ _ _ _ us hl => match us, hl with | [_], _ => rfl
  have bP0 := HP0.binds (ps := ["self"]) fun _ _ _ _ _ _ us hl => match us, hl with | [_], _ => rfl
  have bP1 := HP1.binds (ps := ["self"]) fun _ _ _ _ _ _ us hl => match us, hl with | [_], _ => rfl
  have bO1 := HO1.binds (ps := ["cls", "lengths"]) fun _ _ _ _ _ _ us hl => match us, hl with | [_, _], _ => rfl
  have bJBC := HJBC.binds (ps := ["self", "at"]) fun _ _ _ _ _ _ us hl => match us, hl with | [_, _], _ => rfl
  have bJTM := HJTM.binds (ps := ["self", "what", "most"]) fun _ _ _ _ _ _ us hl => match us, hl with | [_, _, _], _ => rfl
  have T : Txt K mg C fF0 fF1 0 fF2 := ⟨⟨pg, hd, po, sa⟩, nL, nT, PySem.W.mg_of X G aC, GF0, GF1, GF2, ⟨_, PySem.W.mg_of X G mb⟩, ⟨_, PySem.W.mg_of X G mt⟩, PySem.W.mg_none_of X G z_isinstance, PySem.W.mg_none_of X G z_int, PySem.W.mg_none_of X G z_bool, PySem.W.mg_none_of X G z_str, PySem.W.mg_none_of X G z_repr, PySem.W.mg_none_of X G z_len, PySem.W.mg_none_of X G z_list, PySem.W.mg_none_of X G z_tuple, PySem.W.mg_none_of X G z_range, PySem.W.mg_none_of X G z_abs, PySem.W.mg_none_of X G z_enumerate, PySem.W.mg_none_of X G z_sum, PySem.W.mg_none_of X G z_iter⟩
  have Z0BC : ErC K mg "BadCycle" "at" cBC fJBC := ⟨⟨⟨_, _, _, _, _, _, _, _, _, _, _, _, _, _, _, xBC, rfl⟩, saBC, exBC, tyBC, kcBC⟩, aJBC, tiBC, PySem.W.mg_of X G nBC, no0BC, ⟨ggBC, gtBC, exBC, hdBC⟩, ⟨ggBC, gtBC, exBC, hdBC, ccBC, clsG, clsT, moBC⟩⟩
  have Z0TM : ErC K mg "TooMany" "what" cTM fJTM := ⟨⟨⟨_, _, _, _, _, _, _, _, _, _, _, _, _, _, _, xTM, rfl⟩, saTM, exTM, tyTM, kcTM⟩, aJTM, tiTM, PySem.W.mg_of X G nTM, no0TM, ⟨ggTM, gtTM, exTM, hdTM⟩, ⟨ggTM, gtTM, exTM, hdTM, ccTM, clsG, clsT, moTM⟩⟩
  have Z1TM : ErC K mg "TooMany" "most" cTM fJTM := ⟨⟨⟨_, _, _, _, _, _, _, _, _, _, _, _, _, _, _, xTM, rfl⟩, saTM, exTM, tyTM, kcTM⟩, aJTM, tiTM, PySem.W.mg_of X G nTM, no1TM, ⟨ggTM, gtTM, exTM, hdTM⟩, ⟨ggTM, gtTM, exTM, hdTM, ccTM, clsG, clsT, moTM⟩⟩
  have HT : HeardT K mg cBC cTM cDE fJBC fJTM := ⟨Z0BC, Z0TM, Z1TM, PySem.W.mg_of X G aDE, PySem.W.exm_ref exDE hdDE tyDE sdBC, PySem.W.exm_ref exDE hdDE tyDE sdTM, kit_self, kit_ref hdBC tyBC sUN sUU, kit_self, PySem.W.mg_none_of X G z_isinstance, PySem.W.mg_none_of X G z_repr⟩
  obtain ⟨tabR, codR⟩ := OT fa cR Pt _ _ eR dR vR sR GF10 lF10 rfl rfl lR pR
  refine ⟨PySem.W.fnOf "law" "law" (defArgs sLaw) (defBody sLaw) (defScope sLaw) .none kVF10 dcF10 pmF10 anF10 (.ref cR) ctF10, cR, Pt, fun s v => .of_eq rfl, ⟨tabR, nR, codR⟩, fun base _ _ TB => ?_⟩
  have M : CyK K C := ⟨⟨⟨pg, hd, po, sa⟩, cc, clsG, clsT, mo, kit_self⟩, kit_self⟩
  have KN : KindsN K C := ⟨fun t ht => by
    simp only [List.mem_cons, List.not_mem_nil, or_false] at ht
    rcases ht with rfl | rfl | rfl | rfl | rfl
    · exact ⟨kit_tyR hd ty sb0, sb0⟩
    · exact ⟨kit_tyR hd ty sb1, sb1⟩
    · exact ⟨kit_tyR hd ty sb2, sb2⟩
    · exact ⟨kit_tyR hd ty sb3, sb3⟩
    · exact ⟨kit_tyR hd ty sb4, sb4⟩⟩
  have EM : ErM l.prog w K mg base cBC fJBC cTM fJTM _ _ := ⟨Z0BC, ok_bci HJBC Z0BC, bJBC, Z0TM, Z1TM, ok_tmi HJTM Z0TM Z1TM, bJTM⟩
  have GC := ok_chk HF2 T HF0 bF0 HF1 bF1 EM
  have CIN : FnR l.prog w K mg base (L2.CX l.prog w) 4 fM0 (spStarO C cBC cTM) := ok_init HM0 T GC bF2 HF2.kp
  have MI : Mk K C fM0 := ⟨mk, aM0, iM0, kc⟩
  have OF := ok_of HO1 T MI CIN
  have kOf := kb_of HO1 fun _ _ _ _ _ _ _ _ => rfl
  have GL : CP l.prog w K mg base C "lengths" (spGetL C) qP0 fP0 _ := ⟨ok_lengths HP0 T, bP0, ⟨aP0, gP0, tP0, ⟨_, rP0⟩⟩⟩
  have GT : CP l.prog w K mg base C "total" (spGetT C) qP1 fP1 _ := ⟨ok_total HP1 T, bP1, ⟨aP1, gP1, tP1, ⟨_, rP1⟩⟩⟩
  have LN : CS l.prog w K mg base C "__len__" (spLen C) fM1 _ := ⟨ok_len HM1 T, bM1, aM1, iM1⟩
  have ST : CS l.prog w K mg base C "__str__" (spStrC C) fM4 _ := ⟨ok_str HM4 T, bM4, aM4, iM4⟩
  have IT : CI l.prog w K mg base C fM2 := ⟨ok_iter HM2 bM2 T, aM2, iM2⟩
  have EQ : EqT l.prog w K mg base C fM3 _ := ⟨ok_eq HM3 T M, bM3, ⟨aM3, iM3⟩, ⟨aM3, iM3, ne, mo⟩⟩
  have DP : Df l.prog w K mg base "_law_pen" 1 fF3 _ ["_law_script"] _ := ⟨ok_pen HF3 T, bF3, HF3.kp, GF3⟩
  have DW : Df l.prog w K mg base "_law_draw" 1 fF4 _ ["_law_pen_here", "_law_many"] _ := ⟨ok_draw HF4 T, bF4, HF4.kp, GF4⟩
  have DI : Df l.prog w K mg base "_law_pick" 2 fF5 _ ["_law_pen_here", "_law_some"] _ := ⟨ok_pick HF5 T DW, bF5, HF5.kp, GF5⟩
  have DV : Df l.prog w K mg base "_law_values" 3 fF8 _ ["_law_pen_here"] _ := ⟨ok_vals HF8 T DW DI, bF8, HF8.kp, GF8⟩
  have DU : Df l.prog w K mg base "_law_due" 1 fF7 _ ["_law_values_here"] _ := ⟨ok_due HF7 T, bF7, HF7.kp, GF7⟩
  have RF := ok_right (P := l.prog) (w := w) (base := base) HF9 T GL GT LN ST IT
  exact ok_law HF10 rfl T M KN EQ TB DP DV DU RF bF9 HF9.kp GF9 GL ST CIN MI OF bO1 kOf ⟨rd, ga⟩ ⟨aO1, ⟨_, rO1⟩, nO1⟩ HF6 bF6 GF6 HT
theorem walk {l : PySem.W.OpenLaw} {q : Program} {loose : List Str} {XP : (Str → Option Value) → Heap → Prop} {YP : World → Heap → Prop} {d : DefRec} {K : Params → PySem.W.Frag} (hn : l.most = some 63) (hdf : d.params.defaults = [])
    (hY : ∀ (w : World) (h : Heap), YP w h → (K w.params).In h) (rec : ((recsOf q).any fun e => e.name == ("law" : Str)) = true)
    (F : ∀ (w : World) (mg : Str → Option Value) (fa : Addr) (h : Heap), (K w.params).In h → h.Ns mainGlobals mg → mg d.name = some (.ref fa) → OwnT (K w.params) mg h "law" →
      ∃ (fd : FuncData) (c Pt : Addr), (∀ (s : Shared) (u : Value), BindsTo s fd ⟨[u], []⟩ [("_law_script", u)]) ∧ Maker (K w.params) h c Pt ∧ ∀ base : Heap, (K w.params).In base → base.Ns mainGlobals mg → LamX.TabB base mg c Pt → FnG l.prog w (K w.params) mg base CX0 9 fa fd ["_law_script"] (spLawT (K w.params) Pt)) :
    PySem.W.WalkO q loose XP YP l.row.toRowW d [] (fun f vs => PySem.call f vs) :=
  walkT (n := 63) (k := 9) (x := "_law_script") (y := "law") (sp := fun w Pt => spLawT (K w.params) Pt) hn (by decide) hdf ⟨rfl, by decide, by decide⟩ hY rec F fun w H a Pt ns hl _ hP hS => ⟨a, ns, rfl, hP, hS, hl, fun _ => rfl⟩
end My
open PySem PySem.W PyProof.Rows
set_option maxRecDepth 100000 in
set_option maxHeartbeats 0 in
theorem PySem.Challenge.cw_remadedays_k13_cycles_made_holds : PySem.Challenge.rw_remadedays_k13_cycles_made.Holds := by
  w_on; o_law; k_headL; (case hw => w_witness2)
  k_fill
  refine My.walk (l := PySem.Challenge.rw_remadedays_k13_cycles_made) rfl rfl (fun w h Y => PySem.W.kIn_of Y) ?R ?F
  case R => first | decide +kernel | rfl | kernel_rfl
  case F =>
    intro w mg fa h KX G hmg OT
    refine' My.all_mk KX G hmg OT ?aC ?aF0 ?lF0 ?cF0 ?kF0 ?aF1 ?lF1 ?cF1 ?kF1 ?aF2 ?lF2 ?cF2 ?kF2 ?aF3 ?lF3 ?cF3 ?kF3 ?aF4 ?lF4 ?cF4 ?kF4 ?aF5 ?lF5 ?cF5 ?kF5 ?aF6 ?lF6 ?cF6 ?kF6 ?aF7 ?lF7 ?cF7 ?kF7 ?aF8 ?lF8 ?cF8 ?kF8 ?aF9 ?lF9 ?cF9 ?kF9 ?aF10 ?lF10 ?cF10 ?kF10 ?aM0 ?iM0 ?lM0 ?cM0 ?kM0 ?aM1 ?iM1 ?lM1 ?cM1 ?kM1 ?aM2 ?iM2 ?lM2 ?cM2 ?kM2 ?aM3 ?iM3 ?lM3 ?cM3 ?kM3 ?aM4 ?iM4 ?lM4 ?cM4 ?kM4 ?aP0 ?gP0 ?tP0 ?rP0 ?lP0 ?cP0 ?kP0 ?aP1 ?gP1 ?tP1 ?rP1 ?lP1 ?cP1 ?kP1 ?rd ?ga ?aO1 ?rO1 ?nO1 ?lO1 ?cO1 ?kO1 ?pg ?hd ?po ?sa ?mk ?kc ?nL ?nT ?ty ?cc ?mo ?ne ?sb0 ?sb1 ?sb2 ?sb3 ?sb4 ?mb ?mt ?z_isinstance ?z_int ?z_bool ?z_str ?z_repr ?z_len ?z_list ?z_tuple ?z_range ?z_abs ?z_enumerate ?z_sum ?z_iter ?clsG ?clsT ?aDE ?exDE ?hdDE ?tyDE ?nBC ?xBC ?saBC ?exBC ?tyBC ?kcBC ?aJBC ?tiBC ?lJBC ?cJBC ?kJBC ?no0BC ?ggBC ?gtBC ?hdBC ?ccBC ?moBC ?sdBC ?nTM ?xTM ?saTM ?exTM ?tyTM ?kcTM ?aJTM ?tiTM ?lJTM ?cJTM ?kJTM ?no0TM ?no1TM ?ggTM ?gtTM ?hdTM ?ccTM ?moTM ?sdTM ?sUN ?sUU ?eCR ?lR ?pR ?nR
    (case aC => as_aux_lemma => k_is)
    (case aF0 => as_aux_lemma => k_is)
    (case lF0 => as_aux_lemma => k_is)
    (case cF0 => as_aux_lemma => k_is)
    (case kF0 => as_aux_lemma => k_is)
    (case aF1 => as_aux_lemma => k_is)
    (case lF1 => as_aux_lemma => k_is)
    (case cF1 => as_aux_lemma => k_is)
    (case kF1 => as_aux_lemma => k_is)
    (case aF2 => as_aux_lemma => k_is)
    (case lF2 => as_aux_lemma => k_is)
    (case cF2 => as_aux_lemma => k_is)
    (case kF2 => as_aux_lemma => k_is)
    (case aF3 => as_aux_lemma => k_is)
    (case lF3 => as_aux_lemma => k_is)
    (case cF3 => as_aux_lemma => k_is)
    (case kF3 => as_aux_lemma => k_is)
    (case aF4 => as_aux_lemma => k_is)
    (case lF4 => as_aux_lemma => k_is)
    (case cF4 => as_aux_lemma => k_is)
    (case kF4 => as_aux_lemma => k_is)
    (case aF5 => as_aux_lemma => k_is)
    (case lF5 => as_aux_lemma => k_is)
    (case cF5 => as_aux_lemma => k_is)
    (case kF5 => as_aux_lemma => k_is)
    (case aF6 => as_aux_lemma => k_is)
    (case lF6 => as_aux_lemma => k_is)
    (case cF6 => as_aux_lemma => k_is)
    (case kF6 => as_aux_lemma => k_is)
    (case aF7 => as_aux_lemma => k_is)
    (case lF7 => as_aux_lemma => k_is)
    (case cF7 => as_aux_lemma => k_is)
    (case kF7 => as_aux_lemma => k_is)
    (case aF8 => as_aux_lemma => k_is)
    (case lF8 => as_aux_lemma => k_is)
    (case cF8 => as_aux_lemma => k_is)
    (case kF8 => as_aux_lemma => k_is)
    (case aF9 => as_aux_lemma => k_is)
    (case lF9 => as_aux_lemma => k_is)
    (case cF9 => as_aux_lemma => k_is)
    (case kF9 => as_aux_lemma => k_is)
    (case aF10 => as_aux_lemma => k_is)
    (case lF10 => as_aux_lemma => k_is)
    (case cF10 => as_aux_lemma => k_is)
    (case kF10 => as_aux_lemma => k_is)
    (case aM0 => as_aux_lemma => k_is)
    (case iM0 => as_aux_lemma => k_is)
    (case lM0 => as_aux_lemma => k_is)
    (case cM0 => as_aux_lemma => k_is)
    (case kM0 => as_aux_lemma => k_is)
    (case aM1 => as_aux_lemma => k_is)
    (case iM1 => as_aux_lemma => k_is)
    (case lM1 => as_aux_lemma => k_is)
    (case cM1 => as_aux_lemma => k_is)
    (case kM1 => as_aux_lemma => k_is)
    (case aM2 => as_aux_lemma => k_is)
    (case iM2 => as_aux_lemma => k_is)
    (case lM2 => as_aux_lemma => k_is)
    (case cM2 => as_aux_lemma => k_is)
    (case kM2 => as_aux_lemma => k_is)
    (case aM3 => as_aux_lemma => k_is)
    (case iM3 => as_aux_lemma => k_is)
    (case lM3 => as_aux_lemma => k_is)
    (case cM3 => as_aux_lemma => k_is)
    (case kM3 => as_aux_lemma => k_is)
    (case aM4 => as_aux_lemma => k_is)
    (case iM4 => as_aux_lemma => k_is)
    (case lM4 => as_aux_lemma => k_is)
    (case cM4 => as_aux_lemma => k_is)
    (case kM4 => as_aux_lemma => k_is)
    (case aP0 => as_aux_lemma => k_is)
    (case gP0 => as_aux_lemma => k_is)
    (case tP0 => as_aux_lemma => k_is)
    (case rP0 => as_aux_lemma => k_is)
    (case lP0 => as_aux_lemma => k_is)
    (case cP0 => as_aux_lemma => k_is)
    (case kP0 => as_aux_lemma => k_is)
    (case aP1 => as_aux_lemma => k_is)
    (case gP1 => as_aux_lemma => k_is)
    (case tP1 => as_aux_lemma => k_is)
    (case rP1 => as_aux_lemma => k_is)
    (case lP1 => as_aux_lemma => k_is)
    (case cP1 => as_aux_lemma => k_is)
    (case kP1 => as_aux_lemma => k_is)
    (case rd => as_aux_lemma => k_is)
    (case ga => as_aux_lemma => k_is)
    (case aO1 => as_aux_lemma => k_is)
    (case rO1 => as_aux_lemma => k_is)
    (case nO1 => as_aux_lemma => k_is)
    (case lO1 => as_aux_lemma => k_is)
    (case cO1 => as_aux_lemma => k_is)
    (case kO1 => as_aux_lemma => k_is)
    (case pg => as_aux_lemma => k_is)
    (case hd => as_aux_lemma => k_is)
    (case po => as_aux_lemma => k_is)
    (case sa => as_aux_lemma => k_is)
    (case mk => as_aux_lemma => k_is)
    (case kc => as_aux_lemma => k_is)
    (case nL => as_aux_lemma => k_is)
    (case nT => as_aux_lemma => k_is)
    (case ty => as_aux_lemma => k_is)
    (case cc => as_aux_lemma => k_is)
    (case mo => as_aux_lemma => k_is)
    (case ne => as_aux_lemma => k_is)
    (case sb0 => as_aux_lemma => k_is)
    (case sb1 => as_aux_lemma => k_is)
    (case sb2 => as_aux_lemma => k_is)
    (case sb3 => as_aux_lemma => k_is)
    (case sb4 => as_aux_lemma => k_is)
    (case mb => as_aux_lemma => k_is)
    (case mt => as_aux_lemma => k_is)
    (case z_isinstance => as_aux_lemma => k_is)
    (case z_int => as_aux_lemma => k_is)
    (case z_bool => as_aux_lemma => k_is)
    (case z_str => as_aux_lemma => k_is)
    (case z_repr => as_aux_lemma => k_is)
    (case z_len => as_aux_lemma => k_is)
    (case z_list => as_aux_lemma => k_is)
    (case z_tuple => as_aux_lemma => k_is)
    (case z_range => as_aux_lemma => k_is)
    (case z_abs => as_aux_lemma => k_is)
    (case z_enumerate => as_aux_lemma => k_is)
    (case z_sum => as_aux_lemma => k_is)
    (case z_iter => as_aux_lemma => k_is)
    (case clsG => as_aux_lemma => k_is)
    (case clsT => as_aux_lemma => k_is)
    (case aDE => as_aux_lemma => k_is)
    (case exDE => as_aux_lemma => k_is)
    (case hdDE => as_aux_lemma => k_is)
    (case tyDE => as_aux_lemma => k_is)
    (case nBC => as_aux_lemma => k_is)
    (case xBC => as_aux_lemma => k_is)
    (case saBC => as_aux_lemma => k_is)
    (case exBC => as_aux_lemma => k_is)
    (case tyBC => as_aux_lemma => k_is)
    (case kcBC => as_aux_lemma => k_is)
    (case aJBC => as_aux_lemma => k_is)
    (case tiBC => as_aux_lemma => k_is)
    (case lJBC => as_aux_lemma => k_is)
    (case cJBC => as_aux_lemma => k_is)
    (case kJBC => as_aux_lemma => k_is)
    (case no0BC => as_aux_lemma => k_is)
    (case ggBC => as_aux_lemma => k_is)
    (case gtBC => as_aux_lemma => k_is)
    (case hdBC => as_aux_lemma => k_is)
    (case ccBC => as_aux_lemma => k_is)
    (case moBC => as_aux_lemma => k_is)
    (case sdBC => as_aux_lemma => k_is)
    (case nTM => as_aux_lemma => k_is)
    (case xTM => as_aux_lemma => k_is)
    (case saTM => as_aux_lemma => k_is)
    (case exTM => as_aux_lemma => k_is)
    (case tyTM => as_aux_lemma => k_is)
    (case kcTM => as_aux_lemma => k_is)
    (case aJTM => as_aux_lemma => k_is)
    (case tiTM => as_aux_lemma => k_is)
    (case lJTM => as_aux_lemma => k_is)
    (case cJTM => as_aux_lemma => k_is)
    (case kJTM => as_aux_lemma => k_is)
    (case no0TM => as_aux_lemma => k_is)
    (case no1TM => as_aux_lemma => k_is)
    (case ggTM => as_aux_lemma => k_is)
    (case gtTM => as_aux_lemma => k_is)
    (case hdTM => as_aux_lemma => k_is)
    (case ccTM => as_aux_lemma => k_is)
    (case moTM => as_aux_lemma => k_is)
    (case sdTM => as_aux_lemma => k_is)
    (case sUN => as_aux_lemma => k_is)
    (case sUU => as_aux_lemma => k_is)
    (case eCR => rfl)
    (case lR => as_aux_lemma => k_is)
    (case pR => rfl)
    (case nR => first | rfl | kernel_rfl)
#print axioms PySem.Challenge.cw_remadedays_k13_cycles_made_holds
