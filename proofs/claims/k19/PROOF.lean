import PyProof.Rows.All
import Wide.All
import OpenK.AllK
import Wide.FinOn
import PyProof.TwoTypes
import KE.KOpsOwn
import KE.KTupSum
import KE.KStar
import KE.GoesMore
import HandS.ForMost
import HandS.Star
import HandS.SlotsOwn
import HandS.ClsMeth
import HandS.Conv
import HandS.Text
import HandS.StrMore
import HandS.TupAny
import KE.OsRunLaw
import HandS.IsInst
import HandS.Property
import HandS.EndBits
import HandS.Wide
import HandS.Exc
import PySem.Challenge.RW_remadedays_k19_whole_users_of_ties
set_option Elab.async false
set_option linter.all false
set_option maxRecDepth 100000
set_option maxHeartbeats 4000000
namespace My
open PySem PySem.Spec PyProof.Rows L2
section
variable {X : Cx}
def rSumT (K : PySem.W.Frag) : List V → Hp → VK → Prop := fun vs H Q => ∃ (a : Addr) (ns : List Int), vs = [V.ref a] ∧ SqT K H a (ns.map V.int) ∧ Q (.int ns.sum) H
theorem cr_sumT (hc : X.calm = true) : CallR X (.builtin "sum") (rSumT X.K) := by
  intro pins s σ H vs us Q I r h
  obtain ⟨a, ns, rfl, hs, q⟩ := h
  obtain ⟨its, rv, hl, _⟩ := I.tuple hs
  rw [Vals.ref1 r]
  obtain ⟨xs, e⟩ := rv.ints.allInts.items
  have hn : numsOf (intItems xs).toList = ns := by rw [← e]; exact rv.ints.numsOf
  rw [nums_intItems] at hn
  have hl' : s.heap.IsTuple a its.toArray := hl
  rw [e] at hl'
  refine PySem.W.ktm_sumG (I.ok.hd hc) hl' fun h' tk t' hk => ⟨.int _, H, I.kept hk, ⟨_, rfl⟩, ?_⟩
  rw [preSum_eq, List.take_of_length_le (by simp), hn]
  exact q
end
section
variable {X : Cx} {CX : CXT} {k i : Nat} {f C : Addr} {sp : Sp} {E : XK} {x : Str} {e : Expr} {te : TE} {p sp_ pos : Pos}
def tMakeStar (K : PySem.W.Frag) (i : Nat) (C : Addr) (sp : Sp) (E : XK) (te : TE) : TE := fun σ H Q => σ[i]? = some (some (.ref C)) ∧ te σ H fun y H1 => ∃ a xs, y = V.ref a ∧ (SqT K H1 a xs ∨ SqL K H1 a xs) ∧
  ∀ x dx, H1 x = none → H1 dx = none → dx ≠ x → sp (V.ref x :: xs) (upd (upd H1 dx (.own x)) x (.ins C dx [])) (fun v H2 => v = .non ∧ Q (.ref x) H2) E
theorem pe_makeStar (M : Mk X.K C f) (F : FnR X.prog X.w X.K X.mg X.base CX k f sp) (hr : Room (k + 1) X.A) (hN : X.N[i]? = some x) (hv : Vis X.env.scope x) (hx : Passes CX X E) (he : PE X e te)
    (hdb : (x == ("__debug__" : Str)) = false := by decide) (hcd : (x == ("__classdict__" : Str)) = false := by decide)
    (hst : starEach [.Starred e sp_] X.env = [(true, eval e X.env)] := by rfl) : PE X (.Call (.Name x p) [.Starred e sp_] [] pos) (tMakeStar X.K i C sp E te) := by
  refine ⟨fun pins s σ H Q I h => ?_⟩
  obtain ⟨hs, ht⟩ := h
  refine wpAny_Call_Name_kw (thn ((pe_var (pos := p) hN hv hdb hcd).run pins s σ H (fun v H1 => v = .ref C ∧ H1 = H) I ⟨.ref C, hs, rfl, rfl⟩) fun u s1 ⟨v, H1, I1, r1, q1⟩ => ?_)
  obtain ⟨rfl, rfl⟩ := q1
  cases r1
  refine PySem.W.callWith_S (h₀ := X.base) I.ok.mod.kin M.kp (thn (he.run pins s1 σ _ _ I1 ht) fun v s2 ⟨y, H2, I2, ry, a, xs, ey, hxs, q⟩ => ?_) hst
  subst ey
  obtain rfl : v = Value.ref a := ry
  exact StX.star_any I2 hxs fun us s3 I3 rv => ⟨I3.kIn, StX.run_makeR M F hr hx I3 rv q⟩
end
theorem meets_enumerate_newT (l : Addr) (items : Array Value) (n : Nat) (dct : Option Addr) (sl : Array (Option Value)) :
    Meets (Builtin.«enumerate.__new__» ⟨[.type "enumerate", .ref l], []⟩) (fun _ R s => s.heap.get? l = some { cls := .type "tuple", dict := dct, data := .seq items n, slots := sl } ∧
      R (.ok (.ret (.ref (s.heap.push { cls := .type "tuple_iterator", data := .fields #[.ref l, .int 0 0] }).objs.size)))
        { s with heap := (s.heap.push { cls := .type "tuple_iterator", data := .fields #[.ref l, .int 0 0] }).push { cls := .type "enumerate", data := .fields #[.none, .bool false, .ref s.heap.objs.size, rawInt 0, .none, .none] } }) :=
  .of_wp fun prog w A R s h => by
    obtain ⟨hp, g, d, tk, os⟩ := s; obtain ⟨hl, h⟩ := h
    have hsub := sub_enumerate
    have hL : Heap.IsTuple (Shared.heap ⟨hp, g, d, tk, os⟩) l items := ⟨_, hl, rfl, n, rfl⟩
    wp_walk using AutoSeq1.wpAny_loadPart' hl
    refine wpAny_stack_any fun st => wpAny_pure ?_
    split
    · rename_i c _ _ _ _ _
      cases (c == Value.type "enumerate")
      · wp_walk using AutoSeq1.wpAny_loadPart' hl, wpAny_pyIter_tuple hL
        exact ⟨_, rfl, h⟩
      · wp_walk using AutoSeq1.wpAny_loadPart' hl, wpAny_pyIter_tuple hL
        exact ⟨_, rfl, h⟩
    · wp_walk using AutoSeq1.wpAny_loadPart' hl, wpAny_pyIter_tuple hL
      exact ⟨_, rfl, h⟩
theorem call_enumerate_tuple {prog : Program} {w : World} {A : Around} {E : Value → Shared → Prop} {s : Shared} {l : Addr} {items : Array Value} {Q : Value → Shared → Prop} (hL : s.heap.IsTuple l items)
    (h : ∀ h', IsEnum h' (s.heap.objs.size + 1) s.heap.objs.size 0 .none → h'.IsTupleIter s.heap.objs.size l 0 → h'.objs.size = s.heap.objs.size + 2 →
      (∀ b o, s.heap.get? b = some o → h'.get? b = some o) → Q (.ref (s.heap.objs.size + 1)) { s with heap := h' }) :
    wpAny (model prog w) A (call (.type "enumerate") [.ref l]) Q E s := by
  obtain ⟨⟨c, dct, dt, sl⟩, hl, hc, n, hd⟩ := hL
  replace hc : c = .type "tuple" := hc
  replace hd : dt = .seq items n := hd
  subst hc hd
  refine callType_new PySem.F.called_enumerate (by decide) (PySem.F.typeCall_enumerate_1 _) (PySem.F.newCall_enumerate_1 _) (fun obj => PySem.F.args_object_init_2 obj _) PySem.F.entry_enumerate_new
    (meets_enumerate_newT l items n dct sl) ⟨hl, ?_⟩
  have hz : (s.heap.push { cls := .type "tuple_iterator", data := .fields #[.ref l, .int 0 0] }).objs.size = s.heap.objs.size + 1 := Heap.size_push ..
  show _ ∧ _
  rw [hz]
  have he : IsEnum ((s.heap.push { cls := .type "tuple_iterator", data := .fields #[.ref l, .int 0 0] }).push
      { cls := .type "enumerate", data := .fields #[.none, .bool false, .ref s.heap.objs.size, rawInt 0, .none, .none] }) (s.heap.objs.size + 1) s.heap.objs.size 0 .none := by
    have := Heap.get?_push_size (s.heap.push { cls := .type "tuple_iterator", data := .fields #[.ref l, .int 0 0] })
      (o := { cls := .type "enumerate", data := .fields #[.none, .bool false, .ref s.heap.objs.size, rawInt 0, .none, .none] }) rfl
    rw [hz] at this; exact this
  refine ⟨⟨_, he, rfl⟩, h _ he ⟨_, Heap.get?_push_of_some _ (Heap.get?_push_size _ rfl), rfl, rfl⟩ (by rw [Heap.size_push, hz]) fun b o x => Heap.get?_push_of_some _ (Heap.get?_push_of_some _ x)⟩
def IteT (K : PySem.W.Frag) (a : Addr) : It :=
  ⟨fun i H => ∃ (xs : List V) (x : V), SqT K H a xs ∧ xs[i]? = some x, fun i H v H' => ∃ T x, v = .ref T ∧ H T = none ∧ H' = upd H T (.tup [.int (i : Nat), x]) ∧ ∀ xs, SqT K H a xs → xs[i]? = some x, fun i H => ∃ xs : List V, SqT K H a xs ∧ xs.length ≤ i⟩
theorem turn_enumT {P : Program} {w : World} {K : PySem.W.Frag} {elts : List Expr} {kk : Nat} {tpos : Pos} (a e it : Addr) :
    Turn P w K (.Tuple elts kk tpos) (IteT K a) [e, it] e (fun i h => (∃ old, IsEnum h e it ((i : Nat) : Int) old) ∧ h.IsTupleIter it a i ∧ e ≠ it) where
  mem := by simp
  obj := fun i h st b hb => by
    obtain ⟨⟨old, he⟩, ⟨o, ho, hc, hd⟩, _⟩ := st
    have e' : b = e ∨ b = it := by simpa using hb
    rcases e' with z | z
    · rw [z]; exact ⟨_, he, fun v q => nomatch q⟩
    · rw [z]; exact ⟨o, ho, fun v q => by rw [hd] at q; cases q⟩
  keep := fun i h h' st k => let ⟨⟨old, he⟩, hi, hne⟩ := st; ⟨⟨old, k e (by simp) _ he⟩, hi.at fun o q => k it (by simp) o q, hne⟩
  item := by
    intro X hP hw hK hc i pins s σ H E I hf st hg
    subst hP hw hK
    obtain ⟨⟨old, he⟩, hit, hne⟩ := st
    obtain ⟨xs, x, hq, hx⟩ := hg
    obtain ⟨its, rv, p, hz⟩ := I.tuple hq
    obtain ⟨u, hu, ru⟩ := rv.get hx
    have hel : e < s.heap.objs.size := Heap.lt_size he
    have hil : it < s.heap.objs.size := by obtain ⟨_, q, _⟩ := hit; exact Heap.lt_size q
    have hT : s.heap.IsTuple a its.toArray := p
    have hai : a ≠ it := fun z => by
      obtain ⟨o1, h1, c1, _⟩ := hT
      obtain ⟨o2, h2, c2, _⟩ := hit
      rw [z, h2] at h1
      cases h1
      rw [c2] at c1
      exact absurd c1 (by decide)
    have hae : e ≠ a := fun z => by
      obtain ⟨o1, h1, c1, _⟩ := hT
      rw [← z, he] at h1
      cases h1
      exact absurd (show Value.type "enumerate" = Value.type "tuple" from c1) (by decide)
    have D := Draws.tuple (prog := X.prog) (w := X.w) (A := X.A.in1) (I.ok.hd hc) it a hai its.toArray
    have hl := rv.length
    have hlt : i < its.toArray.size := by
      have := (List.getElem?_eq_some_iff.mp hu).1
      simpa using this
    refine wpAny_pyNext_enum_itemD D he ⟨hit, hT⟩ hlt hne (by simp [hne, hae]) fun x' h' tk hP ho hit' hT' hsz hk => ?_
    obtain rfl : x' = u := by
      have z : its.toArray[i]? = some u := by simpa using hu
      exact Option.some.inj (hP.symm.trans z)
    refine ⟨_, rfl, wpAny_letOwnedTupleGo_enum (s := { s with heap := h', toks := tk + 1 }) ho fun h'' he' sb => ?_⟩
    have hT2 : h''.get? s.heap.objs.size = some { cls := .type "tuple", data := .seq #[.int i tk, x'] } := (sb.2 _ (Nat.ne_of_gt hel)).trans hT'
    have new : ObjOk X.prog X.w (upd H s.heap.objs.size (.tup [.int (i : Nat), x])) h'' s.heap.objs.size (.tup [.int (i : Nat), x]) :=
      ⟨by show 2 ≤ sizeLine; decide, [.int i tk, x'], .cons ⟨_, rfl⟩ (.cons ru .nil), ⟨_, hT2, rfl, _, rfl⟩⟩
    have I1 : Inv X pins σ (upd H s.heap.objs.size (.tup [.int (i : Nat), x])) { s with heap := h'', toks := tk + 1 } :=
      I.turnedNew (ch := [e, it]) (fun b ob hb q => (sb.2 b (fun z => hb (by simp [z]))).trans (hk b ob (fun z => hb (by simp [z])) (fun z => hb (by simp [z])) q)) hf (Nat.le_refl _) new
    refine ⟨.ref s.heap.objs.size, _, I1, rfl, ⟨_, x, rfl, I.hok.fresh (Nat.le_refl _), rfl, fun ys hy => by rw [I.tuple_inj hy hq]; exact hx⟩, ⟨⟨x', ?_⟩, hit'.1.at fun o q => (sb.2 it (Ne.symm hne)).trans q, hne⟩, fun b hb => ?_⟩
    · have e1 : ((i + 1 : Nat) : Int) = (i : Int) + 1 := by omega
      rw [e1]; exact he'
    · have hb' : b < s.heap.objs.size := by
        have e' : b = e ∨ b = it := by simpa using hb
        rcases e' with z | z
        · rw [z]; exact hel
        · rw [z]; exact hil
      rw [upd_ne (Nat.ne_of_lt hb')]
      exact (hf b hb).1
  done := by
    intro X hP hw hK hc i pins s σ H E I hf st hg
    subst hP hw hK
    obtain ⟨⟨old, he⟩, hit, hne⟩ := st
    obtain ⟨xs, hq, hx⟩ := hg
    obtain ⟨its, rv, p, hz⟩ := I.tuple hq
    have hT : s.heap.IsTuple a its.toArray := p
    obtain ⟨f0, f1, f2, f3, f4, f5⟩ := hf it (by simp)
    have hl := rv.length
    have hT2 : s.TypeIs (.ref e) "enumerate" := ⟨_, he, rfl⟩
    unfold pyNext
    refine wpAny_bind (wpAny_attempt (wpAny_callSpecial?_slot (name := Str.ofString "__next__") hT2 PySem.F.slot_enumerate_next
      (wpAny_call_entry PySem.F.slot_enumerate_next hT2 PySem.F.entry_enumerate_next ?_ (PySem.F.args_enumerate_next_1 _))))
    show wpAny _ _ (field (.ref e) 2 >>= _) _ _ _
    refine wpAny_bind (wpAny_field he rfl (x := .ref it) rfl ?_)
    refine wpAny_bind (wpAny_nextOf_tuple_end (I.ok.hd hc) hit hT (by simp; omega) fun h' x he' hx' => ?_)
    obtain ⟨o, ho, hc⟩ := hx'
    refine wpAny_bind (wpAny_isInstance (T := "StopIteration") (b := true) ⟨o, ho, hc⟩ isSubtype_stop ?_)
    exact wpAny_pure ⟨rfl, I.turned (t' := s.toks) (fun b o hb q => he' b o hb q) f0 f1 f3 f4 f5⟩
  self := fun A i s Q E st h => let ⟨⟨_, he⟩, _⟩ := st; wpAny_pyIter_enum he h
def iEnumT (K : PySem.W.Frag) (ta : TA) : TI := fun σ H R => ta σ H fun vs H1 => ∃ a xs, vs = [.ref a] ∧ SqT K H1 a xs ∧ R (IteT K a) H1
theorem pi_enumT {X : Cx} {e : Expr} {ta : TA} {p pos tpos : Pos} {elts : List Expr} {kk : Nat} (hg : Gl X "enumerate") (hm : X.mg "enumerate" = none) (ha : PA X [e] ta) (hs : starEach [e] X.env = [(false, eval e X.env)] := by rfl) :
    PI X (.Tuple elts kk tpos) (.Call (.Name "enumerate" p) [e] [] pos) (iEnumT X.K ta) := by
  refine ⟨fun pins s σ H R I h => ?_⟩
  refine Call_ (ld_blt I hg hm boot_enumerate (PyProof.Rows.callWith_type1 (thn (ha.run pos pins s σ H _ I h) fun us s1 ⟨vs, H1, I1, r1, q1⟩ => ?_) hs rfl))
  obtain ⟨a, xs, ex, hq, q⟩ := q1
  subst ex
  cases r1 with
  | cons r rr =>
    cases rr
    cases r
    obtain ⟨its, rv, p', hz⟩ := I1.tuple hq
    refine call_enumerate_tuple (show s1.heap.IsTuple a its.toArray from p') fun h' he hit hsz hk => wpAny_pyIter_enum he ?_
    have I2 : Inv X pins σ H1 { s1 with heap := h' } := I1.kept (t' := s1.toks) hk
    refine ⟨s1.heap.objs.size + 1, [s1.heap.objs.size + 1, s1.heap.objs.size], _, _, H1, rfl, I2, turn_enumT a (s1.heap.objs.size + 1) s1.heap.objs.size, ⟨⟨.none, he⟩, hit, Nat.succ_ne_self _⟩, fun b hb => ?_, q⟩
    have e' : b = s1.heap.objs.size + 1 ∨ b = s1.heap.objs.size := by simpa using hb
    have hle : s1.heap.objs.size ≤ b := by
      rcases e' with z | z
      · rw [z]; exact Nat.le_add_right _ _
      · rw [z]; exact Nat.le_refl _
    exact I1.fpOk hle (I1.hok.fresh hle)
/-- for i, x in enumerate(tuple) -/
theorem for_enumT {K : PySem.W.Frag} {a : Addr} {xs : List V} {g : TG} {tb : TS} {D : Ends} {σ : L2.St} {H : Hp} (Pv : Nat → L2.St → Hp → Prop) (h0 : Pv 0 σ H) (hl : ∀ i σ H, i ≤ xs.length → Pv i σ H → SqT K H a xs)
    (hs : ∀ i x σ H T, xs[i]? = some x → Pv i σ H → H T = none → g (.ref T) σ (upd H T (.tup [.int (i : Nat), x])) fun σ2 H2 => tb { D with nx := Pv (i + 1), ct := Pv (i + 1), bk := D.nx } σ2 H2) (hd : ∀ σ H, Pv xs.length σ H → D.nx σ H) :
    ∃ W : Nat → Nat → L2.St → Hp → Prop, (∃ m, W 0 m σ H) ∧ ∀ i m σ H, W i m σ H →
      ((IteT K a).stop i H ∧ D.nx σ H) ∨ ((IteT K a).go i H ∧ ∃ N : L2.St → Hp → Prop, (∀ σ' H', N σ' H' → ∃ m', m' < m ∧ W (i + 1) m' σ' H') ∧ ∀ x H', (IteT K a).yld i H x H' → g x σ H' fun σ2 H2 => tb { D with nx := N, ct := N, bk := D.nx } σ2 H2) := by
  refine ⟨fun i m σ H => m = xs.length - i ∧ i ≤ xs.length ∧ Pv i σ H, ⟨xs.length, by simp, Nat.zero_le _, h0⟩, ?_⟩
  rintro i m σ H ⟨rfl, hi, p⟩
  have q := hl i σ H hi p
  by_cases hlt : i < xs.length
  · refine .inr ⟨⟨xs, xs[i], q, by simp [hlt]⟩, Pv (i + 1), fun σ' H' p' => ⟨xs.length - (i + 1), by omega, rfl, hlt, p'⟩, fun x H' y => ?_⟩
    obtain ⟨T, x, rfl, hT, rfl, y⟩ := y
    exact hs i x σ H T (y xs q) p hT
  · have e : i = xs.length := by omega
    subst e
    exact .inl ⟨⟨xs, q, Nat.le_refl _⟩, hd σ H p⟩
theorem turn_long {P : Program} {w : World} {K : PySem.W.Frag} {tg : Expr} (it : Addr) (lo : Int) (n : Nat) : Turn P w K tg (Itr lo n) [it] it (fun i h => IsLongIter h it (lo + (i : Nat) * 1) ((n : Int) - (i : Nat)) 1) where
  mem := by simp
  obj := fun i h st b hb => by
    have e : b = it := by simpa using hb
    subst e
    exact ⟨_, st, fun v z => by
      have z' : Data.fields _ = Data.cell v := z
      cases z'⟩
  keep := fun i h h' st k => k it (by simp) _ st
  item := by
    intro X hP hw hK hc i pins s σ H E I hf st hg
    subst hP hw hK
    obtain ⟨f0, f1, f2, f3, f4, f5⟩ := hf it (by simp)
    have W := Walks.longrange (prog := X.prog) (w := X.w) (I.ok.hd hc) it lo 1 n
    refine W.item i s _ _ hg st fun v h' tk hv st' kk => ?_
    obtain ⟨t, rfl⟩ := hv
    have I1 : Inv X pins σ H { s with heap := h', toks := tk } := I.turned (fun b o hb e => kk b o (by simpa using hb) e) f0 f1 f3 f4 f5
    refine ⟨_, rfl, go_of (s := { s with heap := h', toks := tk }) (n := "longrange_iterator") st' rfl rfl (by decide) ⟨.int (lo + i), H, I1, ⟨t, ?_⟩, ⟨rfl, rfl⟩, st', fun b hb => (hf b hb).1⟩⟩
    rw [Int.mul_one]
  done := by
    intro X hP hw hK hc i pins s σ H E I hf st hg
    subst hP hw hK
    obtain ⟨f0, f1, f2, f3, f4, f5⟩ := hf it (by simp)
    exact wpAny_pyNext_long_end (I.ok.hd hc) st (by have : n ≤ i := hg; omega) fun h' eb => ⟨rfl, I.turned (t' := s.toks) (fun b o hb e => eb b o hb e) f0 f1 f3 f4 f5⟩
  self := fun _ _ _ _ _ st h => wpAny_pyIter_longiter st h
section
variable {X : Cx} {tg : Expr}
theorem range_itW {pins : List (Addr × Obj)} {σ : L2.St} {H : Hp} {s : Shared} {R : It → Hp → Prop} {E : Value → Shared → Prop} {lo hi : Int} {t u v : Tok} {tk : Nat} (I : Inv X pins σ H s)
    (q : R (Itr lo (hi - lo).toNat) H) : wpAny (model X.prog X.w) X.A (pyIter (.ref s.heap.objs.size)) (PIE X pins σ tg R) E { s with heap := s.heap.push { cls := .type "range", data := .fields #[.int lo t, .int hi u, .int 1 v] }, toks := tk } := by
  have I1 : Inv X pins σ H { s with heap := s.heap.push { cls := .type "range", data := .fields #[.int lo t, .int hi u, .int 1 v] }, toks := tk } := I.kept fun b o e => Heap.get?_push_of_some _ e
  have e1 : lo + ((0 : Nat) : Int) * 1 = lo := by simp
  have e2 : (((hi - lo).toNat : Nat) : Int) - ((0 : Nat) : Int) = Builtin.Range.rangeSize lo hi 1 := by rw [rangeSize_one]; split <;> omega
  have fp : ∀ b ∈ [(s.heap.push { cls := .type "range", data := .fields #[.int lo t, .int hi u, .int 1 v] }).objs.size], FpOk X pins H b := fun b hb => by
    have e : b = (s.heap.push { cls := .type "range", data := .fields #[.int lo t, .int hi u, .int 1 v] }).objs.size := by simpa using hb
    subst e
    exact I1.fpOk (Nat.le_refl _) (I1.hok.fresh (Nat.le_refl _))
  cases hs : Builtin.Range.small lo hi 1 with
  | true =>
    refine wpAny_pyIter_range (IsRange.new ..) hs ?_
    refine ⟨(s.heap.push { cls := .type "range", data := .fields #[.int lo t, .int hi u, .int 1 v] }).objs.size, [(s.heap.push { cls := .type "range", data := .fields #[.int lo t, .int hi u, .int 1 v] }).objs.size], _, _, H, rfl,
      I1.kept (t' := tk) fun b o e => Heap.get?_push_of_some _ e, turn_range _ lo (hi - lo).toNat, ?_, fp, q⟩
    show IsRangeIter _ _ (lo + ((0 : Nat) : Int) * 1) ((((hi - lo).toNat : Nat) : Int) - ((0 : Nat) : Int)) 1
    rw [e1, e2]
    exact Heap.get?_push_size _ rfl
  | false =>
    refine wpAny_pyIter_longrange (IsRange.new ..) hs ?_
    refine ⟨(s.heap.push { cls := .type "range", data := .fields #[.int lo t, .int hi u, .int 1 v] }).objs.size, [(s.heap.push { cls := .type "range", data := .fields #[.int lo t, .int hi u, .int 1 v] }).objs.size], _, _, H, rfl,
      I1.kept (t' := tk) fun b o e => Heap.get?_push_of_some _ e, turn_long _ lo (hi - lo).toNat, ?_, fp, q⟩
    show IsLongIter _ _ (lo + ((0 : Nat) : Int) * 1) ((((hi - lo).toNat : Nat) : Int) - ((0 : Nat) : Int)) 1
    rw [e1, e2]
    exact Heap.get?_push_size _ rfl
def iRng2W (ta : TA) : TI := fun σ H R => ta σ H fun vs H1 => ∃ i j : Int, vs = [.int i, .int j] ∧ R (Itr i (j - i).toNat) H1
theorem pi_range2W {a b : Expr} {ta : TA} {p pos : Pos} (hg : Gl X "range") (hm : X.mg "range" = none) (ha : PA X [a, b] ta) (hs : starEach [a, b] X.env = [(false, eval a X.env), (false, eval b X.env)] := by rfl) (hs2 : starEach [b] X.env = [(false, eval b X.env)] := by rfl) :
    PI X tg (.Call (.Name "range" p) [a, b] [] pos) (iRng2W ta) := by
  refine ⟨fun pins s σ H R I h => ?_⟩
  refine Call_ (ld_blt I hg hm boot_range (PyProof.Rows.callWith_type1 (thn (ha.run pos pins s σ H _ I h) fun us s1 ⟨vs, H1, I1, r1, q1⟩ => ?_) (by rw [hs, hs2]) (by rw [hs2]; rfl)))
  obtain ⟨i, j, e, q⟩ := q1
  subst e
  cases r1 with
  | cons r rr =>
    cases rr with
    | cons r' rr =>
      cases rr
      obtain ⟨t, rfl⟩ := r
      obtain ⟨t', rfl⟩ := r'
      exact call_range_2 (range_itW I1 q)
end
end My
set_option Elab.async false
set_option linter.all false
set_option maxRecDepth 100000
set_option maxHeartbeats 4000000
namespace My
open PySem PySem.Spec PyProof.Rows L2
section
variable {prog : Program} {w : World} {A : Around} {E : Value → Shared → Prop} {s : Shared} {r : Addr} {a b : Int} {t u v : Tok} {n : Nat}
theorem ext_long {R : Result → Shared → Prop} (nh : A.handled = none) (rg : IsRange s.heap r a b 1 t u v) (big : Builtin.Range.small a b 1 = false) (sz : Builtin.Range.rangeSize a b 1 = n) (few : n ≤ 2 ^ 24)
    (L : Addr) (res : Value) (k0 : Nat) (lst : s.heap.get? L = some { cls := .type "list", data := .seq #[] k0 })
    (fin : ∀ h' tk acc k', (∀ x o, x ≠ L → s.heap.get? x = some o → h'.get? x = some o) → h'.get? L = some { cls := .type "list", dict := none, data := .seq acc k', slots := #[] } →
      ItemsOf (fun i z => ∃ t, z = .int (a + i * 1) t) acc n → R (.ok (.ret res)) { s with heap := h', toks := tk }) :
    wpAny (model prog w) A.in1 (Builtin.List.listExtendWith (.ref L) (.ref r) res)
      (fun f s' => match f with | .done z => R (.ok z) s' | .again c => c.quiet = true ∧ codeAny (model prog w) A c R s') (fun e s' => R (.error e) s') s := by
  have nLr : L ≠ r := fun e => by rw [e, rg] at lst; simp at lst
  have lt : L < s.heap.objs.size := Heap.lt_size lst
  have nLi : L ≠ s.heap.objs.size := Nat.ne_of_lt lt
  have nin : L ∉ [s.heap.objs.size] := fun z => nLi (List.mem_singleton.mp z)
  have WK := (Walks.longrange (prog := prog) (w := w) (A := A.in1) nh s.heap.objs.size a 1 n).toS
  have loop : ∀ (h : Heap) (k1 tk : Nat), IsLongIter h s.heap.objs.size (a + ((0 : Nat) : Int) * 1) ((n : Int) - ((0 : Nat) : Int)) 1 → (∀ x o, x ≠ L → s.heap.get? x = some o → h.get? x = some o) →
      h.get? L = some { cls := .type "list", data := .seq #[] k1 } → codeAny (model prog w) A (.builtin "list.extend.loop" ⟨[.ref L, .ref s.heap.objs.size, res], []⟩) R { s with heap := h, toks := tk } := by
    intro h k1 tk it old l1
    refine codeAny_extend_loopS WK (by rw [sizeLine_eq]; omega) L nin res n 0 _ #[] k1 rfl (Nat.zero_le _) it l1 (ItemsOf.nil _) fun s' acc k' mv l2 its => ?_
    rw [Moved.eq_with mv]
    refine fin s'.heap s'.toks acc k' (fun x o nx e => mv.heap x o (fun z => ?_) (old x o nx e)) l2 its
    rcases List.mem_cons.mp z with e' | z
    · exact nx e'
    · exact absurd (Heap.lt_size e) (by rw [List.mem_singleton.mp z]; exact Nat.lt_irrefl _)
  unfold Builtin.List.listExtendWith
  refine wpAny_bind (wpAny_typeOf (T := "range") ⟨_, rg, rfl⟩ ?_)
  have q1 : Builtin.List.listSameRef (.ref L) (.ref r) = false := by simp [Builtin.List.listSameRef, nLr]
  have q2 : (Value.type "range" == Value.type "list") = false := by decide
  have q3 : (Value.type "range" == Value.type "tuple") = false := by decide
  simp only [q1, q2, q3, Bool.or_false, Bool.false_eq_true, if_false]
  refine wpAny_bind (wpAny_pyIter_longrange rg big ?_)
  refine wpAny_bind (wpAny_holding (wpAny_hint_range (n := n) (Heap.get?_push_of_some _ rg) sz few ?_))
  have it1 : IsLongIter (s.heap.push { cls := .type "longrange_iterator", data := .fields #[rawInt a, rawInt (Builtin.Range.rangeSize a b 1), rawInt 1] }) s.heap.objs.size (a + ((0 : Nat) : Int) * 1) ((n : Int) - ((0 : Nat) : Int)) 1 := by
    show IsLongIter _ _ _ _ _
    rw [sz]
    simpa using Heap.get?_push_size _ rfl
  have l1 := Heap.get?_push_of_some { cls := .type "longrange_iterator", data := .fields #[rawInt a, rawInt (Builtin.Range.rangeSize a b 1), rawInt 1] } lst
  refine wpAny_ite_split (fun _ => ?_) (fun _ => wpAny_pure ⟨plainId_quiet F.plain_extend_loop _, loop _ k0 _ it1 (fun x o _ e => Heap.get?_push_of_some _ e) l1⟩)
  refine wpAny_bind (wpAny_rule ?_)
  refine wpAny_bind ?_
  show wpAny _ _ (updateSeq L (·.push .none) >>= fun _ => updateSeq L (·.pop)) _ _ _
  refine wpAny_bind (wpAny_updateSeq l1 rfl ?_)
  have l2 := Heap.get?_update_self (Obj.mapSeq (·.push Value.none)) l1 rfl
  refine wpAny_updateSeq (hz := by seq_fits) l2 rfl ?_
  have l3 := Heap.get?_update_self (Obj.mapSeq (·.pop)) l2 rfl
  refine wpAny_pure ⟨plainId_quiet F.plain_extend_loop _, loop _ _ _ ?_ (fun x o nx e => ?_) l3⟩
  · exact (Heap.get?_update_other _ _ nLi).trans ((Heap.get?_update_other _ _ nLi).trans it1)
  · exact (Heap.get?_update_other _ _ (Ne.symm nx)).trans ((Heap.get?_update_other _ _ (Ne.symm nx)).trans (Heap.get?_push_of_some _ e))
theorem collect_wide {Q : List Value → Shared → Prop} (nh : A.handled = none) (rg : IsRange s.heap r a b 1 t u v) (sz : Builtin.Range.rangeSize a b 1 = n) (few : n ≤ 2 ^ 24)
    (fin : ∀ (h' : Heap) (tk : Nat) (acc : Array Value), (∀ x o, s.heap.get? x = some o → h'.get? x = some o) → ItemsOf (fun i z => ∃ t, z = .int (a + i * 1) t) acc n → Q acc.toList { s with heap := h', toks := tk }) :
    wpAny (model prog w) A (collect (.ref r)) Q E s := by
  cases big : Builtin.Range.small a b 1 with
  | true => exact collect_range nh rg big sz few fin
  | false =>
    unfold collect
    refine wpAny_bind (wpAny_runValue (codeAny_builtin F.entry_proto_collect ?_))
    rw [Around.under_plainId F.plain_proto_collect _]
    show wpAny _ A.in1 (newList [] >>= fun l => again (.builtin "list.__iadd__" ⟨[l, .ref r], []⟩)) _ _ s
    refine wpAny_bind (wpAny_newObj_type ?_)
    refine wpAny_pure ⟨plainId_quiet F.plain_list_iadd _, codeAny_builtin F.entry_list_iadd ?_⟩
    rw [Around.under_plainId F.plain_list_iadd _]
    show wpAny _ A.in1 (Builtin.List.listExtendWith (.ref s.heap.objs.size) (.ref r) (.ref s.heap.objs.size)) _ _ _
    have l0 : (s.heap.push { cls := .type "list", data := .seq ([] : List Value).toArray }).get? s.heap.objs.size = some { cls := .type "list", data := .seq #[] 0 } := Heap.get?_push_size _ rfl
    refine wpAny_mono (ext_long (A := A) (R := fun rr s' => rr = .ok (.ret (.ref s.heap.objs.size)) ∧ ∃ (h' : Heap) (tk : Nat) (acc : Array Value) (c' : Nat), s' = { s with heap := h', toks := tk } ∧
        (∀ x o, s.heap.get? x = some o → h'.get? x = some o) ∧ h'.get? s.heap.objs.size = some { cls := .type "list", dict := none, data := .seq acc c', slots := #[] } ∧ ItemsOf (fun i z => ∃ t, z = .int (a + i * 1) t) acc n)
      (s := { s with heap := s.heap.push { cls := .type "list", data := .seq ([] : List Value).toArray } }) nh (Heap.get?_push_of_some _ rg) big sz few _ _ 0 l0
      (fun h' tk acc c' hk e hi => ⟨rfl, h', tk, acc, c', rfl, fun x o q => hk x o (Nat.ne_of_lt (Heap.lt_size q)) (Heap.get?_push_of_some _ q), e, hi⟩)) (fun z s' h => ?_) (fun e s' h => ?_)
    · cases z with
      | done f =>
        obtain ⟨e, h', tk, acc, c', rfl, hk, l1, hi⟩ := h
        cases e
        show wpAny _ A (load s.heap.objs.size >>= _) _ _ _
        exact wpAny_bind (wpAny_load l1 (wpAny_pure (fin h' tk acc hk hi)))
      | again c' =>
        refine ⟨h.1, codeAny_mono h.2 fun rr s2 q => ?_⟩
        obtain ⟨rfl, h', tk, acc, c', rfl, hk, l1, hi⟩ := q
        show wpAny _ A (load s.heap.objs.size >>= _) _ _ _
        exact wpAny_bind (wpAny_load l1 (wpAny_pure (fin h' tk acc hk hi)))
    · exact absurd h.1 (by simp)
theorem code_tupW {Q1 : Value → Shared → Prop} (nh : A.handled = none) (rg : IsRange s.heap r a b 1 t u v) (sz : Builtin.Range.rangeSize a b 1 = n) (few : n ≤ 2 ^ 24)
    (fin : ∀ (h' : Heap) (tk : Nat) (acc : Array Value), (∀ x o, s.heap.get? x = some o → h'.get? x = some o) → ItemsOf (fun i z => ∃ t, z = .int (a + i * 1) t) acc n →
      Q1 (.ref h'.objs.size) { s with heap := h'.push { cls := .type "tuple", data := .seq acc }, toks := tk }) :
    codeAny (model prog w) A (.call (.builtin "tuple.__new__") ⟨[.type "tuple", .ref r], []⟩) (wants Q1 E) s := by
  refine codeAny_of_tree ?_
  show wpAny _ A.in1 (do checkBuiltinCall "tuple.__new__" ⟨[.type "tuple", .ref r], []⟩; again (.builtin "tuple.__new__" ⟨[.type "tuple", .ref r], []⟩)) _ _ s
  refine wpAny_bind (wpAny_of_eq (F.newCall_tuple_1 _) (wpAny_pure ⟨plainId_quiet F.plain_tuple_new _, codeAny_builtin F.entry_tuple_new ?_⟩))
  rw [Around.under_plainId F.plain_tuple_new _]
  have e1 := sub_tuple_self
  have e2 := init_tuple_lookup
  have e3 := madeHere_tuple
  have ty : s.TypeIs (.ref r) "range" := ⟨_, rg, rfl⟩
  have nh1 : A.in1.handled = none := nh
  wp_walk using wpAny_typeOf ty, collect_wide (A := A.in1) nh1 rg sz few
  intro h' tk acc old its
  show wpAny _ _ (Builtin.Tuple.tupleExact acc.toList.toArray >>= fun v => ret v) _ _ _
  unfold Builtin.Tuple.tupleExact
  refine wpAny_bind (wpAny_newObj_type ?_ (by show acc.toList.toArray.size ≤ sizeLine; simp only [Array.toArray_toList]; rw [its.1, sizeLine_eq]; omega))
  refine wpAny_pure ?_
  have e : acc.toList.toArray = acc := by simp
  rw [e]
  exact fin h' tk acc old its
theorem call_tupW {Q : Value → Shared → Prop} (nh : A.handled = none) (rg : IsRange s.heap r a b 1 t u v) (sz : Builtin.Range.rangeSize a b 1 = n) (few : n ≤ 2 ^ 24)
    (fin : ∀ (h' : Heap) (tk : Nat) (acc : Array Value), (∀ x o, s.heap.get? x = some o → h'.get? x = some o) → ItemsOf (fun i z => ∃ t, z = .int (a + i * 1) t) acc n →
      Q (.ref h'.objs.size) { s with heap := h'.push { cls := .type "tuple", data := .seq acc }, toks := tk }) :
    wpAny (model prog w) A (call (.type "tuple") [.ref r]) Q E s := by
  refine callType_codes (Q₁ := fun obj s1 => s1.TypeIs obj "tuple" ∧ Q obj s1) F.called_tuple (F.typeCall_tuple_1 _) F.entry_object_init
    (code_tupW (A := A.in1) nh rg sz few fun h' tk acc old its => ⟨⟨_, Heap.get?_push_size _ rfl, rfl⟩, fin h' tk acc old its⟩) fun obj s1 h1 => ?_
  exact ⟨h1.1, F.args_object_init_2 obj _, object_init_meets F.called_tuple.init.lookup F.called_tuple.made (by decide) prog w A.in1 _ s1 ⟨h1.1, rfl, h1.2⟩⟩
end
section
variable {X : Cx} {e : Expr} {te : L2.St → Hp → (Int → Int → Hp → Prop) → Prop}
/-- tuple(range(..)): a new tuple of the ints -/
def tTupW (te : L2.St → Hp → (Int → Int → Hp → Prop) → Prop) : TE := fun σ H Q => te σ H fun a b H1 => (b - a).toNat ≤ 2 ^ 24 ∧ ∀ q, H1 q = none → Q (.ref q) (upd H1 q (.tup (rgV a b)))
theorem pe_tupW {p pos : Pos} (hc : X.calm = true) (hg : Gl X "tuple") (hm : X.mg "tuple" = none) (he : PRg X e te) (na : starEach [e] X.env = (false, eval e X.env) :: starEach [] X.env := by rfl) : PE X (.Call (.Name "tuple" p) [e] [] pos) (tTupW te) := by
  refine ⟨fun pins s σ H Q I h => ?_⟩
  refine Call_ (ld_blt I hg hm boot_tuple (PyProof.Rows.callWith_type1 (args_cons (thn (he pins s σ H _ I h) fun x s1 ⟨r, a, b, t, u, v, H1, ex, hr, I1, few, q⟩ => args_nil ?_) na) na))
  subst ex
  refine call_tupW (n := (b - a).toNat) (I1.ok.hd hc) hr (rangeSize_nat a b) few fun h' tk acc hk hi => ?_
  have I2 : Inv X pins σ H1 { s1 with heap := h', toks := tk } := I1.kept hk
  refine ⟨.ref h'.objs.size, upd H1 h'.objs.size (.tup (rgV a b)), I2.laid (t' := tk) (fun c o e => Heap.get?_push_of_some _ e) (Nat.le_refl _) (show ObjOk X.prog X.w _ _ _ (.tup (rgV a b)) from ⟨?_, acc.toList, vals_rg hi, ?_⟩), rfl, q _ (I2.hok.fresh (Nat.le_refl _))⟩
  · rw [rgV_length, sizeLine_eq]; omega
  · rw [Array.toArray_toList]; exact IsTup.new _ _
end
section
variable {X : Cx} {CX : CXT} {k : Nat} {f C : Addr} {fd : FuncData} {ps ks : List Str} {sp : Sp} {E : XK} {m : Str} {p pos apos : Pos} {e o fe : Expr} {es : List Expr} {kws : List Keyword} {te ta tf : TE} {t tk : TA}
variable {g : List Value → List Value → List Value} {gV : List V → List V → List V} {pl : Sem Bool} {mc : Value}
def tMethK (C : Addr) (m : Str) (sp : Sp) (gV : List V → List V → List V) (E : XK) (ta : TE) (tk : TA) : TE := fun σ H Q => ta σ H fun x H1 => ∃ a dx fs, x = .ref a ∧ H1 a = some (.ins C dx fs) ∧ fs.lookup m = none ∧ tk σ H1 fun zs H2 => sp (gV [.ref a] zs) H2 Q E
theorem pe_methK (he : PE X o ta) (c : Cls X.K C) (hm : Meth X.K C m f) (F : FnOk X.prog X.w X.K X.mg X.base CX k f fd ps sp) (hr : Room k X.A) (hb : KBinds X.K fd ps ks g gV) (hx : Passes CX X E) (hkw : PK X kws tk)
    (hall : (backToKw pos (keywordEach kws X.env)).all (·.1.isSome) = true := by rfl) (hks : (backToKw pos (keywordEach kws X.env)).filterMap (·.1) = ks := by rfl)
    (hpl : ((backTo pos (starEach [] X.env)).any (·.1) || (backToKw pos (keywordEach kws X.env)).any (·.1.isNone)) = false := by rfl)
    (ht : eval (.Call (.Attribute o m apos) [] kws pos) X.env = (do
      let z ← eval o X.env
      standAt apos.atName
      let (fn, fst) ← holding [z] (getMethod z m pl)
      callWith pos fn fst (backTo pos (starEach [] X.env)) (backToKw pos (keywordEach kws X.env))) := by rfl) :
    PE X (.Call (.Attribute o m apos) [] kws pos) (tMethK C m sp gV E ta tk) := by
  refine ⟨fun pins s σ H Q I h => ?_⟩
  refine PySem.W.methodCall_KW (pl := pl) (thn (he.run pins s σ H _ I h) fun u s1 ⟨x, H1, I1, rx, a, dx, fs, ex, ea, l, q⟩ => ?_) ht
  subst ex
  obtain rfl : u = Value.ref a := rx
  refine getmeth_ok I1 ea c hm l ?_
  refine PySem.W.callWith_KW0 (first := [.ref a]) (h₀ := X.base) I.ok.mod.kin hm.kp hall (thn (hkw.run pos pins s1 σ H1 _ I1 q) fun ws s2 ⟨zs, H2, I2, rz, q2⟩ => ⟨I2.kIn, ?_⟩) hpl
  rw [hks]
  exact run_fnk (us := [.ref a]) (vs := [.ref a]) F hr hb hx I2 (.cons rfl .nil) rz q2
def tCallOK (X : Cx) (C : Addr) (sp : Sp) (gV : List V → List V → List V) (E : XK) (tf : TE) (tk : TA) : TE := fun σ H Q => tf σ H fun y H1 => ∃ a, y = V.ref a ∧ tk σ H1 fun zs H2 => StX.InsC X H2 a C ∧ sp (gV [V.ref a] zs) H2 Q E
theorem withO {M : Model} {A : Around} {E : Value → Shared → Prop} {s : Shared} {a : Addr} {pos : Pos} {Q : Value → Shared → Prop} {args : List (Bool × Sem Value)} {kw : List (Option Str × Sem Value)} (plain : (args.any (·.1) || kw.any (·.1.isNone)) = false)
    (h : wpAny M A (evalArgs (.ref a) true args kw) (fun z s1 => (∃ C ox od, PySem.W.InstAt s1.heap a ox C od ∧ ox.data = .plain) ∧ wpAny M A (call (.ref a) ([] ++ z.pos) z.kw) Q E s1) E s) : wpAny M A (callWith pos (.ref a) [] args kw) Q E s := by
  unfold callWith
  refine wpAny_bind (wpAny_holding (wpAny_mono h (fun z s1 h1 => wpAny_bind (wpAny_standAt ?_)) fun _ _ y => y))
  obtain ⟨⟨C, ox, od, J, hd⟩, h1⟩ := h1
  have L := PySem.W.kco_keeper (M := M) J hd
  simp only [plain]
  refine wpAny_bind (L.here ?_)
  have last : ∀ {t : Sem Value}, wpAny M A t Q E s1 → wpAny M A (t >>= fun r => holding [r] point >>= fun _ => pure r) Q E s1 :=
    fun ht => wpAny_bind (wpAny_mono ht (fun r s2 z => wpAny_bind (wpAny_holding (wpAny_point (wpAny_pure z)))) fun _ _ y => y)
  exact last (wpAny_operateT h1)
theorem pe_callOK {g' : Addr} (hf : PE X fe tf) (c : StX.CallO X.K C g') (F : FnOk X.prog X.w X.K X.mg X.base CX k g' fd ps sp) (hr : Room k X.A) (hb : KBinds X.K fd ps ks g gV) (hx : Passes CX X E) (hkw : PK X kws tk)
    (ht : eval (.Call fe [] kws pos) X.env = (do callWith pos (← eval fe X.env) [] (backTo pos (starEach [] X.env)) (backToKw pos (keywordEach kws X.env))) := by rfl)
    (hall : (backToKw pos (keywordEach kws X.env)).all (·.1.isSome) = true := by rfl) (hks : (backToKw pos (keywordEach kws X.env)).filterMap (·.1) = ks := by rfl)
    (hpl : ((backTo pos (starEach [] X.env)).any (·.1) || (backToKw pos (keywordEach kws X.env)).any (·.1.isNone)) = false := by rfl) : PE X (.Call fe [] kws pos) (tCallOK X C sp gV E tf tk) := by
  refine ⟨fun pins s σ H Q I h => ?_⟩
  rw [ht]
  refine wpAny_bind (thn (hf.run pins s σ H _ I h) fun u s1 ⟨y, H1, I1, ry, a, ey, q⟩ => ?_)
  subst ey
  obtain rfl : u = Value.ref a := ry
  refine withO hpl (evalArgs_kw2_nil hall (thn (hkw.run pos pins s1 σ H1 _ I1 q) fun ws s2 ⟨zs, H2, I2, rz, hi, q2⟩ => ?_))
  rw [hks]
  obtain ⟨ox, od, J, hd⟩ := StX.insC_at I2 hi
  have r2 := hb.rel (us := [.ref a]) (vs := [.ref a]) (.cons rfl .nil) rz
  have hl : (g [.ref a] ws).length = ps.length := by rw [← r2.length]; exact F.len _ _ _ _ q2
  refine ⟨⟨C, ox, od, J, hd⟩, wpAny_call (PySem.W.kco_code I2.kIn J hd c.at_ c.fn c.fi (codeAny_mono (F.run X.A X.stack s2 H2 ⟨[.ref a], ks.zip ws⟩ (g [.ref a] ws) (gV [.ref a] zs) Q E hr I2.env0 (hb.to s2 [.ref a] ws I2.kIn hl) r2 q2) fun r s' hq => ?_))⟩
  cases r with
  | error e => exact hx pins σ H2 s2 e s' I2 hq
  | ok fl =>
    cases fl with
    | ret u => exact I2.after hq
    | next => exact False.elim hq
    | brk => exact False.elim hq
    | cont => exact False.elim hq
/-- C.m is a def of the class (or of one above it) -/
structure CFn (K : PySem.W.Frag) (C : Addr) (mc : Value) (m : Str) (f : Addr) : Prop where
  at_ : PySem.W.findCls K (.ref C) mc m = some (.val (.ref f))
  kp : PySem.W.keepIn K (.ref f) = true
def tCFn (C : Addr) (sp : Sp) (E : XK) (ta : TE) (t : TA) : TE := fun σ H Q => ta σ H fun x H1 => x = .ref C ∧ t σ H1 fun vs H2 => sp vs H2 Q E
theorem pe_cfn (he : PE X o ta) (r : ClX.CRead X.K C mc) (c : CFn X.K C mc m f) (F : FnR X.prog X.w X.K X.mg X.base CX k f sp) (hr : Room k X.A) (hx : Passes CX X E) (ha : PA X (e :: es) t)
    (hst : starEach (e :: es) X.env = (false, eval e X.env) :: starEach es X.env := by rfl) (hpl : (backTo pos (starEach es X.env)).any (·.1) = false := by rfl)
    (ht : eval (.Call (.Attribute o m apos) (e :: es) [] pos) X.env = (do
      let z ← eval o X.env
      standAt apos.atName
      let (fn, fst) ← holding [z] (getMethod z m pl)
      callWith pos fn fst (backTo pos (starEach (e :: es) X.env)) (backToKw pos (keywordEach [] X.env))) := by rfl) :
    PE X (.Call (.Attribute o m apos) (e :: es) [] pos) (tCFn C sp E ta t) := by
  refine ⟨fun pins s σ H Q I h => ?_⟩
  refine PySem.W.methodCall_KW (pl := pl) (thn (he.run pins s σ H _ I h) fun u s1 ⟨x, H1, I1, rx, ex, q⟩ => ?_) ht
  subst ex
  obtain rfl : u = Value.ref C := rx
  refine PySem.W.method_cls I1.kIn r.ga (PySem.W.cls_value I1.kIn r.rd c.at_ rfl ?_)
  refine PySem.W.callWith_K (first := []) (h₀ := X.base) I.ok.mod.kin c.kp (thn (ha.run pos pins _ σ H1 _ (I1.tok _) q) fun us s2 ⟨vs, H2, I2, rv, q2⟩ => ⟨I2.kIn, ?_⟩) hst hpl
  exact wpAny_call (run_fnR (us := us) (vs := vs) F hr hx I2 rv q2)
end
end My
set_option linter.all false
namespace My
structure OkL (ls : List Int) : Prop where
  ne : 0 < ls.length
  pos : ∀ l ∈ ls, 1 ≤ l
def spotN : List Int → Int → Nat
  | [], _ => 0
  | l :: r, p => if l ≤ p then spotN r (p - l) + 1 else 0
def ixD (ls : List Int) (d : Int) : Nat := spotN ls (d % ls.sum)
def plcD (ls : List Int) (d : Int) : Int := d % ls.sum - (ls.take (ixD ls d)).sum
def blkD (ls : List Int) (d : Int) : Int := d / ls.sum * ls.length + ixD ls d
def lenD (ls : List Int) (d : Int) : Int := ls.getD (ixD ls d) 0
def fstD (ls : List Int) (d : Int) : Int := d - plcD ls d
/-- the block with the number b, first day f, length l, has the day d -/
def At (ls : List Int) (d b f l : Int) : Prop := f ≤ d ∧ d < f + l ∧ ∃ (k : Int) (i : Nat), b = k * ls.length + i ∧ ls[i]? = some l ∧ f = k * ls.sum + (ls.take i).sum
theorem sum_pos {ls : List Int} (h : ∀ l ∈ ls, 1 ≤ l) : (ls.length : Int) ≤ ls.sum := by
  induction ls with
  | nil => simp
  | cons a r ih =>
    have h1 := h a (by simp)
    have h2 := ih fun l hl => h l (by simp [hl])
    rw [List.sum_cons, List.length_cons]
    omega
theorem OkL.sum {ls : List Int} (o : OkL ls) : 0 < ls.sum := by
  have := sum_pos o.pos
  have := o.ne
  omega
theorem spot_run {ls : List Int} (h : ∀ l ∈ ls, 1 ≤ l) : ∀ p : Int, 0 ≤ p → p < ls.sum → ∃ l, ls[spotN ls p]? = some l ∧ (ls.take (spotN ls p)).sum ≤ p ∧ p < (ls.take (spotN ls p)).sum + l := by
  induction ls with
  | nil => intro p h0 h1; simp at h1; omega
  | cons a r ih =>
    intro p h0 h1
    unfold spotN
    by_cases c : a ≤ p
    · rw [if_pos c]
      rw [List.sum_cons] at h1
      obtain ⟨l, e, q1, q2⟩ := ih (fun l hl => h l (by simp [hl])) (p - a) (by omega) (by omega)
      refine ⟨l, by simpa using e, ?_, ?_⟩
      · rw [List.take_succ_cons, List.sum_cons]; omega
      · rw [List.take_succ_cons, List.sum_cons]; omega
    · rw [if_neg c]
      have := h a (by simp)
      exact ⟨a, by simp, by simp; omega, by simp; omega⟩
theorem take_next {ls : List Int} {i : Nat} {l : Int} (e : ls[i]? = some l) : (ls.take (i + 1)).sum = (ls.take i).sum + l := by
  rw [List.take_add_one, e]
  simp
theorem take_nn {ls : List Int} (h : ∀ l ∈ ls, 1 ≤ l) (i : Nat) : 0 ≤ (ls.take i).sum := by
  have := sum_pos (ls := ls.take i) fun l hl => h l (List.mem_of_mem_take hl)
  omega
theorem take_le {ls : List Int} (h : ∀ l ∈ ls, 1 ≤ l) {i j : Nat} (hij : i ≤ j) : (ls.take i).sum ≤ (ls.take j).sum := by
  have e : ls.take j = ls.take i ++ (ls.drop i).take (j - i) := by
    rw [← List.take_add]
    congr 1
    omega
  rw [e, List.sum_append]
  have := sum_pos (ls := (ls.drop i).take (j - i)) fun l hl => h l (List.mem_of_mem_drop (List.mem_of_mem_take hl))
  omega
theorem take_all {ls : List Int} (h : ∀ l ∈ ls, 1 ≤ l) {i : Nat} {l : Int} (e : ls[i]? = some l) : (ls.take i).sum + l ≤ ls.sum := by
  rw [← take_next e]
  have h1 := take_le h (i := i + 1) (j := ls.length) (by have := (List.getElem?_eq_some_iff.mp e).1; omega)
  rwa [List.take_length] at h1
theorem lt_of_idx {ls : List Int} {i : Nat} {l : Int} (e : ls[i]? = some l) : i < ls.length := (List.getElem?_eq_some_iff.mp e).1
theorem div_of {d k T p : Int} (h : 0 < T) (e : d = k * T + p) (h0 : 0 ≤ p) (h1 : p < T) : d / T = k ∧ d % T = p := by
  subst e
  constructor
  · rw [Int.add_comm, Int.add_mul_ediv_right _ _ (by omega), Int.ediv_eq_zero_of_lt h0 h1]; omega
  · rw [Int.add_comm, Int.add_mul_emod_self_right, Int.emod_eq_of_lt h0 h1]
theorem at_day {ls : List Int} (o : OkL ls) (d : Int) : At ls d (blkD ls d) (fstD ls d) (lenD ls d) := by
  have T := o.sum
  obtain ⟨l, e, q1, q2⟩ := spot_run o.pos (d % ls.sum) (Int.emod_nonneg _ (by omega)) (Int.emod_lt_of_pos _ T)
  have hl : lenD ls d = l := by
    unfold lenD ixD
    rw [List.getD_eq_getElem?_getD, e]
    rfl
  have hd : d = d / ls.sum * ls.sum + d % ls.sum := by
    have := Int.mul_ediv_add_emod d ls.sum
    rw [Int.mul_comm] at this
    omega
  unfold At
  rw [hl]
  unfold fstD plcD ixD
  refine ⟨by omega, by omega, d / ls.sum, spotN ls (d % ls.sum), rfl, e, by omega⟩
theorem at_eq {ls : List Int} (o : OkL ls) {d b f l b' f' l' : Int} (h : At ls d b f l) (h' : At ls d b' f' l') : b = b' ∧ f = f' ∧ l = l' := by
  have T := o.sum
  obtain ⟨h1, h2, k, i, rfl, e, rfl⟩ := h
  obtain ⟨h1', h2', k', i', rfl, e', rfl⟩ := h'
  have n1 := take_nn o.pos i
  have n2 := take_nn o.pos i'
  have a1 := take_all o.pos e
  have a2 := take_all o.pos e'
  have z1 := (div_of (d := d) (k := k) (p := d - k * ls.sum) T (by omega) (by omega) (by omega)).1
  have z2 := (div_of (d := d) (k := k') (p := d - k' * ls.sum) T (by omega) (by omega) (by omega)).1
  obtain rfl : k = k' := z1.symm.trans z2
  have hi : i = i' := by
    rcases Nat.lt_trichotomy i i' with c | c | c
    · have := take_le o.pos (i := i + 1) (j := i') c
      rw [take_next e] at this
      omega
    · exact c
    · have := take_le o.pos (i := i' + 1) (j := i) c
      rw [take_next e'] at this
      omega
  subst hi
  rw [e] at e'
  cases e'
  exact ⟨rfl, rfl, rfl⟩
theorem at_is {ls : List Int} (o : OkL ls) {d b f l : Int} (h : At ls d b f l) : blkD ls d = b ∧ fstD ls d = f ∧ lenD ls d = l := at_eq o (at_day o d) h
theorem day_range {ls : List Int} (o : OkL ls) (d : Int) : fstD ls d ≤ d ∧ d < fstD ls d + lenD ls d := ⟨(at_day o d).1, (at_day o d).2.1⟩
/-- the day ahead of the first day of a block is the last one of the block with the number ahead -/
theorem at_begin {ls : List Int} (o : OkL ls) {d : Int} (h : fstD ls d = d) : blkD ls d = blkD ls (d - 1) + 1 ∧ fstD ls (d - 1) + lenD ls (d - 1) = d := by
  have T := o.sum
  have A := at_day o d
  rw [h] at A
  obtain ⟨h1, h2, k, i, eb, e, ef⟩ := A
  have key : ∃ f l, At ls (d - 1) (blkD ls d - 1) f l ∧ f + l = d := by
    cases i with
    | zero =>
      have hn := o.ne
      obtain ⟨l, el⟩ : ∃ l, ls[ls.length - 1]? = some l := ⟨_, List.getElem?_eq_getElem (by omega)⟩
      have hs : (ls.take (ls.length - 1)).sum + l = ls.sum := by
        rw [← take_next el, Nat.sub_add_cancel hn, List.take_length]
      have hl := o.pos l (List.mem_of_getElem? el)
      have hk : (k - 1) * ls.sum = k * ls.sum - ls.sum := by rw [Int.sub_mul, Int.one_mul]
      have hk2 : (k - 1) * (ls.length : Int) = k * ls.length - ls.length := by rw [Int.sub_mul, Int.one_mul]
      simp at ef
      refine ⟨(k - 1) * ls.sum + (ls.take (ls.length - 1)).sum, l, ⟨by omega, by omega, k - 1, ls.length - 1, by rw [eb, hk2]; push_cast; omega, el, rfl⟩, by omega⟩
    | succ j =>
      obtain ⟨l, el⟩ : ∃ l, ls[j]? = some l := ⟨_, List.getElem?_eq_getElem (by have := lt_of_idx e; omega)⟩
      have hl := o.pos l (List.mem_of_getElem? el)
      rw [take_next el] at ef
      refine ⟨k * ls.sum + (ls.take j).sum, l, ⟨by omega, by omega, k, j, by rw [eb]; push_cast; omega, el, rfl⟩, by omega⟩
  obtain ⟨f, l, A', e'⟩ := key
  obtain ⟨r1, r2, r3⟩ := at_is o A'
  rw [r1, r2, r3]
  exact ⟨by omega, e'⟩
/-- otherwise both are of one block -/
theorem at_within {ls : List Int} (o : OkL ls) {d : Int} (h : fstD ls d ≠ d) : blkD ls d = blkD ls (d - 1) ∧ fstD ls d = fstD ls (d - 1) := by
  have A := at_day o d
  obtain ⟨h1, h2, z⟩ := A
  obtain ⟨r1, r2, r3⟩ := at_is o (d := d - 1) (show At ls (d - 1) _ _ _ from ⟨by omega, by omega, z⟩)
  exact ⟨r1.symm, r2.symm⟩
/-- moved by whole turns -/
theorem at_moved {ls : List Int} (o : OkL ls) (d t : Int) : blkD ls (d + t * ls.sum) = blkD ls d + t * ls.length ∧ fstD ls (d + t * ls.sum) = fstD ls d + t * ls.sum ∧ lenD ls (d + t * ls.sum) = lenD ls d := by
  obtain ⟨h1, h2, k, i, eb, e, ef⟩ := at_day o d
  refine at_is o ⟨by omega, by omega, k + t, i, ?_, e, ?_⟩
  · rw [Int.add_mul]; omega
  · rw [Int.add_mul]; omega
/-- the walk through the lengths -/
theorem spot_step {ls : List Int} (o : OkL ls) {d : Int} {i : Nat} {l : Int} (hi : i ≤ ixD ls d) (e : ls[i]? = some l) : (l ≤ d % ls.sum - (ls.take i).sum ↔ i < ixD ls d) := by
  have T := o.sum
  obtain ⟨m, em, q1, q2⟩ := spot_run o.pos (d % ls.sum) (Int.emod_nonneg _ (by omega)) (Int.emod_lt_of_pos _ T)
  constructor
  · intro h
    rcases Nat.lt_or_ge i (ixD ls d) with c | c
    · exact c
    · have z : i = ixD ls d := by omega
      rw [z] at e h
      have em' : ls[ixD ls d]? = some m := em
      rw [e] at em'
      cases em'
      have q2' : d % ls.sum < (ls.take (ixD ls d)).sum + l := q2
      omega
  · intro h
    have h1 := take_le o.pos (i := i + 1) (j := ixD ls d) h
    rw [take_next e] at h1
    have q1' : (ls.take (ixD ls d)).sum ≤ d % ls.sum := q1
    omega
theorem ix_lt {ls : List Int} (o : OkL ls) (d : Int) : ixD ls d < ls.length ∧ ls[ixD ls d]? = some (lenD ls d) := by
  have T := o.sum
  obtain ⟨m, em, q1, q2⟩ := spot_run o.pos (d % ls.sum) (Int.emod_nonneg _ (by omega)) (Int.emod_lt_of_pos _ T)
  have em' : ls[ixD ls d]? = some m := em
  have hl : lenD ls d = m := by
    unfold lenD
    rw [List.getD_eq_getElem?_getD, em']
    rfl
  exact ⟨lt_of_idx em', by rw [hl]; exact em'⟩
end My
set_option linter.all false
namespace My
def lstD (ls : List Int) (d : Int) : Int := fstD ls d + lenD ls d - 1
def rgI (a b : Int) : List Int := (List.range (b - a).toNat).map fun i => a + (i : Nat)
def pickI (a b p : Int) : List Int := if a + p < b then [a + p] else []
inductive Kd where
  | bk | ah | so | wh | la | sm
def srcL (k : Kd) (n : Int) (ls : List Int) (d : Int) : List Int :=
  match k with
  | .bk => [d - n]
  | .ah => [d + n]
  | .so => rgI (fstD ls d) (d + 1)
  | .wh => rgI (fstD ls (fstD ls d - 1)) (fstD ls d - 1 + 1)
  | .la => [fstD ls d - 1]
  | .sm => pickI (fstD ls (fstD ls d - 1)) (fstD ls d - 1 + 1) (d - fstD ls d)
def usrL (k : Kd) (n : Int) (ls : List Int) (d : Int) : List Int :=
  match k with
  | .bk => [d + n]
  | .ah => [d - n]
  | .so => rgI d (lstD ls d + 1)
  | .wh => rgI (lstD ls d + 1) (lstD ls (lstD ls d + 1) + 1)
  | .la => if lstD ls d = d then rgI (lstD ls d + 1) (lstD ls (lstD ls d + 1) + 1) else []
  | .sm => pickI (lstD ls d + 1) (lstD ls (lstD ls d + 1) + 1) (d - fstD ls d)
theorem mem_rgI {a b x : Int} : x ∈ rgI a b ↔ a ≤ x ∧ x < b := by
  unfold rgI
  rw [List.mem_map]
  constructor
  · rintro ⟨i, hi, rfl⟩
    have := List.mem_range.mp hi
    omega
  · rintro ⟨h1, h2⟩
    exact ⟨(x - a).toNat, List.mem_range.mpr (by omega), by omega⟩
theorem mem_pickI {a b p x : Int} : x ∈ pickI a b p ↔ x = a + p ∧ a + p < b := by
  unfold pickI
  by_cases c : a + p < b
  · rw [if_pos c]; simp [c]
  · rw [if_neg c]; simp [c]
section
variable {ls : List Int} (o : OkL ls)
include o
theorem day_rng (d : Int) : fstD ls d ≤ d ∧ d ≤ lstD ls d := by
  obtain ⟨h1, h2⟩ := day_range o d
  unfold lstD
  omega
theorem same_blk {d e : Int} (h1 : fstD ls d ≤ e) (h2 : e ≤ lstD ls d) : fstD ls e = fstD ls d ∧ lstD ls e = lstD ls d := by
  obtain ⟨q1, q2, z⟩ := at_day o d
  unfold lstD at h2
  obtain ⟨r1, r2, r3⟩ := at_is o (d := e) (show At ls e _ _ _ from ⟨h1, by omega, z⟩)
  unfold lstD
  rw [r2, r3]
  exact ⟨rfl, rfl⟩
theorem nxt (d : Int) : fstD ls (lstD ls d + 1) = lstD ls d + 1 := by
  refine Classical.byContradiction fun h => ?_
  obtain ⟨h1, h2⟩ := day_rng o d
  have w := (at_within o h).2
  rw [show lstD ls d + 1 - 1 = lstD ls d by omega, (same_blk o (d := d) (e := lstD ls d) (by omega) (by omega)).1] at w
  obtain ⟨h3, h4⟩ := day_rng o (lstD ls d + 1)
  have q := (same_blk o (d := lstD ls d + 1) (e := d) (by omega) (by omega)).2
  omega
theorem prv (d : Int) : lstD ls (fstD ls d - 1) = fstD ls d - 1 := by
  obtain ⟨h1, h2⟩ := day_rng o d
  have q := (same_blk o (d := d) (e := fstD ls d) (by omega) (by omega)).1
  have w := (at_begin o q).2
  unfold lstD
  omega
theorem inv_wh {x y : Int} : (lstD ls x + 1 ≤ y ∧ y ≤ lstD ls (lstD ls x + 1)) ↔ (fstD ls (fstD ls y - 1) ≤ x ∧ x ≤ fstD ls y - 1) := by
  constructor
  · rintro ⟨h1, h2⟩
    have n := nxt o x
    obtain ⟨r1, r2⟩ := day_rng o x
    have q := (same_blk o (d := lstD ls x + 1) (e := y) (by omega) h2).1
    rw [n] at q
    rw [q, show lstD ls x + 1 - 1 = lstD ls x by omega, (same_blk o (d := x) (e := lstD ls x) (by omega) (by omega)).1]
    omega
  · rintro ⟨h1, h2⟩
    have p := prv o y
    have q := (same_blk o (d := fstD ls y - 1) (e := x) h1 (by omega)).2
    obtain ⟨r1, r2⟩ := day_rng o y
    have q2 := (same_blk o (d := y) (e := fstD ls y) (by omega) (by omega)).2
    rw [q, p, show fstD ls y - 1 + 1 = fstD ls y by omega, q2]
    omega
/-- a day is among the users of another one exactly if this one is among its sources -/
theorem inv_days (k : Kd) (n : Int) (x y : Int) : y ∈ usrL k n ls x ↔ x ∈ srcL k n ls y := by
  have W := inv_wh o (x := x) (y := y)
  obtain ⟨r1, r2⟩ := day_rng o x
  obtain ⟨r3, r4⟩ := day_rng o y
  cases k with
  | bk => show y ∈ [x + n] ↔ x ∈ [y - n]; rw [List.mem_singleton, List.mem_singleton]; omega
  | ah => show y ∈ [x - n] ↔ x ∈ [y + n]; rw [List.mem_singleton, List.mem_singleton]; omega
  | so =>
    show y ∈ rgI x (lstD ls x + 1) ↔ x ∈ rgI (fstD ls y) (y + 1)
    rw [mem_rgI, mem_rgI]
    constructor
    · rintro ⟨h1, h2⟩
      have q := (same_blk o (d := x) (e := y) (by omega) (by omega)).1
      omega
    · rintro ⟨h1, h2⟩
      have q := (same_blk o (d := y) (e := x) (by omega) (by omega)).2
      omega
  | wh =>
    show y ∈ rgI _ _ ↔ x ∈ rgI _ _
    rw [mem_rgI, mem_rgI]
    omega
  | la =>
    show y ∈ (if lstD ls x = x then rgI _ _ else []) ↔ x ∈ [fstD ls y - 1]
    rw [List.mem_singleton]
    constructor
    · intro h
      by_cases c : lstD ls x = x
      · rw [if_pos c, mem_rgI] at h
        have n := nxt o x
        have q := (same_blk o (d := lstD ls x + 1) (e := y) (by omega) (by omega)).1
        omega
      · rw [if_neg c] at h
        cases h
    · intro h
      have p := prv o y
      have q2 := (same_blk o (d := y) (e := fstD ls y) (by omega) (by omega)).2
      rw [← h] at p
      rw [if_pos p, mem_rgI, p, show x + 1 = fstD ls y by omega, q2]
      omega
  | sm =>
    show y ∈ pickI _ _ _ ↔ x ∈ pickI _ _ _
    rw [mem_pickI, mem_pickI]
    constructor
    · rintro ⟨h1, h2⟩
      have z := W.mp (by omega)
      have n := nxt o x
      have q := (same_blk o (d := lstD ls x + 1) (e := y) (by omega) (by omega)).1
      have e : fstD ls y - 1 = lstD ls x := by omega
      have q3 := (same_blk o (d := x) (e := lstD ls x) (by omega) (by omega)).1
      rw [e]
      omega
    · rintro ⟨h1, h2⟩
      have z := W.mpr (by omega)
      have p := prv o y
      have q := same_blk o (d := fstD ls y - 1) (e := x) (by omega) (by omega)
      omega
theorem lst_moved (d t : Int) : lstD ls (d + t * ls.sum) = lstD ls d + t * ls.sum := by
  obtain ⟨_, h2, h3⟩ := at_moved o d t
  unfold lstD
  omega
end
theorem rgI_moved (a b c : Int) : rgI (a + c) (b + c) = (rgI a b).map (· + c) := by
  unfold rgI
  rw [List.map_map, show b + c - (a + c) = b - a by omega]
  refine List.map_congr_left fun i _ => ?_
  show a + c + (i : Int) = a + (i : Int) + c
  omega
theorem pickI_moved (a b c p : Int) : pickI (a + c) (b + c) p = (pickI a b p).map (· + c) := by
  unfold pickI
  by_cases h : a + p < b
  · rw [if_pos h, if_pos (by omega)]
    show [a + c + p] = [a + p + c]
    rw [show a + c + p = a + p + c by omega]
  · rw [if_neg h, if_neg (by omega)]
    rfl
theorem src_moved {ls : List Int} (o : OkL ls) (k : Kd) (n d t : Int) : srcL k n ls (d + t * ls.sum) = (srcL k n ls d).map (· + t * ls.sum) := by
  have h1 := (at_moved o d t).2.1
  have h2 := (at_moved o (fstD ls d - 1) t).2.1
  have e0 : fstD ls d + t * ls.sum - 1 = fstD ls d - 1 + t * ls.sum := by omega
  cases k with
  | bk => show [d + t * ls.sum - n] = [d - n + t * ls.sum]; rw [show d + t * ls.sum - n = d - n + t * ls.sum by omega]
  | ah => show [d + t * ls.sum + n] = [d + n + t * ls.sum]; rw [show d + t * ls.sum + n = d + n + t * ls.sum by omega]
  | so =>
    show rgI _ _ = (rgI _ _).map _
    rw [← rgI_moved, h1]
    congr 1 <;> omega
  | wh =>
    show rgI _ _ = (rgI _ _).map _
    rw [← rgI_moved, h1, e0, h2]
    congr 1 <;> omega
  | la => show [_] = [fstD ls d - 1 + t * ls.sum]; rw [h1, e0]
  | sm =>
    show pickI _ _ _ = (pickI _ _ _).map _
    rw [← pickI_moved, h1, e0, h2]
    congr 1 <;> omega
theorem usr_moved {ls : List Int} (o : OkL ls) (k : Kd) (n d t : Int) : usrL k n ls (d + t * ls.sum) = (usrL k n ls d).map (· + t * ls.sum) := by
  have h1 := (at_moved o d t).2.1
  have h2 := lst_moved o d t
  have h3 := lst_moved o (lstD ls d + 1) t
  have e0 : lstD ls d + t * ls.sum + 1 = lstD ls d + 1 + t * ls.sum := by omega
  have wh : rgI (lstD ls (d + t * ls.sum) + 1) (lstD ls (lstD ls (d + t * ls.sum) + 1) + 1) = (rgI (lstD ls d + 1) (lstD ls (lstD ls d + 1) + 1)).map (· + t * ls.sum) := by
    rw [← rgI_moved, h2, e0, h3]
    congr 1 <;> omega
  cases k with
  | bk => show [d + t * ls.sum + n] = [d + n + t * ls.sum]; rw [show d + t * ls.sum + n = d + n + t * ls.sum by omega]
  | ah => show [d + t * ls.sum - n] = [d - n + t * ls.sum]; rw [show d + t * ls.sum - n = d - n + t * ls.sum by omega]
  | so =>
    show rgI _ _ = (rgI _ _).map _
    rw [← rgI_moved, h2]
    congr 1 <;> omega
  | wh => exact wh
  | la =>
    show (if _ then _ else _) = List.map _ (if _ then _ else _)
    by_cases c : lstD ls d = d
    · rw [if_pos c, if_pos (by rw [h2]; omega)]
      exact wh
    · rw [if_neg c, if_neg (by rw [h2]; omega)]
      rfl
  | sm =>
    show pickI _ _ _ = (pickI _ _ _).map _
    rw [← pickI_moved, h1, h2, e0, h3]
    congr 1 <;> omega
/-- ascending -/
def Asc (xs : List Int) : Prop := ∀ (i : Nat) (a b : Int), xs[i]? = some a → xs[i + 1]? = some b → a < b
theorem asc_nil : Asc [] := fun i a b h => by simp at h
theorem asc_one (x : Int) : Asc [x] := fun i a b _ h => by simp at h
theorem asc_rgI (a b : Int) : Asc (rgI a b) := fun i x y h1 h2 => by
  unfold rgI at h1 h2
  rw [List.getElem?_map] at h1 h2
  obtain ⟨u, e1, rfl⟩ := Option.map_eq_some_iff.mp h1
  obtain ⟨v, e2, rfl⟩ := Option.map_eq_some_iff.mp h2
  have f1 := (List.getElem?_eq_some_iff.mp e1).2
  have f2 := (List.getElem?_eq_some_iff.mp e2).2
  rw [List.getElem_range] at f1 f2
  omega
theorem asc_pickI (a b p : Int) : Asc (pickI a b p) := by
  unfold pickI
  split
  · exact asc_one _
  · exact asc_nil
theorem asc_src (k : Kd) (n : Int) (ls : List Int) (d : Int) : Asc (srcL k n ls d) := by
  cases k with
  | bk => exact asc_one _
  | ah => exact asc_one _
  | so => exact asc_rgI _ _
  | wh => exact asc_rgI _ _
  | la => exact asc_one _
  | sm => exact asc_pickI _ _ _
theorem asc_usr (k : Kd) (n : Int) (ls : List Int) (d : Int) : Asc (usrL k n ls d) := by
  cases k with
  | bk => exact asc_one _
  | ah => exact asc_one _
  | so => exact asc_rgI _ _
  | wh => exact asc_rgI _ _
  | la =>
    show Asc (if _ then _ else _)
    split
    · exact asc_rgI _ _
    · exact asc_nil
  | sm => exact asc_pickI _ _ _
theorem rgI_len (a b : Int) : (rgI a b).length = (b - a).toNat := by unfold rgI; rw [List.length_map, List.length_range]
/-- how many they are -/
theorem len_src {ls : List Int} (o : OkL ls) (hs : ls.sum ≤ 60) (hl : ∀ d, lenD ls d ≤ 60) (k : Kd) (n d : Int) : (srcL k n ls d).length ≤ 60 := by
  obtain ⟨h1, h2⟩ := day_rng o d
  have q1 := hl d
  have p := prv o d
  have q2 := hl (fstD ls d - 1)
  unfold lstD at h2 p
  cases k with
  | bk => exact Nat.le_of_ble_eq_true rfl
  | ah => exact Nat.le_of_ble_eq_true rfl
  | so => show (rgI _ _).length ≤ 60; rw [rgI_len]; omega
  | wh => show (rgI _ _).length ≤ 60; rw [rgI_len]; omega
  | la => exact Nat.le_of_ble_eq_true rfl
  | sm =>
    show (pickI _ _ _).length ≤ 60
    unfold pickI
    split
    · exact Nat.le_of_ble_eq_true rfl
    · exact Nat.zero_le _
theorem len_usr {ls : List Int} (o : OkL ls) (hs : ls.sum ≤ 60) (hl : ∀ d, lenD ls d ≤ 60) (k : Kd) (n d : Int) : (usrL k n ls d).length ≤ 60 := by
  obtain ⟨h1, h2⟩ := day_rng o d
  have q1 := hl d
  have p := nxt o d
  have q2 := hl (lstD ls d + 1)
  have e : lstD ls (lstD ls d + 1) = fstD ls (lstD ls d + 1) + lenD ls (lstD ls d + 1) - 1 := rfl
  have e2 : lstD ls d = fstD ls d + lenD ls d - 1 := rfl
  cases k with
  | bk => exact Nat.le_of_ble_eq_true rfl
  | ah => exact Nat.le_of_ble_eq_true rfl
  | so => show (rgI _ _).length ≤ 60; rw [rgI_len]; omega
  | wh => show (rgI _ _).length ≤ 60; rw [rgI_len]; omega
  | la =>
    show List.length (if _ then _ else _) ≤ 60
    split
    · rw [rgI_len]; omega
    · exact Nat.zero_le _
  | sm =>
    show (pickI _ _ _).length ≤ 60
    unfold pickI
    split
    · exact Nat.le_of_ble_eq_true rfl
    · exact Nat.zero_le _
end My
set_option Elab.async false
set_option linter.all false
set_option maxRecDepth 100000
set_option maxHeartbeats 4000000
namespace My
open PySem PySem.Spec PyProof.Rows L2
def top (i : Nat) : Stmt := PySem.Challenge.pw_remadedays_k19_whole_users_of_ties.main.body.getD i (.Pass ⟨0, 0, 0, 0⟩)
abbrev sWhole : Stmt := top 11
abbrev sBetw : Stmt := top 12
abbrev sDay : Stmt := top 13
abbrev sChk : Stmt := top 38
abbrev sCyc : Stmt := top 37
abbrev sInit : Stmt := inClass sCyc 0
abbrev sOf : Stmt := inClass sCyc 1
abbrev sTotal : Stmt := inClass sCyc 4
abbrev sFirst : Stmt := inClass sCyc 10
abbrev sLast : Stmt := inClass sCyc 11
abbrev sSpot : Stmt := inClass sCyc 18
abbrev sEnds : Stmt := inClass sCyc 19
theorem lt_ne : ¬ (("_lengths" : Str) = "_total") := by decide +kernel
def flds (t : Addr) (n : Int) : List (Str × V) := putF "_total" (.int n) (putF "_lengths" (.ref t) [])
theorem flds_l (t : Addr) (n : Int) : (flds t n).lookup ("_lengths" : Str) = some (.ref t) := by
  unfold flds
  rw [lookup_putF, if_neg lt_ne, lookup_putF, if_pos rfl]
theorem flds_t (t : Addr) (n : Int) : (flds t n).lookup ("_total" : Str) = some (.int n) := by
  unfold flds
  rw [lookup_putF, if_pos rfl]
theorem flds_no (t : Addr) (n : Int) {m : Str} (h1 : ¬ m = "_total") (h2 : ¬ m = "_lengths") : (flds t n).lookup m = none := by
  unfold flds
  rw [lookup_putF, if_neg h1, lookup_putF, if_neg h2]
  all_goals rfl
/-- lengths that a cycle may have -/
structure Good (ls : List Int) : Prop where
  pos : ∀ l ∈ ls, 1 ≤ l ∧ l ≤ 60
  ne : 0 < ls.length
  few : ls.length ≤ 12
  sum : ls.sum ≤ 60
theorem Good.ok {ls : List Int} (g : Good ls) : OkL ls := ⟨g.ne, fun l hl => (g.pos l hl).1⟩
/-- a Cycle of these lengths stands at p -/
structure CycAt (C : Addr) (H : Hp) (p : Addr) (ls : List Int) : Prop where
  ob : ∃ dx t, H p = some (.ins C dx (flds t ls.sum)) ∧ H t = some (.tup (ls.map V.int))
  ok : Good ls
theorem CycAt.same {C : Addr} {H H' : Hp} {p : Addr} {ls : List Int} (c : CycAt C H p ls) (s : Same H H') : CycAt C H' p ls :=
  ⟨let ⟨dx, t, h1, h2⟩ := c.ob; ⟨dx, t, s _ _ h1, s _ _ h2⟩, c.ok⟩
/-- all that was tracked but the list at p is as it was -/
def SameBut (p : Addr) (H H' : Hp) : Prop := ∀ b o, b ≠ p → H b = some o → H' b = some o
theorem Same.but {p : Addr} {H H' : Hp} (s : Same H H') : SameBut p H H' := fun b o _ e => s b o e
theorem SameBut.trans {p : Addr} {H H1 H2 : Hp} (a : SameBut p H H1) (b : SameBut p H1 H2) : SameBut p H H2 := fun c o n e => b c o n (a c o n e)
theorem SameBut.refl (p : Addr) (H : Hp) : SameBut p H H := fun _ _ _ e => e
theorem CycAt.but {C : Addr} {H H' : Hp} {p q : Addr} {ls : List Int} (c : CycAt C H p ls) (s : SameBut q H H') {xs : List V} (hq : H q = some (.lst xs)) : CycAt C H' p ls :=
  ⟨let ⟨dx, t, h1, h2⟩ := c.ob; ⟨dx, t, s _ _ (ne_of h1 hq (by intro z; cases z)) h1, s _ _ (ne_of h2 hq (by intro z; cases z)) h2⟩, c.ok⟩
theorem same_new {H : Hp} {p : Addr} {o : HO} (h : H p = none) : Same H (upd H p o) := fun b q e => by
  rw [upd_ne (ne_of_none e h)]
  exact e
structure Txt (K : PySem.W.Frag) (mg : Str → Option Value) (C fWhole fBetw fDay fChk : Addr) : Prop where
  cl : Cls K C
  nL : NoAttr K C "_lengths"
  nT : NoAttr K C "_total"
  gCyc : mg "Cycle" = some (.ref C)
  gWhole : mg "is_whole" = some (.ref fWhole)
  gBetw : mg "is_between" = some (.ref fBetw)
  gDay : mg "is_day" = some (.ref fDay)
  gChk : mg "check_lengths" = some (.ref fChk)
  gBey : ∃ t, mg "BEYOND" = some (.int (10 ^ 60) t)
  gMB : ∃ t, mg "MOST_BLOCKS" = some (.int 12 t)
  gMT : ∃ t, mg "MOST_TOTAL" = some (.int 60 t)
  zIsi : mg "isinstance" = none
  zInt : mg "int" = none
  zBool : mg "bool" = none
  zEnum : mg "enumerate" = none
  zLen : mg "len" = none
  zSum : mg "sum" = none
  zList : mg "list" = none
  zTuple : mg "tuple" = none
  zRange : mg "range" = none
  zAbs : mg "abs" = none
section
variable {P : Program} {w : World} {K : PySem.W.Frag} {mg : Str → Option Value} {base : Heap} {C fWhole fBetw fDay fChk : Addr}
def spWhole (K : PySem.W.Frag) : Sp := fun vs H Q _ => ∃ (x : V) (t : String) (b1 b2 : Bool), vs = [x] ∧ TyX K H x (.type t) ∧ kitB t "int" = some b1 ∧ kitB t "bool" = some b2 ∧ Q (.bl (b1 && !b2)) H
theorem scWhole : FnScope ["value"] ["value"] (defScope sWhole) := ⟨rfl, rfl, rfl, by decide +kernel, rfl, by decide +kernel, by decide +kernel⟩
theorem ok_whole {f : Addr} {fd : FuncData} (F : Fun K "is_whole" "is_whole" sWhole f fd) (T : Txt K mg C fWhole fBetw fDay fChk) : FnOk P w K mg base CX0 1 f fd ["value"] (spWhole K) := by
  refine F.ok scWhole (fun vs H Q E h => ?_) (fun cdv A outer s H vs Q E hr h => ?_)
  · obtain ⟨x, t, b1, b2, rfl, _⟩ := h
    rfl
  · obtain ⟨x, t, b1, b2, rfl, ty, h1, h2, k⟩ := h
    refine ⟨_, pss_one (ps_ret (pe_and (pe_callB call_isi (by rfl) T.zIsi (by decide +kernel) (pa_cons (pv 0) (pa_cons (pe_bltn (v := .ty "int") (by rfl) T.zInt (by decide +kernel) rfl) pa_nil)))
      (pe_one (pe_not (pe_callB call_isi (by rfl) T.zIsi (by decide +kernel) (pa_cons (pv 0) (pa_cons (pe_bltn (v := .ty "bool") (by rfl) T.zBool (by decide +kernel) rfl) pa_nil))))))), ?_⟩
    refine ⟨_, rfl, x, .ty "int", _, _, b1, rfl, .ty "int", ty, kit_ty h1, b1, rfl, ?_⟩
    cases b1 with
    | true => exact iteT ⟨_, rfl, x, .ty "bool", _, _, b2, rfl, .ty "bool", ty, kit_ty h2, b2, rfl, k⟩
    | false => exact iteF k
/-- value, low, high: low and high ints -/
def spBetw (K : PySem.W.Frag) : Sp := fun vs H Q _ => ∃ (x : V) (t : String) (b1 b2 : Bool) (lo hi : Int), vs = [x, .int lo, .int hi] ∧ TyX K H x (.type t) ∧ kitB t "int" = some b1 ∧ kitB t "bool" = some b2 ∧
  ((b1 && !b2) = false → Q (.bl false) H) ∧ ((b1 && !b2) = true → ∃ i, x = .int i ∧ Q (.bl (decide (lo ≤ i) && decide (i ≤ hi))) H)
theorem scBetw : FnScope ["value", "low", "high"] ["value", "low", "high"] (defScope sBetw) := ⟨rfl, rfl, rfl, by decide +kernel, rfl, by decide +kernel, by decide +kernel⟩
theorem ok_betw {f : Addr} {fd fdW : FuncData} (F : Fun K "is_between" "is_between" sBetw f fd) (T : Txt K mg C fWhole fBetw fDay fChk) (FW : Fun K "is_whole" "is_whole" sWhole fWhole fdW) (bW : Binds K fdW ["value"] []) :
    FnOk P w K mg base CX0 2 f fd ["value", "low", "high"] (spBetw K) := by
  have GW : FnOk P w K mg base CX0 1 fWhole fdW ["value"] (spWhole K) := ok_whole FW T
  refine F.ok scBetw (fun vs H Q E h => ?_) (fun cdv A outer s H vs Q E hr h => ?_)
  · obtain ⟨x, t, b1, b2, lo, hi, rfl, _⟩ := h
    rfl
  · obtain ⟨x, t, b1, b2, lo, hi, rfl, ty, h1, h2, k0, k1⟩ := h
    refine ⟨_, pss_one (ps_ret (pe_and (pe_call GW hr rfl T.gWhole FW.kp bW .nil pass0 (pa_cons (pv 0) pa_nil)) (pe_one (pe_chain op_le op_le (pv 1) (pv 0) (pv 2))))), ?_⟩
    refine ⟨_, rfl, x, t, b1, b2, rfl, ty, h1, h2, _, rfl, ?_⟩
    cases e : (b1 && !b2) with
    | false => exact iteF (k0 e)
    | true =>
      obtain ⟨i, rfl, k⟩ := k1 e
      refine iteT ⟨_, rfl, _, rfl, _, _, rfl, rfl, _, rfl, ?_⟩
      by_cases c : lo ≤ i
      · rw [decide_eq_true c] at k ⊢
        exact iteT ⟨_, rfl, _, _, rfl, rfl, k⟩
      · rw [decide_eq_false c] at k ⊢
        exact iteF k
/-- whether an int is a day -/
def dayB (i : Int) : Bool := decide (1 - 10 ^ 60 ≤ i) && decide (i ≤ 10 ^ 60 - 1)
def spDay (K : PySem.W.Frag) : Sp := fun vs H Q _ => ∃ (x : V) (t : String) (b1 b2 : Bool), vs = [x] ∧ TyX K H x (.type t) ∧ kitB t "int" = some b1 ∧ kitB t "bool" = some b2 ∧
  ((b1 && !b2) = false → Q (.bl false) H) ∧ ((b1 && !b2) = true → ∃ i, x = .int i ∧ Q (.bl (dayB i)) H)
theorem scDay : FnScope ["value"] ["value"] (defScope sDay) := ⟨rfl, rfl, rfl, by decide +kernel, rfl, by decide +kernel, by decide +kernel⟩
theorem ok_day {f : Addr} {fd fdW fdB : FuncData} (F : Fun K "is_day" "is_day" sDay f fd) (T : Txt K mg C fWhole fBetw fDay fChk) (FW : Fun K "is_whole" "is_whole" sWhole fWhole fdW) (bW : Binds K fdW ["value"] [])
    (FB : Fun K "is_between" "is_between" sBetw fBetw fdB) (bB : Binds K fdB ["value", "low", "high"] []) : FnOk P w K mg base CX0 3 f fd ["value"] (spDay K) := by
  have GB : FnOk P w K mg base CX0 2 fBetw fdB ["value", "low", "high"] (spBetw K) := ok_betw FB T FW bW
  obtain ⟨tb, gb⟩ := T.gBey
  refine F.ok scDay (fun vs H Q E h => ?_) (fun cdv A outer s H vs Q E hr h => ?_)
  · obtain ⟨x, t, b1, b2, rfl, _⟩ := h
    rfl
  · obtain ⟨x, t, b1, b2, rfl, ty, h1, h2, k0, k1⟩ := h
    refine ⟨_, pss_one (ps_ret (pe_call GB hr rfl T.gBetw FB.kp bB .nil pass0 (pa_cons (pv 0) (pa_cons (pe_op op_sub pe_int (pe_glob (v := .int (10 ^ 60)) rfl gb ⟨_, rfl⟩)) (pa_cons (pe_op op_sub (pe_glob (v := .int (10 ^ 60)) rfl gb ⟨_, rfl⟩) pe_int) pa_nil))))), ?_⟩
    exact ⟨_, rfl, _, _, rfl, rfl, _, _, rfl, rfl, x, t, b1, b2, _, _, rfl, ty, h1, h2, k0, k1⟩
theorem kii : kitB "int" "int" = some true := by decide +kernel
theorem kib : kitB "int" "bool" = some false := by decide +kernel
theorem tnf0 {A : Prop} (h : (true && !false) = false) : A := by cases h
def spChk : Sp := fun vs H Q _ => ∃ (t : Addr) (ls : List Int), vs = [.ref t] ∧ H t = some (.tup (ls.map V.int)) ∧ Good ls ∧ ∀ H', Same H H' → Q .non H'
theorem scChk : FnScope ["lengths", "at", "length"] ["lengths"] (defScope sChk) := ⟨rfl, rfl, rfl, by decide +kernel, rfl, by decide +kernel, by decide +kernel⟩
theorem ok_chk {f : Addr} {fd fdW fdB : FuncData} (F : Fun K "check_lengths" "check_lengths" sChk f fd) (T : Txt K mg C fWhole fBetw fDay fChk) (FW : Fun K "is_whole" "is_whole" sWhole fWhole fdW) (bW : Binds K fdW ["value"] [])
    (FB : Fun K "is_between" "is_between" sBetw fBetw fdB) (bB : Binds K fdB ["value", "low", "high"] []) : FnOk P w K mg base CX0 3 f fd ["lengths"] spChk := by
  have GB : FnOk P w K mg base CX0 2 fBetw fdB ["value", "low", "high"] (spBetw K) := ok_betw FB T FW bW
  obtain ⟨tb, gb⟩ := T.gMB
  obtain ⟨tt, gt⟩ := T.gMT
  refine F.ok scChk (fun vs H Q E h => ?_) (fun cdv A outer s H vs Q E hr h => ?_)
  · obtain ⟨t, ls, rfl, _⟩ := h
    rfl
  · obtain ⟨t, ls, rfl, ht, g, k⟩ := h
    refine ⟨_, pss_cons (ps_for PassesOwn.never rfl (pi_enumT (by rfl) T.zEnum (pa_cons (pv 0) pa_nil)) (pg_tup rfl (pgs_cons (pg_name (i := 1) scChk.nd rfl (.inl rfl)) (pgs_cons (pg_name (i := 2) scChk.nd rfl (.inl rfl)) pgs_nil)))
        (pss_one (ps_if (pt_not (pt_val (pe_call GB hr rfl T.gBetw FB.kp bB .nil pass0 (pa_cons (pv 2) (pa_cons pe_int (pa_cons (pe_glob (v := .int 60) rfl gt ⟨_, rfl⟩) pa_nil)))))) pss_never pss_nil)))
      (pss_cons (ps_if (pt_not (pt_truth (pv 0) (by intro _; rfl))) pss_never pss_nil)
      (pss_cons (ps_if (pt_cmpR op_gt (pe_callB call_len_seq (by rfl) T.zLen PySem.boot_len (pa_cons (pv 0) pa_nil)) (pe_glob (v := .int 12) rfl gb ⟨_, rfl⟩) (nomark _)) pss_never pss_nil)
      (pss_one (ps_if (pt_cmpR op_gt (pe_callB (cr_sumT rfl) (by rfl) T.zSum (by decide +kernel) (pa_cons (pv 0) pa_nil)) (pe_glob (v := .int 60) rfl gt ⟨_, rfl⟩) (nomark _)) pss_never pss_nil)))), ?_⟩
    refine ⟨_, rfl, t, ls.map V.int, rfl, SqT.of ht, for_enumT (K := K) (a := t) (xs := ls.map V.int) (fun i σ H' => ∃ (u v : Option V), σ = [some (.ref t), u, v] ∧ Same H H')
      ⟨none, none, rfl, Same.refl H⟩ (fun i σ H' _ ⟨_, _, _, s1⟩ => SqT.of (s1 _ _ ht)) ?_ ?_⟩
    · rintro i x σ H' Tn hi ⟨u, v, rfl, s1⟩ hT
      obtain ⟨z, hz, rfl⟩ : ∃ z, ls[i]? = some z ∧ x = V.int z := by
        rw [List.getElem?_map] at hi
        cases e : ls[i]? with
        | none => rw [e] at hi; cases hi
        | some z => rw [e] at hi; exact ⟨z, rfl, (Option.some.inj hi).symm⟩
      have hg := g.pos z (List.mem_of_getElem? hz)
      refine ⟨Tn, _, rfl, SqT.of upd_same, rfl, _, _, rfl, _, _, rfl, rfl, ?_⟩
      refine ⟨_, rfl, V.int z, "int", true, false, 1, 60, rfl, .base (.int z), kii, kib, (fun q => tnf0 q), fun _ => ⟨z, rfl, ?_⟩⟩
      refine ⟨_, rfl, ?_⟩
      rw [decide_eq_true hg.1, decide_eq_true hg.2]
      exact iteF ⟨_, _, rfl, s1.trans (same_new hT)⟩
    · rintro σ H' ⟨u, v, rfl, s1⟩
      have ht' := s1 _ _ ht
      refine ⟨_, rfl, _, .inr (.inl ⟨_, SqT.of ht', rfl⟩), ?_⟩
      have e1 : (ls.map V.int).isEmpty = false := by
        have := g.ne
        cases ls with
        | nil => simp at this
        | cons a r => rfl
      rw [e1]
      refine iteF ?_
      refine ⟨_, rfl, t, _, rfl, .inr (SqT.of ht'), _, _, rfl, rfl, _, rfl, ?_⟩
      rw [List.length_map, decide_eq_false (by have := g.few; omega)]
      refine iteF ?_
      refine ⟨_, rfl, t, ls, rfl, SqT.of ht', _, _, rfl, rfl, _, rfl, ?_⟩
      rw [decide_eq_false (by have := g.sum; omega)]
      exact iteF (k _ s1)
end
end My
namespace My
open PySem PySem.Spec PyProof.Rows L2
section
variable {P : Program} {w : World} {K : PySem.W.Frag} {mg : Str → Option Value} {base : Heap} {C fWhole fBetw fDay fChk : Addr}
def spInitB (C : Addr) : Sp := fun vs H Q _ => ∃ (p t dx : Addr) (ls : List Int), vs = [.ref p, .ref t] ∧ H p = some (.ins C dx []) ∧ H t = some (.tup (ls.map V.int)) ∧ Good ls ∧
  ∀ H', (∀ b o, H b = some o → b ≠ p → H' b = some o) → H' p = some (.ins C dx (flds t ls.sum)) → Q .non H'
theorem scInit : FnScope ["self", "lengths"] ((["self"] : List Str) ++ (["lengths"] : List Str)) (defScope sInit) := ⟨rfl, rfl, rfl, by decide +kernel, rfl, by decide +kernel, by decide +kernel⟩
theorem ok_init {f : Addr} {fd fdW fdB fdC : FuncData} (F : Fun K "__init__" "Cycle.__init__" sInit f fd) (T : Txt K mg C fWhole fBetw fDay fChk) (FW : Fun K "is_whole" "is_whole" sWhole fWhole fdW) (bW : Binds K fdW ["value"] [])
    (FB : Fun K "is_between" "is_between" sBetw fBetw fdB) (bB : Binds K fdB ["value", "low", "high"] []) (FC : Fun K "check_lengths" "check_lengths" sChk fChk fdC) (bC : Binds K fdC ["lengths"] []) :
    FnR P w K mg base CX0 4 f (fun vs H Q E => ∃ ws rest, vs = ws ++ rest ∧ ws.length = (["self"] : List Str).length ∧ rest.length ≤ sizeLine ∧ ∀ p, H p = none → spInitB C (ws ++ [V.ref p]) (upd H p (.tup rest)) Q E) := by
  have GC : FnOk P w K mg base CX0 3 fChk fdC ["lengths"] spChk := ok_chk FC T FW bW FB bB
  obtain ⟨oc, od, kV, doc, pm, an, cdv, ct, osl, rfl, lk, hcd⟩ := F.ex
  refine StX.fn_star lk hcd scInit StX.cxUp_none (StX.bind_star1 (B := fun us => bindArgs (PySem.W.fnOf "__init__" "Cycle.__init__" (defArgs sInit) (defBody sInit) (defScope sInit) .none kV doc pm an cdv ct) ⟨us, []⟩) (p1 := "self") (pv := "lengths") (fun a => by rfl) fun a r rs => by rfl) fun A outer s H vs Q E hr h => ?_
  obtain ⟨p, t, dx, ls, rfl, hp, ht, g, k⟩ := h
  have nt : t ≠ p := ne_of ht hp (by intro z; cases z)
  refine ⟨_, PSs.nox (pss_cons (ps_expr (pe_call GC hr rfl T.gChk FC.kp bC .nil pass0 (pa_cons (pv 1) pa_nil))) (pss_cons (ps_fld (pv 0) (pv 1) rfl)
    (pss_one (ps_fld (pv 0) (pe_callB (cr_sumT rfl) (by rfl) T.zSum (by decide +kernel) (pa_cons (pv 1) pa_nil)) rfl)))), ?_⟩
  refine ⟨_, rfl, t, ls, rfl, ht, g, fun H1 s1 => ?_⟩
  refine ⟨_, rfl, _, rfl, p, C, dx, _, rfl, s1 _ _ hp, T.cl, T.nL, (by show 0 < 1000; decide), ?_⟩
  refine ⟨_, rfl, t, ls, rfl, SqT.of (by rw [upd_ne nt]; exact s1 _ _ ht), _, rfl, p, C, dx, _, rfl, upd_same, T.cl, T.nT, (by show 1 < 1000; decide), ?_⟩
  refine k _ (fun b o e hb => ?_) upd_same
  rw [upd_ne hb, upd_ne hb]
  exact s1 _ _ e
theorem ty_list {K : PySem.W.Frag} {H : Hp} {a : Addr} {xs : List V} (h : SqL K H a xs) : TyX K H (.ref a) (.type "list") := by
  rcases h with (h | ⟨o, h⟩) | ⟨o, its, n, hk, hc, _⟩
  · exact .base (.lst h)
  · exact .base (.frz h)
  · exact .kList hk hc
/-- Cycle.of(lengths) -/
def spOf (K : PySem.W.Frag) (C : Addr) : Sp := fun vs H Q _ => ∃ (a : Addr) (ls : List Int), vs = [.ref C, .ref a] ∧ SqL K H a (ls.map V.int) ∧ Good ls ∧ ∀ x H', Same H H' → H x = none → CycAt C H' x ls → Q (.ref x) H'
theorem scOf : FnScope ["cls", "lengths"] ["cls", "lengths"] (defScope sOf) := ⟨rfl, rfl, rfl, by decide +kernel, rfl, by decide +kernel, by decide +kernel⟩
theorem ok_of {f fI : Addr} {fd fdI fdW fdB fdC : FuncData} (F : Fun K "of" "Cycle.of" sOf f fd) (T : Txt K mg C fWhole fBetw fDay fChk) (M : Mk K C fI) (FI : Fun K "__init__" "Cycle.__init__" sInit fI fdI) (FW : Fun K "is_whole" "is_whole" sWhole fWhole fdW) (bW : Binds K fdW ["value"] [])
    (FB : Fun K "is_between" "is_between" sBetw fBetw fdB) (bB : Binds K fdB ["value", "low", "high"] []) (FC : Fun K "check_lengths" "check_lengths" sChk fChk fdC) (bC : Binds K fdC ["lengths"] []) : FnOk P w K mg base CX0 6 f fd ["cls", "lengths"] (spOf K C) := by
  have GI : FnR P w K mg base CX0 4 fI _ := ok_init (C := C) FI T FW bW FB bB FC bC
  refine F.ok scOf (fun vs H Q E h => ?_) (fun cdv A outer s H vs Q E hr h => ?_)
  · obtain ⟨a, ls, rfl, _⟩ := h
    rfl
  · obtain ⟨a, ls, rfl, ha, g, k⟩ := h
    refine ⟨_, pss_cons (ps_if (pt_not (pt_val (pe_callB call_isiT (by rfl) T.zIsi (by decide +kernel) (pa_cons (pv 1) (pa_cons (pe_tup (pa_cons (pe_bltn (v := .ty "list") (by rfl) T.zList (by decide +kernel) rfl) (pa_cons (pe_bltn (v := .ty "tuple") (by rfl) T.zTuple (by decide +kernel) rfl) pa_nil))) pa_nil))))) pss_never pss_nil)
      (pss_one (ps_ret (pe_makeStar (i := 0) M GI hr rfl (.inl rfl) pass0 (pv 1)))), ?_⟩
    refine ⟨_, rfl, (by show 2 ≤ sizeLine; decide), fun tp htp => ?_⟩
    have s0 : Same H (upd H tp (.tup [.ty "list", .ty "tuple"])) := same_new htp
    refine ⟨_, tp, _, _, [.type "list", .type "tuple"], true, rfl, upd_same, .cons (.ty _) (.cons (.ty _) .nil), ty_list (s0.seq ha), kitAny_cons (b := true) (kit_ty (by decide +kernel)) (fun q => nomatch q) (fun _ => rfl), _, rfl, ?_⟩
    refine iteF ?_
    refine ⟨rfl, _, rfl, a, _, rfl, .inr (s0.seq ha), fun x dx nx ndx nex => ?_⟩
    refine ⟨[.ref x], ls.map V.int, rfl, rfl, ?_, fun t nt => ?_⟩
    · rw [List.length_map]
      have := g.few
      exact Nat.le_trans this (by decide)
    have nxt : x ≠ t := fun z => by
      rw [← z, upd_same] at nt
      cases nt
    have ndt : dx ≠ t := fun z => by
      rw [← z, upd_ne nex, upd_same] at nt
      cases nt
    have s1 : Same (upd H tp (.tup [.ty "list", .ty "tuple"])) (upd (upd (upd H tp (.tup [.ty "list", .ty "tuple"])) dx (.own x)) x (.ins C dx [])) := fun b o e => by
      rw [upd_ne (ne_of_none e nx), upd_ne (ne_of_none e ndx)]
      exact e
    have hx : (upd (upd (upd (upd H tp (.tup [.ty "list", .ty "tuple"])) dx (.own x)) x (.ins C dx [])) t (.tup (ls.map V.int))) x = some (.ins C dx []) := by
      rw [upd_ne nxt, upd_same]
    refine ⟨x, t, dx, ls, rfl, hx, upd_same, g, fun H' keep hx' => ⟨rfl, ?_⟩⟩
    refine k x H' (fun b o e => ?_) (s0.free nx) ⟨⟨dx, t, hx', keep _ _ upd_same (Ne.symm nxt)⟩, g⟩
    have e1 := s1 _ _ (s0 _ _ e)
    exact keep _ _ ((same_new nt) _ _ e1) (ne_of_none (s0 _ _ e) nx)
def spGetT (C : Addr) : Sp := fun vs H Q _ => ∃ (p : Addr) (ls : List Int), vs = [.ref p] ∧ CycAt C H p ls ∧ Q (.int ls.sum) H
theorem scTotal : FnScope ["self"] ["self"] (defScope sTotal) := ⟨rfl, rfl, rfl, by decide +kernel, rfl, by decide +kernel, by decide +kernel⟩
theorem ok_total {f : Addr} {fd : FuncData} (F : Fun K "total" "Cycle.total" sTotal f fd) (T : Txt K mg C fWhole fBetw fDay fChk) : FnOk P w K mg base CX0 1 f fd ["self"] (spGetT C) := by
  refine F.ok scTotal (fun vs H Q E h => ?_) (fun cdv A outer s H vs Q E hr h => ?_)
  · obtain ⟨p, ls, rfl, _⟩ := h
    rfl
  · obtain ⟨p, ls, rfl, ⟨⟨dx, t, h1, h2⟩, g⟩, k⟩ := h
    refine ⟨_, pss_one (ps_ret (pe_fld (pv 0) rfl)), ?_⟩
    exact ⟨_, rfl, p, C, dx, _, _, rfl, h1, T.cl, T.nT, flds_t _ _, k⟩
def spSpot (C : Addr) : Sp := fun vs H Q _ => ∃ (p : Addr) (ls : List Int) (d : Int), vs = [.ref p, .int d] ∧ CycAt C H p ls ∧ ∀ t H', Same H H' → H' t = some (.tup [.int (ixD ls d), .int (plcD ls d)]) → Q (.ref t) H'
theorem scSpot : FnScope ["self", "day", "place", "index"] ["self", "day"] (defScope sSpot) := ⟨rfl, rfl, rfl, by decide +kernel, rfl, by decide +kernel, by decide +kernel⟩
theorem ok_spot {f : Addr} {fd : FuncData} (F : Fun K "spot" "Cycle.spot" sSpot f fd) (T : Txt K mg C fWhole fBetw fDay fChk) : FnOk P w K mg base CX0 1 f fd ["self", "day"] (spSpot C) := by
  refine F.ok scSpot (fun vs H Q E h => ?_) (fun cdv A outer s H vs Q E hr h => ?_)
  · obtain ⟨p, ls, d, rfl, _⟩ := h
    rfl
  · obtain ⟨p, ls, d, rfl, ⟨⟨dx, t, h1, h2⟩, g⟩, k⟩ := h
    have o := g.ok
    refine ⟨_, pss_cons (ps_set (i := 2) scSpot.nd rfl (Or.inl rfl) (pe_op op_mod (pv 1) (pe_fld (pv 0) rfl)))
      (pss_cons (ps_set (i := 3) scSpot.nd rfl (Or.inl rfl) pe_int)
      (pss_cons (ps_while PassesOwn.never (pt_cmpR op_ge (pv 2) (pe_ix ix_tup (pe_fld (pv 0) rfl) (pv 3) (fun _ _ => rfl)) (nomark _))
        (pss_cons (ps_set (i := 2) scSpot.nd rfl (Or.inl rfl) (pe_op op_sub (pv 2) (pe_ix ix_tup (pe_fld (pv 0) rfl) (pv 3) (fun _ _ => rfl))))
        (pss_one (ps_set (i := 3) scSpot.nd rfl (Or.inl rfl) (pe_op op_add (pv 3) pe_int)))))
      (pss_one (ps_ret (pe_tup (pa_cons (pv 3) (pa_cons (pv 2) pa_nil))))))), ?_⟩
    refine ⟨_, rfl, _, rfl, p, C, dx, _, _, rfl, h1, T.cl, T.nT, flds_t _ _, _, _, rfl, rfl, o.sum, ?_⟩
    refine while_by (fun σ H' => H' = H ∧ ∃ i : Nat, i ≤ ixD ls d ∧ σ = [some (.ref p), some (.int d), some (.int (d % ls.sum - (ls.take i).sum)), some (.int i)])
      (fun σ _ => match σ with | [_, _, _, some (.int i)] => (ixD ls d - i.toNat) | _ => 0) ⟨rfl, 0, Nat.zero_le _, by simp; rfl⟩ ?_ ?_
    · rintro σ H' ⟨rfl, i, hi, rfl⟩
      obtain ⟨x1, x2⟩ := ix_lt o d
      obtain ⟨l, e⟩ : ∃ l, ls[i]? = some l := ⟨_, List.getElem?_eq_getElem (by omega)⟩
      have em : (ls.map V.int)[i]? = some (V.int l) := by rw [List.getElem?_map, e]; rfl
      have st := spot_step o hi e
      refine ⟨_, rfl, _, rfl, p, C, dx, _, _, rfl, h1, T.cl, T.nL, flds_l _ _, _, rfl, t, _, _, _, rfl, rfl, SqT.of h2, atI_nat em, _, _, rfl, rfl, _, rfl, ?_⟩
      by_cases c : l ≤ d % ls.sum - (ls.take i).sum
      · have hlt := st.mp c
        rw [decide_eq_true c]
        refine iteT ?_
        refine ⟨_, rfl, _, rfl, p, C, dx, _, _, rfl, h1, T.cl, T.nL, flds_l _ _, _, rfl, t, _, _, _, rfl, rfl, SqT.of h2, atI_nat em, _, _, rfl, rfl, ?_⟩
        refine ⟨_, rfl, _, _, rfl, rfl, ⟨rfl, i + 1, hlt, ?_⟩, ?_⟩
        · rw [take_next e]
          have e1 : d % ls.sum - (ls.take i).sum - l = d % ls.sum - ((ls.take i).sum + l) := by omega
          have e2 : ((i + 1 : Nat) : Int) = (i : Int) + 1 := by omega
          rw [e2, ← e1]
          rfl
        · show ixD ls d - ((i : Int) + 1).toNat < ixD ls d - (i : Int).toNat
          omega
      · have hix : i = ixD ls d := by
          have : ¬ i < ixD ls d := fun z => c (st.mpr z)
          omega
        rw [decide_eq_false c]
        refine iteF ?_
        refine ⟨_, rfl, _, rfl, (by show 2 ≤ sizeLine; decide), fun q hq => ?_⟩
        refine k q _ (same_new hq) ?_
        rw [upd_same, hix]
        rfl
    · rintro σ H' Q1 Q2 m ⟨v2, e2, v0, e0, a, C', dx', fs, v', q1, q2, q3, q4, q5, v3, e3, pp, xs, ii, vv, r1, r2, r3, r4, x, y, z1, z2, kk, z3, z4⟩
      exact ⟨v2, e2, v0, e0, a, C', dx', fs, v', q1, q2, q3, q4, q5, v3, e3, pp, xs, ii, vv, r1, r2, r3, r4, x, y, z1, z2, kk, z3, m _ _ z4⟩
end
end My
namespace My
open PySem PySem.Spec PyProof.Rows L2
section
variable {P : Program} {w : World} {K : PySem.W.Frag} {mg : Str → Option Value} {base : Heap} {C fWhole fBetw fDay fChk fSpot fEnds : Addr} {fdS fdD : FuncData}
def spEnds (C : Addr) : Sp := fun vs H Q _ => ∃ (p : Addr) (ls : List Int) (d : Int), vs = [.ref p, .int d] ∧ CycAt C H p ls ∧ ∀ t H', Same H H' → H' t = some (.tup [.int (fstD ls d), .int (fstD ls d + lenD ls d - 1)]) → Q (.ref t) H'
theorem scEnds : FnScope ["self", "day", "index", "place"] ["self", "day"] (defScope sEnds) := ⟨rfl, rfl, rfl, by decide +kernel, rfl, by decide +kernel, by decide +kernel⟩
/-- what a method of Cycle needs of the others: spot is a method that keeps its promise -/
structure SpotM (P : Program) (w : World) (K : PySem.W.Frag) (mg : Str → Option Value) (base : Heap) (C fSpot : Addr) (fd : FuncData) : Prop where
  F : FnOk P w K mg base CX0 1 fSpot fd ["self", "day"] (spSpot C)
  b : Binds K fd ["self", "day"] []
  m : Meth K C "spot" fSpot
structure EndsM (P : Program) (w : World) (K : PySem.W.Frag) (mg : Str → Option Value) (base : Heap) (C fEnds : Addr) (fd : FuncData) : Prop where
  F : FnOk P w K mg base CX0 2 fEnds fd ["self", "day"] (spEnds C)
  b : Binds K fd ["self", "day"] []
  m : Meth K C "ends" fEnds
structure DayM (P : Program) (w : World) (K : PySem.W.Frag) (mg : Str → Option Value) (base : Heap) (fDay : Addr) (fd : FuncData) : Prop where
  F : FnOk P w K mg base CX0 3 fDay fd ["value"] (spDay K)
  b : Binds K fd ["value"] []
  kp : PySem.W.keepIn K (.ref fDay) = true
theorem ok_ends {f : Addr} {fd : FuncData} (F : Fun K "ends" "Cycle.ends" sEnds f fd) (T : Txt K mg C fWhole fBetw fDay fChk) (S : SpotM P w K mg base C fSpot fdS) : FnOk P w K mg base CX0 2 f fd ["self", "day"] (spEnds C) := by
  refine F.ok scEnds (fun vs H Q E h => ?_) (fun cdv A outer s H vs Q E hr h => ?_)
  · obtain ⟨p, ls, d, rfl, _⟩ := h
    rfl
  · obtain ⟨p, ls, d, rfl, c, k⟩ := h
    obtain ⟨dx, t, h1, h2⟩ := c.ob
    have o := c.ok.ok
    refine ⟨_, pss_cons (ps_asg (pe_meth (pv 0) T.cl S.m S.F hr S.b .nil pass0 (pa_cons (pv 1) pa_nil)) (pg_tup rfl (pgs_cons (pg_name (i := 2) scEnds.nd rfl (.inl rfl)) (pgs_cons (pg_name (i := 3) scEnds.nd rfl (.inl rfl)) pgs_nil))))
      (pss_one (ps_ret (pe_tup (pa_cons (pe_op op_sub (pv 1) (pv 3)) (pa_cons (pe_op op_sub (pe_op op_add (pe_op op_sub (pv 1) (pv 3)) (pe_ix ix_tup (pe_fld (pv 0) rfl) (pv 2) (fun _ _ => rfl))) pe_int) pa_nil))))), ?_⟩
    refine ⟨_, rfl, p, dx, _, rfl, h1, flds_no _ _ (by decide +kernel) (by decide +kernel), _, rfl, p, ls, d, rfl, c, fun q H1 s1 hq => ?_⟩
    refine ⟨q, _, rfl, SqT.of hq, rfl, _, _, rfl, _, _, rfl, rfl, ?_⟩
    obtain ⟨x1, x2⟩ := ix_lt o d
    have em : (ls.map V.int)[ixD ls d]? = some (V.int (lenD ls d)) := by rw [List.getElem?_map, x2]; rfl
    refine ⟨_, rfl, _, rfl, _, _, rfl, rfl, _, rfl, _, rfl, _, _, rfl, rfl, _, rfl, p, C, dx, _, _, rfl, s1 _ _ h1, T.cl, T.nL, flds_l _ _, _, rfl, t, _, _, _, rfl, rfl, SqT.of (s1 _ _ h2), atI_nat em, _, _, rfl, rfl, _, _, rfl, rfl, (by show 2 ≤ sizeLine; decide), fun r hr' => ?_⟩
    refine k r _ (s1.trans (same_new hr')) ?_
    rw [upd_same]
    rfl
/-- a method of a day: what it hands back of a cycle of these lengths -/
def spOfDay (C : Addr) (g : List Int → Int → Int) : Sp := fun vs H Q _ => ∃ (p : Addr) (ls : List Int) (d : Int), vs = [.ref p, .int d] ∧ CycAt C H p ls ∧ dayB d = true ∧ ∀ H', Same H H' → Q (.int (g ls d)) H'
theorem scFirst : FnScope ["self", "day"] ["self", "day"] (defScope sFirst) := ⟨rfl, rfl, rfl, by decide +kernel, rfl, by decide +kernel, by decide +kernel⟩
theorem ok_first {f : Addr} {fd : FuncData} (F : Fun K "first" "Cycle.first" sFirst f fd) (T : Txt K mg C fWhole fBetw fDay fChk) (S : EndsM P w K mg base C fEnds fdS) (D : DayM P w K mg base fDay fdD) : FnOk P w K mg base CX0 4 f fd ["self", "day"] (spOfDay C fstD) := by
  refine F.ok scFirst (fun vs H Q E h => ?_) (fun cdv A outer s H vs Q E hr h => ?_)
  · obtain ⟨p, ls, d, rfl, _⟩ := h
    rfl
  · obtain ⟨p, ls, d, rfl, c, hd, k⟩ := h
    obtain ⟨dx, t, h1, h2⟩ := c.ob
    have hr1 : Room 2 _ := hr.mono (by decide)
    refine ⟨_, pss_cons (ps_if (pt_not (pt_val (pe_call D.F hr rfl T.gDay D.kp D.b .nil pass0 (pa_cons (pv 1) pa_nil)))) pss_never pss_nil)
      (pss_one (ps_ret (pe_ix ix_tup (pe_meth (pv 0) T.cl S.m S.F hr1 S.b .nil pass0 (pa_cons (pv 1) pa_nil)) pe_int (fun _ _ => rfl)))), ?_⟩
    refine ⟨_, rfl, V.int d, "int", true, false, rfl, .base (.int d), kii, kib, (fun q => tnf0 q), fun _ => ⟨d, rfl, _, rfl, ?_⟩⟩
    rw [hd]
    refine iteF ?_
    refine ⟨_, rfl, p, dx, _, rfl, h1, flds_no _ _ (by decide +kernel) (by decide +kernel), _, rfl, p, ls, d, rfl, c, fun q H1 s1 hq => ?_⟩
    exact ⟨q, _, _, _, rfl, rfl, SqT.of hq, atI_nat (j := 0) rfl, k _ s1⟩
def lastD (ls : List Int) (d : Int) : Int := fstD ls d + lenD ls d - 1
theorem scLast : FnScope ["self", "day"] ["self", "day"] (defScope sLast) := ⟨rfl, rfl, rfl, by decide +kernel, rfl, by decide +kernel, by decide +kernel⟩
theorem ok_last {f : Addr} {fd : FuncData} (F : Fun K "last" "Cycle.last" sLast f fd) (T : Txt K mg C fWhole fBetw fDay fChk) (S : EndsM P w K mg base C fEnds fdS) (D : DayM P w K mg base fDay fdD) : FnOk P w K mg base CX0 4 f fd ["self", "day"] (spOfDay C lastD) := by
  refine F.ok scLast (fun vs H Q E h => ?_) (fun cdv A outer s H vs Q E hr h => ?_)
  · obtain ⟨p, ls, d, rfl, _⟩ := h
    rfl
  · obtain ⟨p, ls, d, rfl, c, hd, k⟩ := h
    obtain ⟨dx, t, h1, h2⟩ := c.ob
    have hr1 : Room 2 _ := hr.mono (by decide)
    refine ⟨_, pss_cons (ps_if (pt_not (pt_val (pe_call D.F hr rfl T.gDay D.kp D.b .nil pass0 (pa_cons (pv 1) pa_nil)))) pss_never pss_nil)
      (pss_one (ps_ret (pe_ix ix_tup (pe_meth (pv 0) T.cl S.m S.F hr1 S.b .nil pass0 (pa_cons (pv 1) pa_nil)) pe_int (fun _ _ => rfl)))), ?_⟩
    refine ⟨_, rfl, V.int d, "int", true, false, rfl, .base (.int d), kii, kib, (fun q => tnf0 q), fun _ => ⟨d, rfl, _, rfl, ?_⟩⟩
    rw [hd]
    refine iteF ?_
    refine ⟨_, rfl, p, dx, _, rfl, h1, flds_no _ _ (by decide +kernel) (by decide +kernel), _, rfl, p, ls, d, rfl, c, fun q H1 s1 hq => ?_⟩
    exact ⟨q, _, _, _, rfl, rfl, SqT.of hq, atI_nat (j := 1) rfl, k _ s1⟩
end
end My
namespace My
open PySem PySem.Spec PyProof.Rows L2
abbrev sPen : Stmt := top 41
abbrev sDraw : Stmt := top 42
abbrev sPick : Stmt := top 43
structure PenAt (H : Hp) (p l : Addr) (N : Int) : Prop where
  ex : ∃ (ms : List Int) (n c : Int), H p = some (.lst [.ref l, .int n, .int c]) ∧ H l = some (.lst (ms.map V.int)) ∧ ms.length ≤ 63 ∧ 0 ≤ n ∧ n ≤ N ∧ 0 ≤ c
theorem PenAt.lst {H : Hp} {p l : Addr} {N : Int} (h : PenAt H p l N) : ∃ xs, H p = some (.lst xs) := let ⟨_, _, _, e, _⟩ := h.ex; ⟨_, e⟩
theorem PenAt.same {H H' : Hp} {p l : Addr} {N : Int} (h : PenAt H p l N) (s : Same H H') : PenAt H' p l N := by
  obtain ⟨ms, n, c, e1, e2, z⟩ := h.ex
  exact ⟨ms, n, c, s _ _ e1, s _ _ e2, z⟩
theorem PenAt.le {H : Hp} {p l : Addr} {N M : Int} (h : PenAt H p l N) (z : N ≤ M) : PenAt H p l M := by
  obtain ⟨ms, n, c, e1, e2, h1, h2, h3, h4⟩ := h.ex
  exact ⟨ms, n, c, e1, e2, h1, h2, by omega, h4⟩
/-- a store to another list that was not there when the pen stood -/
theorem PenAt.upd {H H0 : Hp} {p l q : Addr} {N M : Int} {o : HO} (h : PenAt H p l N) (h0 : PenAt H0 p l M) (hq : H0 q = none) : PenAt (upd H q o) p l N := by
  obtain ⟨ms, n, c, e1, e2, z⟩ := h.ex
  obtain ⟨_, _, _, f1, f2, _⟩ := h0.ex
  exact ⟨ms, n, c, by rw [upd_ne (ne_of_none f1 hq)]; exact e1, by rw [upd_ne (ne_of_none f2 hq)]; exact e2, z⟩
theorem pen_ne {H : Hp} {p l : Addr} {ms : List Int} {n c : Int} (h1 : H p = some (.lst [.ref l, .int n, .int c])) (h2 : H l = some (.lst (ms.map V.int))) : l ≠ p := fun z => by
  subst z
  rw [h1] at h2
  have e := HO.lst.inj (Option.some.inj h2)
  cases ms with
  | nil => cases e
  | cons a r => cases e
theorem dp_ints {K : PySem.W.Frag} {H : Hp} : ∀ ns : List Int, DpAll K H (ns.map V.int) (ns.map PyData.int)
  | [] => .nil
  | a :: r => .cons (.int a) (dp_ints r)
section
variable {P : Program} {w : World} {K : PySem.W.Frag} {mg : Str → Option Value} {base : Heap} {C fWhole fBetw fDay fChk fDraw : Addr} {fdD : FuncData}
def spPen (K : PySem.W.Frag) : Sp := fun vs H Q _ => ∃ (a : Addr) (ns : List Int), vs = [.ref a] ∧ SqL K H a (ns.map V.int) ∧ ns.length ≤ 63 ∧ ∀ p l H', Same H H' → PenAt H' p l 0 → Q (.ref p) H'
theorem scPen : FnScope ["_law_script"] ["_law_script"] (defScope sPen) := ⟨rfl, rfl, rfl, by decide +kernel, rfl, by decide +kernel, by decide +kernel⟩
theorem ok_pen {f : Addr} {fd : FuncData} (F : Fun K "_law_pen" "_law_pen" sPen f fd) (T : Txt K mg C fWhole fBetw fDay fChk) : FnOk P w K mg base CX0 1 f fd ["_law_script"] (spPen K) := by
  refine F.ok scPen (fun vs H Q E h => ?_) (fun cdv A outer s H vs Q E hr h => ?_)
  · obtain ⟨a, ns, rfl, _⟩ := h
    rfl
  · obtain ⟨a, ns, rfl, ha, hl, k⟩ := h
    refine ⟨_, pss_one (ps_ret (pe_lst (pa_cons (pe_callTy call_list_of (by rfl) T.zList (by decide +kernel) (pa_cons (pe_slice sl_list (pv 0) po_none (po_some pe_int)) pa_nil)) (pa_cons pe_int (pa_cons pe_int pa_nil))))), ?_⟩
    refine ⟨_, rfl, _, rfl, a, _, rfl, ha, fun q hq => ?_⟩
    refine ⟨q, _, rfl, .inl (SqL.of upd_same), fun l hl' => ⟨(by show 3 ≤ sizeLine; decide), fun p hp => ?_⟩⟩
    refine k p l _ ((same_new hq).trans ((same_new hl').trans (same_new hp))) ?_
    obtain ⟨x, y, e⟩ : ∃ x y, cutV (ns.map V.int) none (some 63) = ((ns.drop x).take y).map V.int := ⟨HT.sIx (ns.map V.int).length 0 none, HT.sIx (ns.map V.int).length (ns.map V.int).length (some 63) - HT.sIx (ns.map V.int).length 0 none, by unfold cutV; rw [List.map_take, List.map_drop]⟩
    refine ⟨(ns.drop x).take y, 0, 0, upd_same, ?_, ?_, by omega, by omega, by omega⟩
    · rw [upd_ne (ne_of_none upd_same hp), upd_same, e]
    · rw [List.length_take, List.length_drop]; omega
/-- a draw: an int below many -/
def spDraw : Sp := fun vs H Q _ => ∃ (p l : Addr) (N many : Int), vs = [.ref p, .int many] ∧ PenAt H p l N ∧ 0 < many ∧ many.natAbs.log2 < 9000 ∧ N ≤ 100000 ∧
  ∀ r H', 0 ≤ r → r < many → SameBut p H H' → PenAt H' p l (N + 1) → Q (.int r) H'
theorem scDraw : FnScope ["_law_pen_here", "_law_many", "_law_digit", "_law_at", "_law_cell", "_law_great", "_law_mixed"] ["_law_pen_here", "_law_many"] (defScope sDraw) := ⟨rfl, rfl, rfl, by decide +kernel, rfl, by decide +kernel, by decide +kernel⟩
theorem small_pow {z : Int} (h0 : 0 ≤ z) (h : z < 18446744073709551616) : CPow z 5 ∧ CPow z 3 := by
  have e : (2 : Nat) ^ 64 = 18446744073709551616 := by decide
  have hz : z.natAbs < 2 ^ 64 := by rw [e]; omega
  exact ⟨⟨by decide, by decide, hz⟩, ⟨by decide, by decide, hz⟩⟩
theorem small_mul {i j : Int} (h0 : -18446744073709551616 < i) (h : i < 18446744073709551616) : CMul i j := by
  have e : (2 : Int) ^ 64 = 18446744073709551616 := by decide
  exact .inl ⟨by rw [e]; exact h0, by rw [e]; exact h⟩
set_option maxHeartbeats 8000000 in
theorem ok_draw {f : Addr} {fd : FuncData} (F : Fun K "_law_draw" "_law_draw" sDraw f fd) (T : Txt K mg C fWhole fBetw fDay fChk) : FnOk P w K mg base CX0 1 f fd ["_law_pen_here", "_law_many"] spDraw := by
  refine F.ok scDraw (fun vs H Q E h => ?_) (fun cdv A outer s H vs Q E hr h => ?_)
  · obtain ⟨p, l, N, many, rfl, _⟩ := h
    rfl
  · obtain ⟨p, l, N, many, rfl, pen, hm, hlog, hN, k⟩ := h
    obtain ⟨ms, n, c, h1, h2, hms, hn0, hnN, hc⟩ := pen.ex
    have nlp := pen_ne h1 h2
    have z0 : ([V.ref l, V.int n, V.int c] : List V)[0]? = some (V.ref l) := rfl
    have z1 : ([V.ref l, V.int n, V.int c] : List V)[1]? = some (V.int n) := rfl
    have z2 : ([V.ref l, V.int n, V.int c] : List V)[2]? = some (V.int c) := rfl
    refine ⟨_, pss_cons (ps_if (pt_cmpR op_gt (pe_ix ix_list (pv 0) pe_int (fun _ _ => rfl)) pe_int (nomark _))
        (pss_cons (ps_set (i := 2) scDraw.nd rfl (Or.inl rfl) (pe_op op_mod (pe_callTy call_int1 (by rfl) T.zInt (by decide +kernel) (pa_cons (pe_ix ix_list (pv 0) pe_int (fun _ _ => rfl)) pa_nil)) (pv 1)))
        (pss_cons (ps_asg (pe_op op_fdivW (pe_callTy call_int1 (by rfl) T.zInt (by decide +kernel) (pa_cons (pe_ix ix_list (pv 0) pe_int (fun _ _ => rfl)) pa_nil)) (pv 1)) (pg_sub (pv 0) pe_int set_list))
        (pss_one (ps_ret (pv 2))))) pss_nil)
      (pss_cons (ps_set (i := 3) scDraw.nd rfl (Or.inl rfl) (pe_ix ix_list (pv 0) pe_int (fun _ _ => rfl)))
      (pss_cons (ps_asg (pe_op op_add (pv 3) pe_int) (pg_sub (pv 0) pe_int set_list))
      (pss_cons (ps_set (i := 4) scDraw.nd rfl (Or.inl rfl) (pe_op op_add (pe_op op_mul pe_int (pv 3)) pe_int))
      (pss_cons (ps_if (pt_cmpR (op_neD hr.units) (pe_ix ix_list (pv 0) pe_int (fun _ _ => rfl)) (pe_lst pa_nil) (nomark _))
        (pss_one (ps_set (i := 4) scDraw.nd rfl (Or.inl rfl) (pe_ix ix_list (pe_ix ix_list (pv 0) pe_int (fun _ _ => rfl))
          (pe_op op_mod (pe_callTy call_int1 (by rfl) T.zInt (by decide +kernel) (pa_cons (pv 3) pa_nil)) (pe_callB call_len_seq (by rfl) T.zLen PySem.boot_len (pa_cons (pe_ix ix_list (pv 0) pe_int (fun _ _ => rfl)) pa_nil))) (fun _ _ => rfl)))) pss_nil)
      (pss_cons (ps_if (PW.pt (pw_and (pt_cmpR op_lt (pv 3) (pe_callB call_len_seq (by rfl) T.zLen PySem.boot_len (pa_cons (pe_ix ix_list (pv 0) pe_int (fun _ _ => rfl)) pa_nil)) (nomark _))
          (pw_and1 (pt_cmpR op_ge (pe_callB call_abs (by rfl) T.zAbs (by decide +kernel) (pa_cons (pv 4) pa_nil)) (pe_op op_pow pe_int pe_int) (nomark _)))))
        (pss_cons (ps_set (i := 5) scDraw.nd rfl (Or.inl rfl) (pe_op op_add (pe_op op_mul pe_int (pe_op op_sub (pe_callB call_abs (by rfl) T.zAbs (by decide +kernel) (pa_cons (pv 4) pa_nil)) (pe_op op_pow pe_int pe_int)))
          (pe_callTy call_int1 (by rfl) T.zInt (by decide +kernel) (pa_cons (pe_cmpR op_lt (pv 4) pe_int (nomark _)) pa_nil))))
        (pss_cons (ps_asg (pe_op op_fdivW (pe_callTy call_int1 (by rfl) T.zInt (by decide +kernel) (pa_cons (pv 5) pa_nil)) (pv 1)) (pg_sub (pv 0) pe_int set_list))
        (pss_one (ps_ret (pe_op op_mod (pe_callTy call_int1 (by rfl) T.zInt (by decide +kernel) (pa_cons (pv 5) pa_nil)) (pv 1)))))) pss_nil)
      (pss_cons (ps_set (i := 6) scDraw.nd rfl (Or.inl rfl) (pe_op op_mod (pe_callTy call_int1 (by rfl) T.zInt (by decide +kernel) (pa_cons (pe_op op_pow (pe_op op_add (pe_op op_add (pe_op op_mod (pe_callTy call_int1 (by rfl) T.zInt (by decide +kernel) (pa_cons (pv 4) pa_nil)) pe_int) (pe_op op_mul pe_int (pv 3))) pe_int) pe_int) pa_nil)) pe_int))
      (pss_cons (ps_set (i := 6) scDraw.nd rfl (Or.inl rfl) (pe_op op_mod (pe_callTy call_int1 (by rfl) T.zInt (by decide +kernel) (pa_cons (pe_op op_pow (pe_op op_add (pe_op op_add (pe_op op_mul (pv 6) (pe_op op_add (pe_op op_mul pe_int (pv 3)) pe_int))
        (pe_op op_mul (pe_op op_mul pe_int (pv 3)) (pv 3))) pe_int) pe_int) pa_nil)) pe_int))
      (pss_one (ps_ret (pe_op op_mod (pe_callTy call_int1 (by rfl) T.zInt (by decide +kernel) (pa_cons (pe_op op_fdiv (pv 6) pe_int) pa_nil)) (pv 1)))))))))))
      , ?_⟩
    refine ⟨_, rfl, p, _, _, _, rfl, rfl, SqL.of h1, atI_nat (j := 2) z2, _, _, rfl, rfl, _, rfl, ?_⟩
    by_cases hcp : 0 < c
    · rw [decide_eq_true hcp]
      refine iteT ?_
      refine ⟨_, rfl, p, _, _, _, rfl, rfl, SqL.of h1, atI_nat (j := 2) z2, .inl ⟨_, rfl, _, rfl, _, _, rfl, rfl, hm, ?_⟩⟩
      refine ⟨_, rfl, p, _, _, _, rfl, rfl, SqL.of h1, atI_nat (j := 2) z2, .inl ⟨_, rfl, _, rfl, _, _, rfl, rfl, ⟨hm, hlog⟩, ?_⟩⟩
      refine ⟨_, rfl, p, _, _, 2, rfl, rfl, h1, rfl, _, rfl, ?_⟩
      refine k _ _ (Int.emod_nonneg _ (by omega)) (Int.emod_lt_of_pos _ hm) (fun b o nb e => by rw [upd_ne nb]; exact e) ⟨ms, n, c / many, upd_same, by rw [upd_ne nlp]; exact h2, hms, hn0, by omega, Int.ediv_nonneg hc (by omega)⟩
    · rw [decide_eq_false hcp]
      refine iteF ?_
      have hc0 : c = 0 := by omega
      subst hc0
      refine ⟨_, rfl, p, _, _, _, rfl, rfl, SqL.of h1, atI_nat (j := 1) z1, ?_⟩
      refine ⟨_, rfl, _, _, rfl, rfl, _, rfl, p, _, _, 1, rfl, rfl, h1, rfl, ?_⟩
      have g1 : (upd H p (.lst ([V.ref l, V.int n, V.int 0].set 1 (V.int (n + 1))))) p = some (.lst [V.ref l, V.int (n + 1), V.int 0]) := upd_same
      have g2 : (upd H p (.lst ([V.ref l, V.int n, V.int 0].set 1 (V.int (n + 1))))) l = some (.lst (ms.map V.int)) := by rw [upd_ne nlp]; exact h2
      have sb : SameBut p H (upd H p (.lst ([V.ref l, V.int n, V.int 0].set 1 (V.int (n + 1))))) := fun b o nb e => by rw [upd_ne nb]; exact e
      generalize (upd H p (.lst ([V.ref l, V.int n, V.int 0].set 1 (V.int (n + 1))))) = H1 at g1 g2 sb ⊢
      have y0 : ([V.ref l, V.int (n + 1), V.int 0] : List V)[0]? = some (V.ref l) := rfl
      refine ⟨_, rfl, _, _, rfl, rfl, small_mul (by omega) (by omega), _, _, rfl, rfl, ?_⟩
      refine ⟨_, rfl, p, _, _, _, rfl, rfl, SqL.of g1, atI_nat (j := 0) y0, Nat.zero_le _, fun q hq => ?_⟩
      have s2 : Same H1 (upd H1 q (.lst [])) := same_new hq
      refine ⟨_, _, .lst (SqL.of (s2 _ _ g2)) (dp_ints ms), .lst (SqL.of upd_same) .nil, PySem.W.shaped_ints ms, PySem.W.shaped_ints [], _, rfl, ?_⟩
      have sb2 : SameBut p H (upd H1 q (.lst [])) := sb.trans (Same.but s2)
      have k1 := s2 _ _ g1
      have k2 := s2 _ _ g2
      generalize upd H1 q (.lst []) = H2 at sb2 k1 k2 ⊢
      have dml : ∀ i : Int, 0 ≤ i → i < ms.length → ∃ z : Int, atI (ms.map V.int) i = some (V.int z) := fun i h0 h1 => by
        refine ⟨ms[i.toNat]'(by omega), at_of (j := i.toNat) (by omega) ?_⟩
        rw [List.getElem?_map, List.getElem?_eq_getElem (by omega)]
        rfl
      refine ite2 (fun hk => ?_) (fun hk => ?_)
      have hne : 0 < ms.length := by
        cases ms with
        | nil => exact absurd hk (by decide)
        | cons a r => simp
      have i0 : 0 ≤ n % (ms.length : Int) := Int.emod_nonneg _ (by omega)
      have i1 : n % (ms.length : Int) < ms.length := Int.emod_lt_of_pos _ (by omega)
      obtain ⟨z, hz⟩ := dml _ i0 i1
      have hz' : atI (ms.map V.int) (n % ((ms.map V.int).length : Int)) = some (V.int z) := by rw [List.length_map]; exact hz
      have hp' : (0 : Int) < ((ms.map V.int).length : Int) := by rw [List.length_map]; omega
      refine ⟨_, rfl, p, _, _, _, rfl, rfl, SqL.of k1, atI_nat (j := 0) y0, _, rfl, .inl ⟨_, rfl, _, rfl, p, _, _, _, rfl, rfl, SqL.of k1, atI_nat (j := 0) y0, l, _, rfl, .inl (SqL.of k2), _, _, rfl, rfl, hp', l, _, _, _, rfl, rfl, SqL.of k2, hz', ?_⟩⟩
      clear hz hz'
      rotate_left
      dsimp only
      generalize 93489 * n + 2889 = z
      all_goals
        -- at < len(cells) and abs(cell) >= 10 ** 18
        refine ⟨_, rfl, _, rfl, p, _, _, _, rfl, rfl, SqL.of k1, atI_nat (j := 0) y0, l, _, rfl, .inl (SqL.of k2), _, _, rfl, rfl, _, rfl, ?_⟩
        refine ite2 (fun h6 => ?_) (fun h6 => ?_)
        refine ⟨_, rfl, _, rfl, _, _, rfl, rfl, ⟨by decide, by decide, by decide⟩, _, _, rfl, rfl, _, rfl, ?_⟩
        refine ite2 (fun h7 => ?_) (fun h7 => ?_)
        have h8 := of_decide_eq_true h7
        have e18 : (10 : Int) ^ (18 : Int).toNat = 1000000000000000000 := by decide
        rw [e18] at h8
        refine ⟨_, rfl, _, rfl, _, _, rfl, rfl, ⟨by decide, by decide, by decide⟩, _, _, rfl, rfl, _, _, rfl, rfl, small_mul (by decide) (by decide), _, rfl, _, _, rfl, rfl, .inr ⟨_, rfl, _, _, rfl, rfl, ?_⟩⟩
        rw [e18]
        have hg : 0 ≤ 2 * ((if z < 0 then -z else z) - 1000000000000000000) + (if decide (z < 0) = true then 1 else 0) := by
          split <;> omega
        refine ⟨_, rfl, .inl ⟨_, rfl, _, rfl, _, _, rfl, rfl, ⟨hm, hlog⟩, _, rfl, p, _, _, 2, rfl, rfl, k1, rfl, ?_⟩⟩
        refine ⟨_, rfl, .inl ⟨_, rfl, _, rfl, _, _, rfl, rfl, hm, ?_⟩⟩
        exact k _ _ (Int.emod_nonneg _ (by omega)) (Int.emod_lt_of_pos _ hm) (sb2.trans fun b o nb e => by rw [upd_ne nb]; exact e) ⟨ms, n + 1, _, upd_same, by rw [upd_ne nlp]; exact k2, hms, by omega, by omega, Int.ediv_nonneg hg (by omega)⟩
        all_goals
          have pen2 : PenAt H2 p l (N + 1) := ⟨ms, n + 1, 0, k1, k2, hms, by omega, by omega, by omega⟩
          have q1 : 0 ≤ z % 2147483549 := Int.emod_nonneg _ (by decide)
          have q2 : z % 2147483549 < 2147483549 := Int.emod_lt_of_pos _ (by decide)
          refine ⟨_, rfl, .inl ⟨_, rfl, _, _, rfl, rfl, (by show (0 : Int) < 2147483549; decide), _, rfl, _, _, rfl, rfl, small_mul (by decide) (by decide), _, _, rfl, rfl, _, _, rfl, rfl, _, _, rfl, rfl, (small_pow (by omega) (by omega)).1, .inl ⟨_, rfl, _, _, rfl, rfl, (by show (0 : Int) < 2147483629; decide), ?_⟩⟩⟩
          have q3 : 0 ≤ (z % 2147483549 + 86743 * n + 2889) ^ (5 : Int).toNat % 2147483629 := Int.emod_nonneg _ (by decide)
          have q4 : (z % 2147483549 + 86743 * n + 2889) ^ (5 : Int).toNat % 2147483629 < 2147483629 := Int.emod_lt_of_pos _ (by decide)
          dsimp only
          generalize (z % 2147483549 + 86743 * n + 2889) ^ (5 : Int).toNat % 2147483629 = m1 at q3 q4
          have b1 : m1 * (2 * n + 739) ≤ 2147483648 * (2 * 100000 + 739) := Int.mul_le_mul (by omega) (by omega) (by omega) (by omega)
          have b2 : 0 ≤ m1 * (2 * n + 739) := Int.mul_nonneg q3 (by omega)
          have b3 : 77439 * n * n ≤ 77439 * 100000 * 100000 := Int.mul_le_mul (by omega) (by omega) (by omega) (by omega)
          have b4 : 0 ≤ 77439 * n * n := Int.mul_nonneg (by omega) (by omega)
          refine ⟨_, rfl, _, rfl, _, _, rfl, rfl, small_mul (by decide) (by decide), _, _, rfl, rfl, _, _, rfl, rfl, small_mul (by omega) (by omega), _, rfl, _, _, rfl, rfl, small_mul (by decide) (by decide), _, rfl, _, _, rfl, rfl, small_mul (by omega) (by omega), _, _, rfl, rfl, _, _, rfl, rfl, _, _, rfl, rfl, (small_pow (by omega) (by omega)).2, .inl ⟨_, rfl, _, _, rfl, rfl, (by show (0 : Int) < 2147483587; decide), ?_⟩⟩
          refine ⟨_, rfl, _, _, rfl, rfl, ⟨by decide, by decide⟩, .inl ⟨_, rfl, _, rfl, _, _, rfl, rfl, hm, ?_⟩⟩
          exact k _ _ (Int.emod_nonneg _ (by omega)) (Int.emod_lt_of_pos _ hm) sb2 pen2
end
end My
namespace My
open PySem PySem.Spec PyProof.Rows L2
abbrev sLens : Stmt := top 44
section
variable {P : Program} {w : World} {K : PySem.W.Frag} {mg : Str → Option Value} {base : Heap} {C fWhole fBetw fDay fChk fDraw fPick : Addr} {fdD fdP : FuncData}
/-- a def of the module that keeps its promise -/
structure Df (P : Program) (w : World) (K : PySem.W.Frag) (mg : Str → Option Value) (base : Heap) (x : Str) (k : Nat) (f : Addr) (fd : FuncData) (ps : List Str) (sp : Sp) : Prop where
  F : FnOk P w K mg base CX0 k f fd ps sp
  b : Binds K fd ps []
  kp : PySem.W.keepIn K (.ref f) = true
  g : mg x = some (.ref f)
theorem log_small {n : Int} (h0 : 0 ≤ n) (h : n < 2 ^ 64) : n.natAbs.log2 < 9000 := by
  have e : (2 : Int) ^ 64 = 18446744073709551616 := by decide
  have e2 : (2 : Nat) ^ 64 = 18446744073709551616 := by decide
  exact Nat.lt_trans (PySem.Flt.log2_lt_of (k := 64) (by decide) (by rw [e2]; omega)) (by decide)
/-- one of a list's items -/
def spPick : Sp := fun vs H Q _ => ∃ (p l a : Addr) (N : Int) (xs : List V), vs = [.ref p, .ref a] ∧ PenAt H p l N ∧ N ≤ 100000 ∧ H a = some (.lst xs) ∧ a ≠ p ∧ 0 < xs.length ∧ xs.length ≤ 1000 ∧
  ∀ (i : Nat) (v : V) (H' : Hp), xs[i]? = some v → SameBut p H H' → PenAt H' p l (N + 1) → Q v H'
theorem scPick : FnScope ["_law_pen_here", "_law_some"] ["_law_pen_here", "_law_some"] (defScope sPick) := ⟨rfl, rfl, rfl, by decide +kernel, rfl, by decide +kernel, by decide +kernel⟩
theorem ok_pick {f : Addr} {fd : FuncData} (F : Fun K "_law_pick" "_law_pick" sPick f fd) (T : Txt K mg C fWhole fBetw fDay fChk) (D : Df P w K mg base "_law_draw" 1 fDraw fdD ["_law_pen_here", "_law_many"] spDraw) : FnOk P w K mg base CX0 2 f fd ["_law_pen_here", "_law_some"] spPick := by
  refine F.ok scPick (fun vs H Q E h => ?_) (fun cdv A outer s H vs Q E hr h => ?_)
  · obtain ⟨p, l, a, N, xs, rfl, _⟩ := h
    rfl
  · obtain ⟨p, l, a, N, xs, rfl, pen, hN, ha, nap, h0, h1, k⟩ := h
    refine ⟨_, pss_one (ps_ret (pe_ix ix_list (pv 1) (pe_call D.F hr rfl D.g D.kp D.b .nil pass0 (pa_cons (pv 0) (pa_cons (pe_callB call_len_seq (by rfl) T.zLen PySem.boot_len (pa_cons (pv 1) pa_nil)) pa_nil))) (fun _ _ => rfl))), ?_⟩
    refine ⟨_, rfl, _, rfl, _, rfl, a, _, rfl, .inl (SqL.of ha), p, l, N, _, rfl, pen, by omega, log_small (by omega) (by omega), hN, fun r H' r0 r1 sb pen' => ?_⟩
    have hv : xs[r.toNat]? = some (xs[r.toNat]'(by omega)) := List.getElem?_eq_getElem (by omega)
    exact ⟨a, _, _, _, rfl, rfl, SqL.of (sb _ _ nap ha), at_of (j := r.toNat) (by omega) hv, k _ _ _ hv sb pen'⟩
theorem good_of {ls : List Int} (h : (decide (∀ l ∈ ls, 1 ≤ l ∧ l ≤ 60) && decide (0 < ls.length) && decide (ls.length ≤ 12) && decide (ls.sum ≤ 60)) = true) : Good ls := by
  simp only [Bool.and_eq_true, decide_eq_true_eq] at h
  exact ⟨h.1.1.1, h.1.1.2, h.1.2, h.2⟩
theorem sum_five : ∀ {ls : List Int}, (∀ l ∈ ls, 1 ≤ l ∧ l ≤ 5) → ls.sum ≤ 5 * ls.length
  | [], _ => by simp
  | a :: r, h => by
    have h1 := (h a (by simp)).2
    have h2 := sum_five (ls := r) fun l hl => h l (by simp [hl])
    rw [List.sum_cons, List.length_cons]
    push_cast
    omega
/-- drawn lengths -/
def spLens : Sp := fun vs H Q _ => ∃ (p l : Addr) (N : Int), vs = [.ref p] ∧ PenAt H p l N ∧ N ≤ 50000 ∧ ∀ a ls H', SameBut p H H' → PenAt H' p l (N + 20) → H' a = some (.lst (ls.map V.int)) → a ≠ p → Good ls → Q (.ref a) H'
theorem scLens : FnScope ["_law_pen_here", "_law_some", "_law_k"] ["_law_pen_here"] (defScope sLens) := ⟨rfl, rfl, rfl, by decide +kernel, rfl, by decide +kernel, by decide +kernel⟩
theorem ok_lens {f : Addr} {fd : FuncData} (F : Fun K "_law_lengths" "_law_lengths" sLens f fd) (T : Txt K mg C fWhole fBetw fDay fChk) (D : Df P w K mg base "_law_draw" 1 fDraw fdD ["_law_pen_here", "_law_many"] spDraw)
    (G : Df P w K mg base "_law_pick" 2 fPick fdP ["_law_pen_here", "_law_some"] spPick) : FnOk P w K mg base CX0 3 f fd ["_law_pen_here"] spLens := by
  refine F.ok scLens (fun vs H Q E h => ?_) (fun cdv A outer s H vs Q E hr h => ?_)
  · obtain ⟨p, l, N, rfl, _⟩ := h
    rfl
  · obtain ⟨p, l, N, rfl, pen, hN, k⟩ := h
    have hr1 : Room 1 _ := hr.mono (by decide)
    refine ⟨_, pss_cons (ps_set (i := 1) scLens.nd rfl (Or.inl rfl) (pe_lst (pa_cons (pe_lst (pa_cons pe_int pa_nil)) (pa_cons (pe_lst (pa_cons pe_int (pa_cons pe_int pa_nil))) (pa_cons (pe_lst (pa_cons pe_int pa_nil)) (pa_cons (pe_lst (pa_cons pe_int (pa_cons pe_int (pa_cons pe_int pa_nil))))
        (pa_cons (pe_lst (pa_cons pe_int (pa_cons pe_int pa_nil))) (pa_cons (pe_lst (pa_cons pe_int pa_nil)) (pa_cons (pe_lst (pa_cons pe_int (pa_cons pe_int (pa_cons pe_int pa_nil)))) (pa_cons (pe_lst (pa_cons pe_int (pa_cons pe_int pa_nil)))
        (pa_cons (pe_lst (pa_cons pe_int (pa_cons pe_int (pa_cons pe_int pa_nil)))) (pa_cons (pe_lst (pa_cons pe_int (pa_cons pe_int (pa_cons pe_int (pa_cons pe_int pa_nil))))) pa_nil))))))))))))
      (pss_cons (ps_if (pt_cmpR op_gt (pe_call D.F hr1 rfl D.g D.kp D.b .nil pass0 (pa_cons (pv 0) (pa_cons pe_int pa_nil))) pe_int (nomark _))
        (pss_one (ps_ret (pe_call G.F hr rfl G.g G.kp G.b .nil pass0 (pa_cons (pv 0) (pa_cons (pv 1) pa_nil))))) pss_nil)
      (pss_one (ps_ret (pe_lc (own := [("_law_k", 2)]) (g := gName 2) (tt := tYes) rfl scLens.nd (pi_range1 rfl T.zRange (pa_cons (pe_op op_add pe_int (pe_call D.F hr1 rfl D.g D.kp D.b .nil pass0 (pa_cons (pv 0) (pa_cons pe_int pa_nil)))) pa_nil))
        (blkOk_by (N := ["_law_pen_here", "_law_some", "_law_k"]) (sc := defScope sLens) (by decide +kernel)) (fun _ _ _ _ _ => pg_name (i := 2) scLens.nd rfl (Or.inl rfl)) (fun _ _ _ _ _ => pts_nil)
        (fun _ _ _ _ _ => pe_op op_add pe_int (pe_call D.F hr1 (by rfl) D.g D.kp D.b .nil pass0 (pa_cons (pv 0) (pa_cons pe_int pa_nil)))))))), ?_⟩
    refine ⟨by decide, fun a0 n0 => ⟨by decide, fun a1 n1 => ⟨by decide, fun a2 n2 => ⟨by decide, fun a3 n3 => ⟨by decide, fun a4 n4 => ⟨by decide, fun a5 n5 => ⟨by decide, fun a6 n6 => ⟨by decide, fun a7 n7 => ⟨by decide, fun a8 n8 => ⟨by decide, fun a9 n9 => ⟨by show 10 ≤ sizeLine; decide, fun b nb => ?_⟩⟩⟩⟩⟩⟩⟩⟩⟩⟩⟩
    obtain ⟨px, hp⟩ := pen.lst
    have u0 : Same H H := Same.refl H
    have m0 := ne_of_none (u0 _ _ hp) n0
    have u1 := u0.trans (same_new (o := (HO.lst [V.int 7])) n0)
    have m1 := ne_of_none (u1 _ _ hp) n1
    have u2 := u1.trans (same_new (o := (HO.lst [V.int 2, V.int 3])) n1)
    have m2 := ne_of_none (u2 _ _ hp) n2
    have u3 := u2.trans (same_new (o := (HO.lst [V.int 1])) n2)
    have m3 := ne_of_none (u3 _ _ hp) n3
    have u4 := u3.trans (same_new (o := (HO.lst [V.int 4, V.int 4, V.int 5])) n3)
    have m4 := ne_of_none (u4 _ _ hp) n4
    have u5 := u4.trans (same_new (o := (HO.lst [V.int 1, V.int 2])) n4)
    have m5 := ne_of_none (u5 _ _ hp) n5
    have u6 := u5.trans (same_new (o := (HO.lst [V.int 60])) n5)
    have m6 := ne_of_none (u6 _ _ hp) n6
    have u7 := u6.trans (same_new (o := (HO.lst [V.int 5, V.int 1, V.int 1])) n6)
    have m7 := ne_of_none (u7 _ _ hp) n7
    have u8 := u7.trans (same_new (o := (HO.lst [V.int 3, V.int 3])) n7)
    have m8 := ne_of_none (u8 _ _ hp) n8
    have u9 := u8.trans (same_new (o := (HO.lst [V.int 28, V.int 28, V.int 4])) n8)
    have m9 := ne_of_none (u9 _ _ hp) n9
    have u10 := u9.trans (same_new (o := (HO.lst [V.int 2, V.int 1, V.int 2, V.int 1])) n9)
    have mb := ne_of_none (u10 _ _ hp) nb
    have t10 := same_new (o := (HO.lst [V.ref a0, V.ref a1, V.ref a2, V.ref a3, V.ref a4, V.ref a5, V.ref a6, V.ref a7, V.ref a8, V.ref a9])) nb
    have L9 := t10 _ _ (upd_same (a := a9) (o := (HO.lst [V.int 2, V.int 1, V.int 2, V.int 1])))
    have t9 := (same_new (o := (HO.lst [V.int 2, V.int 1, V.int 2, V.int 1])) n9).trans t10
    have L8 := t9 _ _ (upd_same (a := a8) (o := (HO.lst [V.int 28, V.int 28, V.int 4])))
    have t8 := (same_new (o := (HO.lst [V.int 28, V.int 28, V.int 4])) n8).trans t9
    have L7 := t8 _ _ (upd_same (a := a7) (o := (HO.lst [V.int 3, V.int 3])))
    have t7 := (same_new (o := (HO.lst [V.int 3, V.int 3])) n7).trans t8
    have L6 := t7 _ _ (upd_same (a := a6) (o := (HO.lst [V.int 5, V.int 1, V.int 1])))
    have t6 := (same_new (o := (HO.lst [V.int 5, V.int 1, V.int 1])) n6).trans t7
    have L5 := t6 _ _ (upd_same (a := a5) (o := (HO.lst [V.int 60])))
    have t5 := (same_new (o := (HO.lst [V.int 60])) n5).trans t6
    have L4 := t5 _ _ (upd_same (a := a4) (o := (HO.lst [V.int 1, V.int 2])))
    have t4 := (same_new (o := (HO.lst [V.int 1, V.int 2])) n4).trans t5
    have L3 := t4 _ _ (upd_same (a := a3) (o := (HO.lst [V.int 4, V.int 4, V.int 5])))
    have t3 := (same_new (o := (HO.lst [V.int 4, V.int 4, V.int 5])) n3).trans t4
    have L2 := t3 _ _ (upd_same (a := a2) (o := (HO.lst [V.int 1])))
    have t2 := (same_new (o := (HO.lst [V.int 1])) n2).trans t3
    have L1 := t2 _ _ (upd_same (a := a1) (o := (HO.lst [V.int 2, V.int 3])))
    have t1 := (same_new (o := (HO.lst [V.int 2, V.int 3])) n1).trans t2
    have L0 := t1 _ _ (upd_same (a := a0) (o := (HO.lst [V.int 7])))
    have t0 := (same_new (o := (HO.lst [V.int 7])) n0).trans t1
    have Lb := upd_same (H := upd (upd (upd (upd (upd (upd (upd (upd (upd (upd H a0 (HO.lst [V.int 7])) a1 (HO.lst [V.int 2, V.int 3])) a2 (HO.lst [V.int 1])) a3 (HO.lst [V.int 4, V.int 4, V.int 5])) a4 (HO.lst [V.int 1, V.int 2])) a5 (HO.lst [V.int 60])) a6 (HO.lst [V.int 5, V.int 1, V.int 1])) a7 (HO.lst [V.int 3, V.int 3])) a8 (HO.lst [V.int 28, V.int 28, V.int 4])) a9 (HO.lst [V.int 2, V.int 1, V.int 2, V.int 1])) (a := b) (o := (HO.lst [V.ref a0, V.ref a1, V.ref a2, V.ref a3, V.ref a4, V.ref a5, V.ref a6, V.ref a7, V.ref a8, V.ref a9]))
    generalize upd (upd (upd (upd (upd (upd (upd (upd (upd (upd (upd H a0 (HO.lst [V.int 7])) a1 (HO.lst [V.int 2, V.int 3])) a2 (HO.lst [V.int 1])) a3 (HO.lst [V.int 4, V.int 4, V.int 5])) a4 (HO.lst [V.int 1, V.int 2])) a5 (HO.lst [V.int 60])) a6 (HO.lst [V.int 5, V.int 1, V.int 1])) a7 (HO.lst [V.int 3, V.int 3])) a8 (HO.lst [V.int 28, V.int 28, V.int 4])) a9 (HO.lst [V.int 2, V.int 1, V.int 2, V.int 1])) b (HO.lst [V.ref a0, V.ref a1, V.ref a2, V.ref a3, V.ref a4, V.ref a5, V.ref a6, V.ref a7, V.ref a8, V.ref a9]) = H1 at L0 L1 L2 L3 L4 L5 L6 L7 L8 L9 t0 Lb ⊢
    have all : ∀ v, v ∈ ([V.ref a0, V.ref a1, V.ref a2, V.ref a3, V.ref a4, V.ref a5, V.ref a6, V.ref a7, V.ref a8, V.ref a9] : List V) → ∃ (a : Addr) (ls : List Int), v = .ref a ∧ H1 a = some (.lst (ls.map V.int)) ∧ a ≠ p ∧ Good ls := fun v hv => by
      simp only [List.mem_cons, List.not_mem_nil, or_false] at hv
      rcases hv with rfl | rfl | rfl | rfl | rfl | rfl | rfl | rfl | rfl | rfl
      · exact ⟨a0, [7], rfl, L0, Ne.symm m0, good_of (by decide)⟩
      · exact ⟨a1, [2, 3], rfl, L1, Ne.symm m1, good_of (by decide)⟩
      · exact ⟨a2, [1], rfl, L2, Ne.symm m2, good_of (by decide)⟩
      · exact ⟨a3, [4, 4, 5], rfl, L3, Ne.symm m3, good_of (by decide)⟩
      · exact ⟨a4, [1, 2], rfl, L4, Ne.symm m4, good_of (by decide)⟩
      · exact ⟨a5, [60], rfl, L5, Ne.symm m5, good_of (by decide)⟩
      · exact ⟨a6, [5, 1, 1], rfl, L6, Ne.symm m6, good_of (by decide)⟩
      · exact ⟨a7, [3, 3], rfl, L7, Ne.symm m7, good_of (by decide)⟩
      · exact ⟨a8, [28, 28, 4], rfl, L8, Ne.symm m8, good_of (by decide)⟩
      · exact ⟨a9, [2, 1, 2, 1], rfl, L9, Ne.symm m9, good_of (by decide)⟩
    clear L0 L1 L2 L3 L4 L5 L6 L7 L8 L9 m0 m1 m2 m3 m4 m5 m6 m7 m8 m9 u1 u2 u3 u4 u5 u6 u7 u8 u9 u10 t1 t2 t3 t4 t5 t6 t7 t8 t9 t10
    refine ⟨_, rfl, p, l, N, 3, rfl, pen.same t0, by decide, log_small (by decide) (by decide), by omega, fun r H2 r0 r1 sb pen1 => ⟨_, _, rfl, rfl, _, rfl, ?_⟩⟩
    refine ite2 (fun hk => ?_) (fun hk => ?_)
    · refine ⟨_, rfl, _, rfl, p, l, b, N + 1, _, rfl, pen1, by omega, sb _ _ (Ne.symm mb) Lb, Ne.symm mb, (by show 0 < 10; decide), (by show 10 ≤ 1000; decide), fun i v H3 hi sb2 pen2 => ?_⟩
      obtain ⟨a, ls, rfl, hL, nap, g⟩ := all v (List.mem_of_getElem? hi)
      exact k a ls H3 ((Same.but t0).trans (sb.trans sb2)) (pen2.le (by omega)) (sb2 _ _ nap (sb _ _ nap hL)) nap g
    · refine ⟨_, rfl, p, l, N + 1, 12, rfl, pen1, by decide, log_small (by decide) (by decide), by omega, fun r2 H3 q0 q1 sb2 pen2 => ⟨_, _, rfl, rfl, _, rfl, by omega, by omega, fun Dd hD => ?_⟩⟩
      obtain ⟨py, hpy⟩ := pen2.lst
      have nD : p ≠ Dd := ne_of_none hpy hD
      have sb3 : SameBut p H H3 := (Same.but t0).trans (sb.trans sb2)
      refine lc_range (lo := 0) (n := (1 + r2).toNat) (fun i H' => ∃ acc : List Int, H' Dd = some (.lst (acc.map V.int)) ∧ acc.length = i ∧ (∀ l ∈ acc, 1 ≤ l ∧ l ≤ 5) ∧ SameBut p H3 H' ∧ PenAt H' p l (N + 2 + i)) ?_ ?_ ?_
      · exact ⟨[], upd_same, rfl, (fun l hl => absurd hl (by simp)), Same.but (same_new hD), (pen2.same (same_new hD)).le (by omega)⟩
      · rintro i H4 hi ⟨acc, hA, hlen, hin, sb4, pen4⟩
        refine ⟨rfl, ?_⟩
        unfold tYes
        dsimp only
        rw [if_pos rfl]
        refine ⟨_, rfl, p, l, N + 2 + i, 5, rfl, pen4, by decide, log_small (by decide) (by decide), by omega, fun r3 H5 w0 w1 sb5 pen5 => ⟨_, _, rfl, rfl, acc.map V.int, sb5 _ _ (Ne.symm nD) hA, ?_, ?_⟩⟩
        · rw [List.length_map, hlen]
          exact small1000 (by omega)
        · refine ⟨acc ++ [1 + r3], by rw [upd_same, List.map_append]; rfl, by rw [List.length_append, hlen]; rfl, fun l hl => ?_, fun c o nc e => ?_, (pen5.upd pen2 hD).le (by omega)⟩
          · rcases List.mem_append.mp hl with h | h
            · exact hin l h
            · rw [List.mem_singleton.mp h]; omega
          · rw [upd_ne (ne_of_none e hD)]
            exact sb5 _ _ nc (sb4 _ _ nc e)
      · rintro H4 ⟨acc, hA, hlen, hin, sb4, pen4⟩
        refine k Dd acc H4 (sb3.trans sb4) (pen4.le (by omega)) hA (Ne.symm nD) ⟨fun l hl => ⟨(hin l hl).1, by have := (hin l hl).2; omega⟩, by omega, by omega, ?_⟩
        have := sum_five hin
        omega
end
end My
namespace My
open PySem PySem.Spec PyProof.Rows L2
section
variable {P : Program} {w : World} {K : PySem.W.Frag} {mg : Str → Option Value} {base : Heap} {C fWhole fBetw fDay fChk : Addr}
theorem day_call {σ : L2.St} {H : Hp} {p : Addr} {ls : List Int} {d : Int} {m : Str} {g : List Int → Int → Int} {te : TE} {i : Nat} {Q : VK} (h0 : σ[i]? = some (some (.ref p))) (c : CycAt C H p ls) (hm1 : ¬ m = "_total") (hm2 : ¬ m = "_lengths")
    (hte : ∀ Q' : VK, Q' (.int d) H → te σ H Q') (hd : dayB d = true) (k : ∀ H', Same H H' → CycAt C H' p ls → Q (.int (g ls d)) H') : tMeth C m (spOfDay C g) [] E0 (tVar i) (tCons te tNil) σ H Q := by
  obtain ⟨dx, t, h1, h2⟩ := c.ob
  exact ⟨_, h0, p, dx, _, rfl, h1, flds_no _ _ hm1 hm2, hte _ ⟨p, ls, d, rfl, c, hd, fun H' s => k H' s (c.same s)⟩⟩
/-- a method of Cycle that keeps its promise -/
structure CM (P : Program) (w : World) (K : PySem.W.Frag) (mg : Str → Option Value) (base : Heap) (C : Addr) (m : Str) (g : List Int → Int → Int) (f : Addr) (fd : FuncData) : Prop where
  F : FnOk P w K mg base CX0 4 f fd ["self", "day"] (spOfDay C g)
  b : Binds K fd ["self", "day"] []
  m : Meth K C m f
/-- a property -/
structure CP (P : Program) (w : World) (K : PySem.W.Frag) (mg : Str → Option Value) (base : Heap) (C : Addr) (x : Str) (sp : Sp) (pr f : Addr) (fd : FuncData) : Prop where
  F : FnOk P w K mg base CX0 1 f fd ["self"] sp
  b : Binds K fd ["self"] []
  p : PropOf K C x pr f
variable {fB fF fL fP fN fGl fGt pGl pGt fLn : Addr} {dB dF dL dP dN dGl dGt dLn : FuncData}
theorem dB_near {d b : Int} (h : b.natAbs ≤ 10 ^ 59) (h1 : b - 10 ^ 40 ≤ d) (h2 : d ≤ b + 10 ^ 40) : dayB d = true := by
  unfold dayB
  have e : (10 : Int) ^ 60 = 1000000000000000000000000000000000000000000000000000000000000 := by decide
  have e2 : (10 : Nat) ^ 59 = 100000000000000000000000000000000000000000000000000000000000 := by decide
  have e3 : (10 : Int) ^ 40 = 10000000000000000000000000000000000000000 := by decide
  rw [e2] at h
  rw [e3] at h1 h2
  rw [e, Bool.and_eq_true, decide_eq_true_eq, decide_eq_true_eq]
  omega
end
end My
namespace My
open PySem PySem.Spec PyProof.Rows L2
abbrev sName : Stmt := top 14
abbrev sTieI : Stmt := inClass (top 22) 0
abbrev sNumI : Stmt := inClass (top 23) 0
abbrev sBkI : Stmt := inClass (top 24) 0
abbrev sBkS : Stmt := inClass (top 24) 1
abbrev sBkU : Stmt := inClass (top 24) 2
abbrev sBkC : Stmt := inClass (top 24) 3
abbrev sAhI : Stmt := inClass (top 25) 0
abbrev sAhS : Stmt := inClass (top 25) 1
abbrev sAhU : Stmt := inClass (top 25) 2
abbrev sAhC : Stmt := inClass (top 25) 3
abbrev sSoI : Stmt := inClass (top 26) 0
abbrev sSoS : Stmt := inClass (top 26) 1
abbrev sSoU : Stmt := inClass (top 26) 2
abbrev sSoC : Stmt := inClass (top 26) 3
abbrev sWhI : Stmt := inClass (top 27) 0
abbrev sWhS : Stmt := inClass (top 27) 1
abbrev sWhU : Stmt := inClass (top 27) 2
abbrev sWhC : Stmt := inClass (top 27) 3
abbrev sLaI : Stmt := inClass (top 28) 0
abbrev sLaS : Stmt := inClass (top 28) 1
abbrev sLaU : Stmt := inClass (top 28) 2
abbrev sLaC : Stmt := inClass (top 28) 3
abbrev sSmI : Stmt := inClass (top 29) 0
abbrev sSmS : Stmt := inClass (top 29) 1
abbrev sSmU : Stmt := inClass (top 29) 2
abbrev sSmC : Stmt := inClass (top 29) 3
abbrev sBB : Stmt := top 30
abbrev sBH : Stmt := top 31
abbrev sAP : Stmt := top 32
def isNum : Kd → Bool
  | .bk => true
  | .ah => true
  | _ => false
def tfl (k : Kd) (x : Str) (n : Int) : List (Str × V) := if isNum k then putF "number" (.int n) (putF "source" (.str x) []) else putF "source" (.str x) []
theorem tfl_num {k : Kd} (h : isNum k = true) (x : Str) (n : Int) : (tfl k x n).lookup ("number" : Str) = some (.int n) := by
  unfold tfl
  rw [if_pos h, lookup_putF, if_pos rfl]
theorem tfl_no (k : Kd) (x : Str) (n : Int) {m : Str} (h1 : ¬ m = "number") (h2 : ¬ m = "source") : (tfl k x n).lookup m = none := by
  unfold tfl
  split
  · rw [lookup_putF, if_neg h1, lookup_putF, if_neg h2]
    all_goals rfl
  · rw [lookup_putF, if_neg h2]
    all_goals rfl
/-- a name of a table -/
structure NameOk (x : Str) : Prop where
  len : x.length ≤ 8
  asc : Txt.isascii x = true
  alp : Txt.isalpha x = true
  low : Txt.islower x = true
structure TieAt (G : Kd → Addr) (H : Hp) (p : Addr) (k : Kd) (n : Int) : Prop where
  ob : ∃ dx x, H p = some (.ins (G k) dx (tfl k x n))
theorem TieAt.same {G : Kd → Addr} {H H' : Hp} {p : Addr} {k : Kd} {n : Int} (c : TieAt G H p k n) (s : Same H H') : TieAt G H' p k n := ⟨let ⟨dx, x, h⟩ := c.ob; ⟨dx, x, s _ _ h⟩⟩
theorem TieAt.but {G : Kd → Addr} {H H' : Hp} {p q : Addr} {k : Kd} {n : Int} (c : TieAt G H p k n) (s : SameBut q H H') {xs : List V} (hq : H q = some (.lst xs)) : TieAt G H' p k n :=
  ⟨let ⟨dx, x, h⟩ := c.ob; ⟨dx, x, s _ _ (ne_of h hq (by intro z; cases z)) h⟩⟩
structure Ty (K : PySem.W.Frag) (mg : Str → Option Value) (G : Kd → Addr) (cT cN fTI fNI fName fBB fBH fAP : Addr) : Prop where
  cl : ∀ k, Cls K (G k)
  nS : ∀ k, NoAttr K (G k) "source"
  nN : ∀ k, NoAttr K (G k) "number"
  gT : mg "Tie" = some (.ref cT)
  gN : mg "Numbered" = some (.ref cN)
  gBk : mg "Back" = some (.ref (G .bk))
  gAh : mg "Ahead" = some (.ref (G .ah))
  gSo : mg "Sofar" = some (.ref (G .so))
  gWh : mg "Whole" = some (.ref (G .wh))
  gLa : mg "Last" = some (.ref (G .la))
  gSm : mg "Same" = some (.ref (G .sm))
  gName : mg "is_name" = some (.ref fName)
  gBB : mg "block_before" = some (.ref fBB)
  gBH : mg "block_behind" = some (.ref fBH)
  gAP : mg "at_place" = some (.ref fAP)
  gMN : ∃ t, mg "MOST_NUMBER" = some (.int 60 t)
  rT : ClX.CRead K cT (.type "type")
  rN : ClX.CRead K cN (.type "type")
  fT : CFn K cT (.type "type") "__init__" fTI
  fN : CFn K cN (.type "type") "__init__" fNI
  zStr : mg "str" = none
  zMax : mg "max" = none
section
variable {P : Program} {w : World} {K : PySem.W.Frag} {mg : Str → Option Value} {base : Heap} {C fWhole fBetw fDay fChk : Addr} {G : Kd → Addr} {cT cN fTI fNI fName fBB fBH fAP : Addr}
theorem kss : kitB "str" "str" = some true := by decide +kernel
def spName : Sp := fun vs H Q _ => ∃ x : Str, vs = [.str x] ∧ NameOk x ∧ Q (.bl true) H
theorem scName : FnScope ["value"] ["value"] (defScope sName) := ⟨rfl, rfl, rfl, by decide +kernel, rfl, by decide +kernel, by decide +kernel⟩
theorem ok_name {f : Addr} {fd : FuncData} (F : Fun K "is_name" "is_name" sName f fd) (T : Txt K mg C fWhole fBetw fDay fChk) (Y : Ty K mg G cT cN fTI fNI fName fBB fBH fAP) : FnOk P w K mg base CX0 1 f fd ["value"] spName := by
  refine F.ok scName (fun vs H Q E h => ?_) (fun cdv A outer s H vs Q E hr h => ?_)
  · obtain ⟨x, rfl, _⟩ := h
    rfl
  · obtain ⟨x, rfl, nm, k⟩ := h
    refine ⟨_, pss_cons (ps_if (PW.pt (pw_or (pt_not (pt_val (pe_callB call_isi (by rfl) T.zIsi (by decide +kernel) (pa_cons (pv 0) (pa_cons (pe_bltn (v := .ty "str") (by rfl) Y.zStr (by decide +kernel) rfl) pa_nil)))))
        (pw_or1 (pt_cmpR op_gt (pe_callB call_len_str (by rfl) T.zLen PySem.boot_len (pa_cons (pv 0) pa_nil)) pe_int (nomark _))))) pss_never pss_nil)
      (pss_one (ps_ret (pe_and (pe_m0 PySem.F.slot_str_isascii PySem.F.type_str_isascii mt_isascii (pv 0)) (pe_and (pe_m0 PySem.F.slot_str_isalpha PySem.F.type_str_isalpha mt_isalpha (pv 0)) (pe_one (pe_m0 PySem.F.slot_str_islower PySem.F.type_str_islower mt_islower (pv 0))))))), ?_⟩
    have hl := nm.len
    refine ⟨_, rfl, .str x, .ty "str", _, _, true, rfl, .ty "str", .base (.str x), kit_ty kss, true, rfl, ?_⟩
    refine iteF ⟨_, rfl, x, rfl, ?_, _, _, rfl, rfl, _, rfl, ?_⟩
    · exact Nat.le_trans hl (by decide)
    · rw [decide_eq_false (by omega)]
      refine iteF ⟨_, rfl, ⟨x, rfl⟩, x, rfl, rfl, trivial, _, rfl, ?_⟩
      rw [nm.asc]
      refine iteT ⟨_, rfl, ⟨x, rfl⟩, x, rfl, rfl, trivial, _, rfl, ?_⟩
      rw [nm.alp]
      refine iteT ⟨_, rfl, ⟨x, rfl⟩, x, rfl, rfl, trivial, ?_⟩
      rw [nm.low]
      exact k
def spTieI (K : PySem.W.Frag) : Sp := fun vs H Q _ => ∃ (p dx D : Addr) (x : Str), vs = [.ref p, .str x] ∧ NameOk x ∧ Cls K D ∧ NoAttr K D "source" ∧ H p = some (.ins D dx []) ∧ Q .non (upd H p (.ins D dx (putF "source" (.str x) [])))
theorem scTieI : FnScope ["self", "source"] ["self", "source"] (defScope sTieI) := ⟨rfl, rfl, rfl, by decide +kernel, rfl, by decide +kernel, by decide +kernel⟩
theorem ok_tieI {f : Addr} {fd fdN : FuncData} (F : Fun K "__init__" "Tie.__init__" sTieI f fd) (T : Txt K mg C fWhole fBetw fDay fChk) (Y : Ty K mg G cT cN fTI fNI fName fBB fBH fAP) (FN : Fun K "is_name" "is_name" sName fName fdN) (bN : Binds K fdN ["value"] []) :
    FnOk P w K mg base CX0 2 f fd ["self", "source"] (spTieI K) := by
  have GN : FnOk P w K mg base CX0 1 fName fdN ["value"] spName := ok_name FN T Y
  refine F.ok scTieI (fun vs H Q E h => ?_) (fun cdv A outer s H vs Q E hr h => ?_)
  · obtain ⟨p, dx, D, x, rfl, _⟩ := h
    rfl
  · obtain ⟨p, dx, D, x, rfl, nm, cl, na, hp, k⟩ := h
    refine ⟨_, pss_cons (ps_if (pt_not (pt_val (pe_call GN hr rfl Y.gName FN.kp bN .nil pass0 (pa_cons (pv 1) pa_nil)))) pss_never pss_nil) (pss_one (ps_fld (pv 0) (pv 1) rfl)), ?_⟩
    refine ⟨_, rfl, x, rfl, nm, _, rfl, iteF ?_⟩
    exact ⟨_, rfl, _, rfl, p, D, dx, _, rfl, hp, cl, na, (by show 0 < 1000; decide), k⟩
def spNumI (K : PySem.W.Frag) : Sp := fun vs H Q _ => ∃ (p dx D : Addr) (fs : List (Str × V)) (n lo : Int), vs = [.ref p, .int n, .int lo] ∧ lo ≤ n ∧ n ≤ 60 ∧ Cls K D ∧ NoAttr K D "number" ∧ H p = some (.ins D dx fs) ∧ fs.length < 1000 ∧ Q .non (upd H p (.ins D dx (putF "number" (.int n) fs)))
theorem scNumI : FnScope ["self", "number", "least"] ["self", "number", "least"] (defScope sNumI) := ⟨rfl, rfl, rfl, by decide +kernel, rfl, by decide +kernel, by decide +kernel⟩
theorem ok_numI {f : Addr} {fd fdW fdB : FuncData} (F : Fun K "__init__" "Numbered.__init__" sNumI f fd) (T : Txt K mg C fWhole fBetw fDay fChk) (Y : Ty K mg G cT cN fTI fNI fName fBB fBH fAP) (FW : Fun K "is_whole" "is_whole" sWhole fWhole fdW) (bW : Binds K fdW ["value"] [])
    (FB : Fun K "is_between" "is_between" sBetw fBetw fdB) (bB : Binds K fdB ["value", "low", "high"] []) : FnOk P w K mg base CX0 3 f fd ["self", "number", "least"] (spNumI K) := by
  have GB : FnOk P w K mg base CX0 2 fBetw fdB ["value", "low", "high"] (spBetw K) := ok_betw FB T FW bW
  obtain ⟨tb, gb⟩ := Y.gMN
  refine F.ok scNumI (fun vs H Q E h => ?_) (fun cdv A outer s H vs Q E hr h => ?_)
  · obtain ⟨p, dx, D, fs, n, lo, rfl, _⟩ := h
    rfl
  · obtain ⟨p, dx, D, fs, n, lo, rfl, h1, h2, cl, na, hp, hl, k⟩ := h
    refine ⟨_, pss_cons (ps_if (pt_not (pt_val (pe_call GB hr rfl T.gBetw FB.kp bB .nil pass0 (pa_cons (pv 1) (pa_cons (pv 2) (pa_cons (pe_glob (v := .int 60) rfl gb ⟨_, rfl⟩) pa_nil)))))) pss_never pss_nil) (pss_one (ps_fld (pv 0) (pv 1) rfl)), ?_⟩
    refine ⟨_, rfl, _, rfl, V.int n, "int", true, false, lo, 60, rfl, .base (.int n), kii, kib, (fun q => tnf0 q), fun _ => ⟨n, rfl, _, rfl, ?_⟩⟩
    rw [decide_eq_true h1, decide_eq_true h2]
    exact iteF ⟨_, rfl, _, rfl, p, D, dx, _, rfl, hp, cl, na, hl, k⟩
/-- the class of a tie with a number: what its __init__ leaves -/
def spInitN (G : Kd → Addr) (k : Kd) : Sp := fun vs H Q _ => ∃ (p dx : Addr) (x : Str) (n : Int), vs = [.ref p, .str x, .int n] ∧ NameOk x ∧ H p = some (.ins (G k) dx []) ∧ 0 ≤ n ∧ (k = .ah → 1 ≤ n) ∧ n ≤ 60 ∧
  ∀ H', (∀ b o, H b = some o → b ≠ p → H' b = some o) → H' p = some (.ins (G k) dx (tfl k x n)) → Q .non H'
def spInitP (G : Kd → Addr) (k : Kd) : Sp := fun vs H Q _ => ∃ (p dx : Addr) (x : Str), vs = [.ref p, .str x] ∧ NameOk x ∧ H p = some (.ins (G k) dx []) ∧
  ∀ H', (∀ b o, H b = some o → b ≠ p → H' b = some o) → H' p = some (.ins (G k) dx (tfl k x 0)) → Q .non H'
theorem scBkI : FnScope ["self", "source", "number"] ["self", "source", "number"] (defScope sBkI) := ⟨rfl, rfl, rfl, by decide +kernel, rfl, by decide +kernel, by decide +kernel⟩
theorem scAhI : FnScope ["self", "source", "number"] ["self", "source", "number"] (defScope sAhI) := ⟨rfl, rfl, rfl, by decide +kernel, rfl, by decide +kernel, by decide +kernel⟩
theorem scSoI : FnScope ["self", "source"] ["self", "source"] (defScope sSoI) := ⟨rfl, rfl, rfl, by decide +kernel, rfl, by decide +kernel, by decide +kernel⟩
theorem scWhI : FnScope ["self", "source"] ["self", "source"] (defScope sWhI) := ⟨rfl, rfl, rfl, by decide +kernel, rfl, by decide +kernel, by decide +kernel⟩
theorem scLaI : FnScope ["self", "source"] ["self", "source"] (defScope sLaI) := ⟨rfl, rfl, rfl, by decide +kernel, rfl, by decide +kernel, by decide +kernel⟩
theorem scSmI : FnScope ["self", "source"] ["self", "source"] (defScope sSmI) := ⟨rfl, rfl, rfl, by decide +kernel, rfl, by decide +kernel, by decide +kernel⟩
/-- what every __init__ needs -/
structure Inits (P : Program) (w : World) (K : PySem.W.Frag) (mg : Str → Option Value) (base : Heap) (fTI fNI : Addr) (dTI dNI : FuncData) : Prop where
  t : FnOk P w K mg base CX0 2 fTI dTI ["self", "source"] (spTieI K)
  bt : Binds K dTI ["self", "source"] []
  n : FnOk P w K mg base CX0 3 fNI dNI ["self", "number", "least"] (spNumI K)
  bn : Binds K dNI ["self", "number", "least"] []
variable {dTI dNI : FuncData}
theorem ok_bkI {f : Addr} {fd : FuncData} (F : Fun K "__init__" "Back.__init__" sBkI f fd) (Y : Ty K mg G cT cN fTI fNI fName fBB fBH fAP) (J : Inits P w K mg base fTI fNI dTI dNI) : FnOk P w K mg base CX0 4 f fd ["self", "source", "number"] (spInitN G .bk) := by
  refine F.ok scBkI (fun vs H Q E h => ?_) (fun cdv A outer s H vs Q E hr h => ?_)
  · obtain ⟨p, dx, x, n, rfl, _⟩ := h
    rfl
  · obtain ⟨p, dx, x, n, rfl, nm, hp, h0, h1, h2, k⟩ := h
    have hr1 : Room 2 _ := hr.mono (by decide)
    refine ⟨_, pss_cons (ps_expr (pe_cfn (pe_glob (v := .ref cT) rfl Y.gT rfl) Y.rT Y.fT (J.t.raw J.bt .nil) hr1 pass0 (pa_cons (pv 0) (pa_cons (pv 1) pa_nil))))
      (pss_one (ps_expr (pe_cfn (pe_glob (v := .ref cN) rfl Y.gN rfl) Y.rN Y.fN (J.n.raw J.bn .nil) hr pass0 (pa_cons (pv 0) (pa_cons (pv 2) (pa_cons pe_int pa_nil)))))), ?_⟩
    refine ⟨rfl, _, rfl, _, rfl, p, dx, G .bk, x, rfl, nm, Y.cl _, Y.nS _, hp, ?_⟩
    refine ⟨rfl, _, rfl, _, rfl, p, dx, G .bk, _, n, 0, rfl, h0, h2, Y.cl _, Y.nN _, upd_same, (by show 1 < 1000; decide), ?_⟩
    refine k _ (fun b o e hb => ?_) upd_same
    rw [upd_ne hb, upd_ne hb]
    exact e
theorem ok_ahI {f : Addr} {fd : FuncData} (F : Fun K "__init__" "Ahead.__init__" sAhI f fd) (Y : Ty K mg G cT cN fTI fNI fName fBB fBH fAP) (J : Inits P w K mg base fTI fNI dTI dNI) : FnOk P w K mg base CX0 4 f fd ["self", "source", "number"] (spInitN G .ah) := by
  refine F.ok scAhI (fun vs H Q E h => ?_) (fun cdv A outer s H vs Q E hr h => ?_)
  · obtain ⟨p, dx, x, n, rfl, _⟩ := h
    rfl
  · obtain ⟨p, dx, x, n, rfl, nm, hp, h0, h1, h2, k⟩ := h
    have hr1 : Room 2 _ := hr.mono (by decide)
    refine ⟨_, pss_cons (ps_expr (pe_cfn (pe_glob (v := .ref cT) rfl Y.gT rfl) Y.rT Y.fT (J.t.raw J.bt .nil) hr1 pass0 (pa_cons (pv 0) (pa_cons (pv 1) pa_nil))))
      (pss_one (ps_expr (pe_cfn (pe_glob (v := .ref cN) rfl Y.gN rfl) Y.rN Y.fN (J.n.raw J.bn .nil) hr pass0 (pa_cons (pv 0) (pa_cons (pv 2) (pa_cons pe_int pa_nil)))))), ?_⟩
    refine ⟨rfl, _, rfl, _, rfl, p, dx, G .ah, x, rfl, nm, Y.cl _, Y.nS _, hp, ?_⟩
    refine ⟨rfl, _, rfl, _, rfl, p, dx, G .ah, _, n, 1, rfl, h1 rfl, h2, Y.cl _, Y.nN _, upd_same, (by show 1 < 1000; decide), ?_⟩
    refine k _ (fun b o e hb => ?_) upd_same
    rw [upd_ne hb, upd_ne hb]
    exact e
theorem ok_soI {f : Addr} {fd : FuncData} (F : Fun K "__init__" "Sofar.__init__" sSoI f fd) (Y : Ty K mg G cT cN fTI fNI fName fBB fBH fAP) (J : Inits P w K mg base fTI fNI dTI dNI) : FnOk P w K mg base CX0 4 f fd ["self", "source"] (spInitP G .so) := by
  refine F.ok scSoI (fun vs H Q E h => ?_) (fun cdv A outer s H vs Q E hr h => ?_)
  · obtain ⟨p, dx, x, rfl, _⟩ := h
    rfl
  · obtain ⟨p, dx, x, rfl, nm, hp, k⟩ := h
    have hr1 : Room 2 _ := hr.mono (by decide)
    refine ⟨_, pss_one (ps_expr (pe_cfn (pe_glob (v := .ref cT) rfl Y.gT rfl) Y.rT Y.fT (J.t.raw J.bt .nil) hr1 pass0 (pa_cons (pv 0) (pa_cons (pv 1) pa_nil)))), ?_⟩
    refine ⟨rfl, _, rfl, _, rfl, p, dx, _, x, rfl, nm, Y.cl _, Y.nS _, hp, ?_⟩
    exact k _ (fun b o e hb => by rw [upd_ne hb]; exact e) upd_same
theorem ok_whI {f : Addr} {fd : FuncData} (F : Fun K "__init__" "Whole.__init__" sWhI f fd) (Y : Ty K mg G cT cN fTI fNI fName fBB fBH fAP) (J : Inits P w K mg base fTI fNI dTI dNI) : FnOk P w K mg base CX0 4 f fd ["self", "source"] (spInitP G .wh) := by
  refine F.ok scWhI (fun vs H Q E h => ?_) (fun cdv A outer s H vs Q E hr h => ?_)
  · obtain ⟨p, dx, x, rfl, _⟩ := h
    rfl
  · obtain ⟨p, dx, x, rfl, nm, hp, k⟩ := h
    have hr1 : Room 2 _ := hr.mono (by decide)
    refine ⟨_, pss_one (ps_expr (pe_cfn (pe_glob (v := .ref cT) rfl Y.gT rfl) Y.rT Y.fT (J.t.raw J.bt .nil) hr1 pass0 (pa_cons (pv 0) (pa_cons (pv 1) pa_nil)))), ?_⟩
    refine ⟨rfl, _, rfl, _, rfl, p, dx, _, x, rfl, nm, Y.cl _, Y.nS _, hp, ?_⟩
    exact k _ (fun b o e hb => by rw [upd_ne hb]; exact e) upd_same
theorem ok_laI {f : Addr} {fd : FuncData} (F : Fun K "__init__" "Last.__init__" sLaI f fd) (Y : Ty K mg G cT cN fTI fNI fName fBB fBH fAP) (J : Inits P w K mg base fTI fNI dTI dNI) : FnOk P w K mg base CX0 4 f fd ["self", "source"] (spInitP G .la) := by
  refine F.ok scLaI (fun vs H Q E h => ?_) (fun cdv A outer s H vs Q E hr h => ?_)
  · obtain ⟨p, dx, x, rfl, _⟩ := h
    rfl
  · obtain ⟨p, dx, x, rfl, nm, hp, k⟩ := h
    have hr1 : Room 2 _ := hr.mono (by decide)
    refine ⟨_, pss_one (ps_expr (pe_cfn (pe_glob (v := .ref cT) rfl Y.gT rfl) Y.rT Y.fT (J.t.raw J.bt .nil) hr1 pass0 (pa_cons (pv 0) (pa_cons (pv 1) pa_nil)))), ?_⟩
    refine ⟨rfl, _, rfl, _, rfl, p, dx, _, x, rfl, nm, Y.cl _, Y.nS _, hp, ?_⟩
    exact k _ (fun b o e hb => by rw [upd_ne hb]; exact e) upd_same
theorem ok_smI {f : Addr} {fd : FuncData} (F : Fun K "__init__" "Same.__init__" sSmI f fd) (Y : Ty K mg G cT cN fTI fNI fName fBB fBH fAP) (J : Inits P w K mg base fTI fNI dTI dNI) : FnOk P w K mg base CX0 4 f fd ["self", "source"] (spInitP G .sm) := by
  refine F.ok scSmI (fun vs H Q E h => ?_) (fun cdv A outer s H vs Q E hr h => ?_)
  · obtain ⟨p, dx, x, rfl, _⟩ := h
    rfl
  · obtain ⟨p, dx, x, rfl, nm, hp, k⟩ := h
    have hr1 : Room 2 _ := hr.mono (by decide)
    refine ⟨_, pss_one (ps_expr (pe_cfn (pe_glob (v := .ref cT) rfl Y.gT rfl) Y.rT Y.fT (J.t.raw J.bt .nil) hr1 pass0 (pa_cons (pv 0) (pa_cons (pv 1) pa_nil)))), ?_⟩
    refine ⟨rfl, _, rfl, _, rfl, p, dx, _, x, rfl, nm, Y.cl _, Y.nS _, hp, ?_⟩
    exact k _ (fun b o e hb => by rw [upd_ne hb]; exact e) upd_same
end
end My
namespace My
open PySem PySem.Spec PyProof.Rows L2
theorem rg_map (a b : Int) : rgV a b = (rgI a b).map V.int := by
  unfold rgV rgI
  rw [List.map_map]
  rfl
theorem full_cut {xs : List V} {lo hi : Option Int} (h : HT.sIx xs.length 0 lo = 0 ∧ HT.sIx xs.length xs.length hi = xs.length) : cutV xs lo hi = xs := by
  unfold cutV
  rw [h.1, h.2]
  simp
theorem cut_pick {a b p : Int} (h : 0 ≤ p) : cutV ((rgI a b).map V.int) (some p) (some (p + 1)) = (pickI a b p).map V.int := by
  obtain ⟨n, rfl⟩ := Int.eq_ofNat_of_zero_le h
  have hl : ((rgI a b).map V.int).length = (b - a).toNat := by rw [List.length_map, rgI_len]
  have e1 : ((n : Int) + 1) = ((n + 1 : Nat) : Int) := rfl
  unfold cutV
  rw [e1, HT.sIx_nat, HT.sIx_nat, hl]
  unfold pickI
  by_cases c : a + (n : Int) < b
  · have c2 : n < (b - a).toNat := by omega
    rw [if_pos c, Nat.min_eq_left (by omega), Nat.min_eq_left (by omega), Nat.add_sub_cancel_left]
    have e : ((rgI a b).map V.int)[n]? = some (V.int (a + n)) := by
      unfold rgI
      rw [List.getElem?_map, List.getElem?_map, List.getElem?_range c2]
      rfl
    have hn : n < ((rgI a b).map V.int).length := by rw [hl]; exact c2
    rw [List.drop_eq_getElem_cons hn]
    have e3 := (List.getElem?_eq_some_iff.mp e).2
    rw [e3]
    rfl
  · rw [if_neg c, Nat.min_eq_right (by omega), Nat.min_eq_right (by omega), Nat.sub_self]
    rfl
theorem len60 {ls : List Int} (g : Good ls) (d : Int) : lenD ls d ≤ 60 := (g.pos _ (List.mem_of_getElem? (ix_lt g.ok d).2)).2
def beforeL (ls : List Int) (d : Int) : List Int := rgI (fstD ls (fstD ls d - 1)) (fstD ls d - 1 + 1)
def behindL (ls : List Int) (d : Int) : List Int := rgI (lstD ls d + 1) (lstD ls (lstD ls d + 1) + 1)
section
variable {P : Program} {w : World} {K : PySem.W.Frag} {mg : Str → Option Value} {base : Heap} {C fWhole fBetw fDay fChk fEnds : Addr} {dEnds : FuncData} {G : Kd → Addr} {cT cN fTI fNI fName fBB fBH fAP : Addr} {dBB dBH dAP : FuncData}
def spBlk (C : Addr) (L : List Int → Int → List Int) : Sp := fun vs H Q _ => ∃ (c : Addr) (ls : List Int) (d : Int), vs = [.int d, .ref c] ∧ CycAt C H c ls ∧ ∀ t H', Same H H' → H' t = some (.tup ((L ls d).map V.int)) → Q (.ref t) H'
theorem scBB : FnScope ["day", "cycle", "last"] ["day", "cycle"] (defScope sBB) := ⟨rfl, rfl, rfl, by decide +kernel, rfl, by decide +kernel, by decide +kernel⟩
theorem few_block {ls : List Int} (g : Good ls) {d a b : Int} (h1 : fstD ls d ≤ a) (h2 : b ≤ lstD ls d + 1) : (b - a).toNat ≤ 2 ^ 24 := by
  have := len60 g d
  unfold lstD at h2
  have e : (2 : Nat) ^ 24 = 16777216 := by decide
  rw [e]
  omega
theorem ok_BB {f : Addr} {fd : FuncData} (F : Fun K "block_before" "block_before" sBB f fd) (T : Txt K mg C fWhole fBetw fDay fChk) (EE : EndsM P w K mg base C fEnds dEnds) : FnOk P w K mg base CX0 3 f fd ["day", "cycle"] (spBlk C beforeL) := by
  refine F.ok scBB (fun vs H Q E h => ?_) (fun cdv A outer s H vs Q E hr h => ?_)
  · obtain ⟨c, ls, d, rfl, _⟩ := h
    rfl
  · obtain ⟨c, ls, d, rfl, cy, k⟩ := h
    obtain ⟨dx, t, h1, h2⟩ := cy.ob
    have nS := flds_no t ls.sum (m := "ends") (by decide +kernel) (by decide +kernel)
    refine ⟨_, pss_cons (ps_set (i := 2) scBB.nd rfl (Or.inl rfl) (pe_op op_sub (pe_ix ix_tup (pe_meth (pv 1) T.cl EE.m EE.F hr EE.b .nil pass0 (pa_cons (pv 0) pa_nil)) pe_int (fun _ _ => rfl)) pe_int))
      (pss_one (ps_ret (pe_tupW rfl (by rfl) T.zTuple (prg_2 (by rfl) T.zRange (pe_ix ix_tup (pe_meth (pv 1) T.cl EE.m EE.F hr EE.b .nil pass0 (pa_cons (pv 2) pa_nil)) pe_int (fun _ _ => rfl)) (pe_op op_add (pv 2) pe_int))))), ?_⟩
    refine ⟨_, rfl, c, dx, _, rfl, h1, nS, _, rfl, c, ls, d, rfl, cy, fun q H1 s1 hq => ⟨q, _, _, _, rfl, rfl, SqT.of hq, atI_nat (j := 0) rfl, _, _, rfl, rfl, ?_⟩⟩
    refine ⟨_, rfl, c, dx, _, rfl, s1 _ _ h1, nS, _, rfl, c, ls, _, rfl, cy.same s1, fun q2 H2 s2 hq2 => ⟨q2, _, _, _, rfl, rfl, SqT.of hq2, atI_nat (j := 0) rfl, ?_⟩⟩
    refine ⟨_, rfl, _, _, rfl, rfl, _, _, rfl, rfl, few_block cy.ok (d := fstD ls d - 1) (Int.le_refl _) ?_, fun r hr' => ?_⟩
    · rw [prv cy.ok.ok]; exact Int.le_refl _
    · exact k r _ (s1.trans (s2.trans (same_new hr'))) (by rw [upd_same, rg_map]; rfl)
theorem scBH : FnScope ["day", "cycle", "first"] ["day", "cycle"] (defScope sBH) := ⟨rfl, rfl, rfl, by decide +kernel, rfl, by decide +kernel, by decide +kernel⟩
theorem ok_BH {f : Addr} {fd : FuncData} (F : Fun K "block_behind" "block_behind" sBH f fd) (T : Txt K mg C fWhole fBetw fDay fChk) (EE : EndsM P w K mg base C fEnds dEnds) : FnOk P w K mg base CX0 3 f fd ["day", "cycle"] (spBlk C behindL) := by
  refine F.ok scBH (fun vs H Q E h => ?_) (fun cdv A outer s H vs Q E hr h => ?_)
  · obtain ⟨c, ls, d, rfl, _⟩ := h
    rfl
  · obtain ⟨c, ls, d, rfl, cy, k⟩ := h
    obtain ⟨dx, t, h1, h2⟩ := cy.ob
    have nS := flds_no t ls.sum (m := "ends") (by decide +kernel) (by decide +kernel)
    refine ⟨_, pss_cons (ps_set (i := 2) scBH.nd rfl (Or.inl rfl) (pe_op op_add (pe_ix ix_tup (pe_meth (pv 1) T.cl EE.m EE.F hr EE.b .nil pass0 (pa_cons (pv 0) pa_nil)) pe_int (fun _ _ => rfl)) pe_int))
      (pss_one (ps_ret (pe_tupW rfl (by rfl) T.zTuple (prg_2 (by rfl) T.zRange (pv 2) (pe_op op_add (pe_ix ix_tup (pe_meth (pv 1) T.cl EE.m EE.F hr EE.b .nil pass0 (pa_cons (pv 2) pa_nil)) pe_int (fun _ _ => rfl)) pe_int))))), ?_⟩
    refine ⟨_, rfl, c, dx, _, rfl, h1, nS, _, rfl, c, ls, d, rfl, cy, fun q H1 s1 hq => ⟨q, _, _, _, rfl, rfl, SqT.of hq, atI_nat (j := 1) rfl, _, _, rfl, rfl, ?_⟩⟩
    refine ⟨_, rfl, _, rfl, c, dx, _, rfl, s1 _ _ h1, nS, _, rfl, c, ls, _, rfl, cy.same s1, fun q2 H2 s2 hq2 => ⟨q2, _, _, _, rfl, rfl, SqT.of hq2, atI_nat (j := 1) rfl, ?_⟩⟩
    refine ⟨_, _, rfl, rfl, _, _, rfl, rfl, few_block cy.ok (d := lstD ls d + 1) ?_ (Int.le_refl _), fun r hr' => ?_⟩
    · rw [nxt cy.ok.ok]; exact Int.le_refl _
    · exact k r _ (s1.trans (s2.trans (same_new hr'))) (by rw [upd_same, rg_map]; rfl)
def spAP : Sp := fun vs H Q _ => ∃ (t : Addr) (a b p : Int), vs = [.ref t, .int p] ∧ H t = some (.tup ((rgI a b).map V.int)) ∧ 0 ≤ p ∧ ∀ r H', Same H H' → H' r = some (.tup ((pickI a b p).map V.int)) → Q (.ref r) H'
theorem scAP : FnScope ["days", "place"] ["days", "place"] (defScope sAP) := ⟨rfl, rfl, rfl, by decide +kernel, rfl, by decide +kernel, by decide +kernel⟩
theorem ok_AP {f : Addr} {fd : FuncData} (F : Fun K "at_place" "at_place" sAP f fd) : FnOk P w K mg base CX0 1 f fd ["days", "place"] spAP := by
  refine F.ok scAP (fun vs H Q E h => ?_) (fun cdv A outer s H vs Q E hr h => ?_)
  · obtain ⟨t, a, b, p, rfl, _⟩ := h
    rfl
  · obtain ⟨t, a, b, p, rfl, ht, h0, k⟩ := h
    refine ⟨_, pss_one (ps_ret (pe_slice L2.sl_tupA (pv 0) (po_some (pv 1)) (po_some (pe_op op_add (pv 1) pe_int)))), ?_⟩
    refine ⟨_, rfl, _, rfl, _, rfl, _, rfl, _, _, rfl, rfl, _, rfl, t, _, rfl, SqT.of ht, fun full => ?_, fun _ r hr' => ?_⟩
    · refine k t H (Same.refl H) ?_
      rw [ht, ← cut_pick h0, full_cut full]
    · refine k r _ (same_new hr') ?_
      rw [upd_same, cut_pick h0]
def spTie (G : Kd → Addr) (C : Addr) (k : Kd) (L : Kd → Int → List Int → Int → List Int) : Sp := fun vs H Q _ => ∃ (p c : Addr) (n : Int) (ls : List Int) (d : Int), vs = [.ref p, .int d, .ref c] ∧ TieAt G H p k n ∧ CycAt C H c ls ∧
  ∀ t H', Same H H' → H' t = some (.tup ((L k n ls d).map V.int)) → Q (.ref t) H'
/-- the helpers of ties.py -/
structure Hlp (P : Program) (w : World) (K : PySem.W.Frag) (mg : Str → Option Value) (base : Heap) (C fBB fBH fAP : Addr) (dBB dBH dAP : FuncData) : Prop where
  bb : Df P w K mg base "block_before" 3 fBB dBB ["day", "cycle"] (spBlk C beforeL)
  bh : Df P w K mg base "block_behind" 3 fBH dBH ["day", "cycle"] (spBlk C behindL)
  ap : Df P w K mg base "at_place" 1 fAP dAP ["days", "place"] spAP
theorem scBkS : FnScope ["self", "day", "cycle"] ["self", "day", "cycle"] (defScope sBkS) := ⟨rfl, rfl, rfl, by decide +kernel, rfl, by decide +kernel, by decide +kernel⟩
theorem ok_BkS {f : Addr} {fd : FuncData} (F : Fun K "sources" "Back.sources" sBkS f fd) (T : Txt K mg C fWhole fBetw fDay fChk) (Y : Ty K mg G cT cN fTI fNI fName fBB fBH fAP) (EE : EndsM P w K mg base C fEnds dEnds) (B : Hlp P w K mg base C fBB fBH fAP dBB dBH dAP) :
    FnOk P w K mg base CX0 4 f fd ["self", "day", "cycle"] (spTie G C .bk srcL) := by
  refine F.ok scBkS (fun vs H Q E h => ?_) (fun cdv A outer s H vs Q E hr h => ?_)
  · obtain ⟨p, c, n, ls, d, rfl, _⟩ := h
    rfl
  · obtain ⟨p, c, n, ls, d, rfl, ti, cy, k⟩ := h
    obtain ⟨tx, x, hp⟩ := ti.ob
    obtain ⟨dx, t, h1, h2⟩ := cy.ob
    have g := cy.ok
    have o := g.ok
    have hr2 : Room 2 _ := hr.mono (by decide)
    have hr1 : Room 1 _ := hr.mono (by decide)
    have nS := flds_no t ls.sum (m := "ends") (by decide +kernel) (by decide +kernel)
    obtain ⟨rg1, rg2⟩ := day_rng o d
    refine ⟨_, pss_one (ps_ret (pe_tup (pa_cons (pe_op op_sub (pv 1) (pe_fld (pv 0) rfl)) pa_nil))), ?_⟩
    exact ⟨_, rfl, _, rfl, p, G .bk, tx, _, _, rfl, hp, Y.cl _, Y.nN _, tfl_num rfl _ _, _, _, rfl, rfl, (by show 1 ≤ sizeLine; decide), fun r hr' => k r _ (same_new hr') (by rw [upd_same]; rfl)⟩
theorem scBkU : FnScope ["self", "day", "cycle"] ["self", "day", "cycle"] (defScope sBkU) := ⟨rfl, rfl, rfl, by decide +kernel, rfl, by decide +kernel, by decide +kernel⟩
theorem ok_BkU {f : Addr} {fd : FuncData} (F : Fun K "users" "Back.users" sBkU f fd) (T : Txt K mg C fWhole fBetw fDay fChk) (Y : Ty K mg G cT cN fTI fNI fName fBB fBH fAP) (EE : EndsM P w K mg base C fEnds dEnds) (B : Hlp P w K mg base C fBB fBH fAP dBB dBH dAP) :
    FnOk P w K mg base CX0 4 f fd ["self", "day", "cycle"] (spTie G C .bk usrL) := by
  refine F.ok scBkU (fun vs H Q E h => ?_) (fun cdv A outer s H vs Q E hr h => ?_)
  · obtain ⟨p, c, n, ls, d, rfl, _⟩ := h
    rfl
  · obtain ⟨p, c, n, ls, d, rfl, ti, cy, k⟩ := h
    obtain ⟨tx, x, hp⟩ := ti.ob
    obtain ⟨dx, t, h1, h2⟩ := cy.ob
    have g := cy.ok
    have o := g.ok
    have hr2 : Room 2 _ := hr.mono (by decide)
    have hr1 : Room 1 _ := hr.mono (by decide)
    have nS := flds_no t ls.sum (m := "ends") (by decide +kernel) (by decide +kernel)
    obtain ⟨rg1, rg2⟩ := day_rng o d
    refine ⟨_, pss_one (ps_ret (pe_tup (pa_cons (pe_op op_add (pv 1) (pe_fld (pv 0) rfl)) pa_nil))), ?_⟩
    exact ⟨_, rfl, _, rfl, p, G .bk, tx, _, _, rfl, hp, Y.cl _, Y.nN _, tfl_num rfl _ _, _, _, rfl, rfl, (by show 1 ≤ sizeLine; decide), fun r hr' => k r _ (same_new hr') (by rw [upd_same]; rfl)⟩
theorem scAhS : FnScope ["self", "day", "cycle"] ["self", "day", "cycle"] (defScope sAhS) := ⟨rfl, rfl, rfl, by decide +kernel, rfl, by decide +kernel, by decide +kernel⟩
theorem ok_AhS {f : Addr} {fd : FuncData} (F : Fun K "sources" "Ahead.sources" sAhS f fd) (T : Txt K mg C fWhole fBetw fDay fChk) (Y : Ty K mg G cT cN fTI fNI fName fBB fBH fAP) (EE : EndsM P w K mg base C fEnds dEnds) (B : Hlp P w K mg base C fBB fBH fAP dBB dBH dAP) :
    FnOk P w K mg base CX0 4 f fd ["self", "day", "cycle"] (spTie G C .ah srcL) := by
  refine F.ok scAhS (fun vs H Q E h => ?_) (fun cdv A outer s H vs Q E hr h => ?_)
  · obtain ⟨p, c, n, ls, d, rfl, _⟩ := h
    rfl
  · obtain ⟨p, c, n, ls, d, rfl, ti, cy, k⟩ := h
    obtain ⟨tx, x, hp⟩ := ti.ob
    obtain ⟨dx, t, h1, h2⟩ := cy.ob
    have g := cy.ok
    have o := g.ok
    have hr2 : Room 2 _ := hr.mono (by decide)
    have hr1 : Room 1 _ := hr.mono (by decide)
    have nS := flds_no t ls.sum (m := "ends") (by decide +kernel) (by decide +kernel)
    obtain ⟨rg1, rg2⟩ := day_rng o d
    refine ⟨_, pss_one (ps_ret (pe_tup (pa_cons (pe_op op_add (pv 1) (pe_fld (pv 0) rfl)) pa_nil))), ?_⟩
    exact ⟨_, rfl, _, rfl, p, G .ah, tx, _, _, rfl, hp, Y.cl _, Y.nN _, tfl_num rfl _ _, _, _, rfl, rfl, (by show 1 ≤ sizeLine; decide), fun r hr' => k r _ (same_new hr') (by rw [upd_same]; rfl)⟩
theorem scAhU : FnScope ["self", "day", "cycle"] ["self", "day", "cycle"] (defScope sAhU) := ⟨rfl, rfl, rfl, by decide +kernel, rfl, by decide +kernel, by decide +kernel⟩
theorem ok_AhU {f : Addr} {fd : FuncData} (F : Fun K "users" "Ahead.users" sAhU f fd) (T : Txt K mg C fWhole fBetw fDay fChk) (Y : Ty K mg G cT cN fTI fNI fName fBB fBH fAP) (EE : EndsM P w K mg base C fEnds dEnds) (B : Hlp P w K mg base C fBB fBH fAP dBB dBH dAP) :
    FnOk P w K mg base CX0 4 f fd ["self", "day", "cycle"] (spTie G C .ah usrL) := by
  refine F.ok scAhU (fun vs H Q E h => ?_) (fun cdv A outer s H vs Q E hr h => ?_)
  · obtain ⟨p, c, n, ls, d, rfl, _⟩ := h
    rfl
  · obtain ⟨p, c, n, ls, d, rfl, ti, cy, k⟩ := h
    obtain ⟨tx, x, hp⟩ := ti.ob
    obtain ⟨dx, t, h1, h2⟩ := cy.ob
    have g := cy.ok
    have o := g.ok
    have hr2 : Room 2 _ := hr.mono (by decide)
    have hr1 : Room 1 _ := hr.mono (by decide)
    have nS := flds_no t ls.sum (m := "ends") (by decide +kernel) (by decide +kernel)
    obtain ⟨rg1, rg2⟩ := day_rng o d
    refine ⟨_, pss_one (ps_ret (pe_tup (pa_cons (pe_op op_sub (pv 1) (pe_fld (pv 0) rfl)) pa_nil))), ?_⟩
    exact ⟨_, rfl, _, rfl, p, G .ah, tx, _, _, rfl, hp, Y.cl _, Y.nN _, tfl_num rfl _ _, _, _, rfl, rfl, (by show 1 ≤ sizeLine; decide), fun r hr' => k r _ (same_new hr') (by rw [upd_same]; rfl)⟩
theorem scSoS : FnScope ["self", "day", "cycle"] ["self", "day", "cycle"] (defScope sSoS) := ⟨rfl, rfl, rfl, by decide +kernel, rfl, by decide +kernel, by decide +kernel⟩
theorem ok_SoS {f : Addr} {fd : FuncData} (F : Fun K "sources" "Sofar.sources" sSoS f fd) (T : Txt K mg C fWhole fBetw fDay fChk) (Y : Ty K mg G cT cN fTI fNI fName fBB fBH fAP) (EE : EndsM P w K mg base C fEnds dEnds) (B : Hlp P w K mg base C fBB fBH fAP dBB dBH dAP) :
    FnOk P w K mg base CX0 4 f fd ["self", "day", "cycle"] (spTie G C .so srcL) := by
  refine F.ok scSoS (fun vs H Q E h => ?_) (fun cdv A outer s H vs Q E hr h => ?_)
  · obtain ⟨p, c, n, ls, d, rfl, _⟩ := h
    rfl
  · obtain ⟨p, c, n, ls, d, rfl, ti, cy, k⟩ := h
    obtain ⟨tx, x, hp⟩ := ti.ob
    obtain ⟨dx, t, h1, h2⟩ := cy.ob
    have g := cy.ok
    have o := g.ok
    have hr2 : Room 2 _ := hr.mono (by decide)
    have hr1 : Room 1 _ := hr.mono (by decide)
    have nS := flds_no t ls.sum (m := "ends") (by decide +kernel) (by decide +kernel)
    obtain ⟨rg1, rg2⟩ := day_rng o d
    refine ⟨_, pss_one (ps_ret (pe_tupW rfl (by rfl) T.zTuple (prg_2 (by rfl) T.zRange (pe_ix ix_tup (pe_meth (pv 2) T.cl EE.m EE.F hr2 EE.b .nil pass0 (pa_cons (pv 1) pa_nil)) pe_int (fun _ _ => rfl)) (pe_op op_add (pv 1) pe_int)))), ?_⟩
    exact ⟨_, rfl, c, dx, _, rfl, h1, nS, _, rfl, c, ls, d, rfl, cy, fun q H1 s1 hq => ⟨q, _, _, _, rfl, rfl, SqT.of hq, atI_nat (j := 0) rfl, _, rfl, _, _, rfl, rfl, _, _, rfl, rfl, few_block g (d := d) (Int.le_refl _) (by omega), fun r hr' => k r _ (s1.trans (same_new hr')) (by rw [upd_same, rg_map]; rfl)⟩⟩
theorem scSoU : FnScope ["self", "day", "cycle"] ["self", "day", "cycle"] (defScope sSoU) := ⟨rfl, rfl, rfl, by decide +kernel, rfl, by decide +kernel, by decide +kernel⟩
theorem ok_SoU {f : Addr} {fd : FuncData} (F : Fun K "users" "Sofar.users" sSoU f fd) (T : Txt K mg C fWhole fBetw fDay fChk) (Y : Ty K mg G cT cN fTI fNI fName fBB fBH fAP) (EE : EndsM P w K mg base C fEnds dEnds) (B : Hlp P w K mg base C fBB fBH fAP dBB dBH dAP) :
    FnOk P w K mg base CX0 4 f fd ["self", "day", "cycle"] (spTie G C .so usrL) := by
  refine F.ok scSoU (fun vs H Q E h => ?_) (fun cdv A outer s H vs Q E hr h => ?_)
  · obtain ⟨p, c, n, ls, d, rfl, _⟩ := h
    rfl
  · obtain ⟨p, c, n, ls, d, rfl, ti, cy, k⟩ := h
    obtain ⟨tx, x, hp⟩ := ti.ob
    obtain ⟨dx, t, h1, h2⟩ := cy.ob
    have g := cy.ok
    have o := g.ok
    have hr2 : Room 2 _ := hr.mono (by decide)
    have hr1 : Room 1 _ := hr.mono (by decide)
    have nS := flds_no t ls.sum (m := "ends") (by decide +kernel) (by decide +kernel)
    obtain ⟨rg1, rg2⟩ := day_rng o d
    refine ⟨_, pss_one (ps_ret (pe_tupW rfl (by rfl) T.zTuple (prg_2 (by rfl) T.zRange (pv 1) (pe_op op_add (pe_ix ix_tup (pe_meth (pv 2) T.cl EE.m EE.F hr2 EE.b .nil pass0 (pa_cons (pv 1) pa_nil)) pe_int (fun _ _ => rfl)) pe_int)))), ?_⟩
    exact ⟨_, rfl, _, rfl, c, dx, _, rfl, h1, nS, _, rfl, c, ls, d, rfl, cy, fun q H1 s1 hq => ⟨q, _, _, _, rfl, rfl, SqT.of hq, atI_nat (j := 1) rfl, _, _, rfl, rfl, _, _, rfl, rfl, few_block g (d := d) (by omega) (Int.le_refl _), fun r hr' => k r _ (s1.trans (same_new hr')) (by rw [upd_same, rg_map]; rfl)⟩⟩
theorem scWhS : FnScope ["self", "day", "cycle"] ["self", "day", "cycle"] (defScope sWhS) := ⟨rfl, rfl, rfl, by decide +kernel, rfl, by decide +kernel, by decide +kernel⟩
theorem ok_WhS {f : Addr} {fd : FuncData} (F : Fun K "sources" "Whole.sources" sWhS f fd) (T : Txt K mg C fWhole fBetw fDay fChk) (Y : Ty K mg G cT cN fTI fNI fName fBB fBH fAP) (EE : EndsM P w K mg base C fEnds dEnds) (B : Hlp P w K mg base C fBB fBH fAP dBB dBH dAP) :
    FnOk P w K mg base CX0 4 f fd ["self", "day", "cycle"] (spTie G C .wh srcL) := by
  refine F.ok scWhS (fun vs H Q E h => ?_) (fun cdv A outer s H vs Q E hr h => ?_)
  · obtain ⟨p, c, n, ls, d, rfl, _⟩ := h
    rfl
  · obtain ⟨p, c, n, ls, d, rfl, ti, cy, k⟩ := h
    obtain ⟨tx, x, hp⟩ := ti.ob
    obtain ⟨dx, t, h1, h2⟩ := cy.ob
    have g := cy.ok
    have o := g.ok
    have hr2 : Room 2 _ := hr.mono (by decide)
    have hr3 : Room 3 _ := hr.mono (by decide)
    have hr1 : Room 1 _ := hr.mono (by decide)
    have nS := flds_no t ls.sum (m := "ends") (by decide +kernel) (by decide +kernel)
    obtain ⟨rg1, rg2⟩ := day_rng o d
    refine ⟨_, pss_one (ps_ret (pe_call B.bb.F hr3 rfl B.bb.g B.bb.kp B.bb.b .nil pass0 (pa_cons (pv 1) (pa_cons (pv 2) pa_nil)))), ?_⟩
    exact ⟨_, rfl, _, rfl, c, ls, d, rfl, cy, fun r H' s1 hr' => k r H' s1 hr'⟩
theorem scWhU : FnScope ["self", "day", "cycle"] ["self", "day", "cycle"] (defScope sWhU) := ⟨rfl, rfl, rfl, by decide +kernel, rfl, by decide +kernel, by decide +kernel⟩
theorem ok_WhU {f : Addr} {fd : FuncData} (F : Fun K "users" "Whole.users" sWhU f fd) (T : Txt K mg C fWhole fBetw fDay fChk) (Y : Ty K mg G cT cN fTI fNI fName fBB fBH fAP) (EE : EndsM P w K mg base C fEnds dEnds) (B : Hlp P w K mg base C fBB fBH fAP dBB dBH dAP) :
    FnOk P w K mg base CX0 4 f fd ["self", "day", "cycle"] (spTie G C .wh usrL) := by
  refine F.ok scWhU (fun vs H Q E h => ?_) (fun cdv A outer s H vs Q E hr h => ?_)
  · obtain ⟨p, c, n, ls, d, rfl, _⟩ := h
    rfl
  · obtain ⟨p, c, n, ls, d, rfl, ti, cy, k⟩ := h
    obtain ⟨tx, x, hp⟩ := ti.ob
    obtain ⟨dx, t, h1, h2⟩ := cy.ob
    have g := cy.ok
    have o := g.ok
    have hr2 : Room 2 _ := hr.mono (by decide)
    have hr3 : Room 3 _ := hr.mono (by decide)
    have hr1 : Room 1 _ := hr.mono (by decide)
    have nS := flds_no t ls.sum (m := "ends") (by decide +kernel) (by decide +kernel)
    obtain ⟨rg1, rg2⟩ := day_rng o d
    refine ⟨_, pss_one (ps_ret (pe_call B.bh.F hr3 rfl B.bh.g B.bh.kp B.bh.b .nil pass0 (pa_cons (pv 1) (pa_cons (pv 2) pa_nil)))), ?_⟩
    exact ⟨_, rfl, _, rfl, c, ls, d, rfl, cy, fun r H' s1 hr' => k r H' s1 hr'⟩
theorem scLaS : FnScope ["self", "day", "cycle"] ["self", "day", "cycle"] (defScope sLaS) := ⟨rfl, rfl, rfl, by decide +kernel, rfl, by decide +kernel, by decide +kernel⟩
theorem ok_LaS {f : Addr} {fd : FuncData} (F : Fun K "sources" "Last.sources" sLaS f fd) (T : Txt K mg C fWhole fBetw fDay fChk) (Y : Ty K mg G cT cN fTI fNI fName fBB fBH fAP) (EE : EndsM P w K mg base C fEnds dEnds) (B : Hlp P w K mg base C fBB fBH fAP dBB dBH dAP) :
    FnOk P w K mg base CX0 4 f fd ["self", "day", "cycle"] (spTie G C .la srcL) := by
  refine F.ok scLaS (fun vs H Q E h => ?_) (fun cdv A outer s H vs Q E hr h => ?_)
  · obtain ⟨p, c, n, ls, d, rfl, _⟩ := h
    rfl
  · obtain ⟨p, c, n, ls, d, rfl, ti, cy, k⟩ := h
    obtain ⟨tx, x, hp⟩ := ti.ob
    obtain ⟨dx, t, h1, h2⟩ := cy.ob
    have g := cy.ok
    have o := g.ok
    have hr2 : Room 2 _ := hr.mono (by decide)
    have hr3 : Room 3 _ := hr.mono (by decide)
    have hr1 : Room 1 _ := hr.mono (by decide)
    have nS := flds_no t ls.sum (m := "ends") (by decide +kernel) (by decide +kernel)
    obtain ⟨rg1, rg2⟩ := day_rng o d
    refine ⟨_, pss_one (ps_ret (pe_tup (pa_cons (pe_op op_sub (pe_ix ix_tup (pe_meth (pv 2) T.cl EE.m EE.F hr2 EE.b .nil pass0 (pa_cons (pv 1) pa_nil)) pe_int (fun _ _ => rfl)) pe_int) pa_nil))), ?_⟩
    exact ⟨_, rfl, c, dx, _, rfl, h1, nS, _, rfl, c, ls, d, rfl, cy, fun q H1 s1 hq => ⟨q, _, _, _, rfl, rfl, SqT.of hq, atI_nat (j := 0) rfl, _, _, rfl, rfl, (by show 1 ≤ sizeLine; decide), fun r hr' => k r _ (s1.trans (same_new hr')) (by rw [upd_same]; rfl)⟩⟩
theorem scLaU : FnScope ["self", "day", "cycle"] ["self", "day", "cycle"] (defScope sLaU) := ⟨rfl, rfl, rfl, by decide +kernel, rfl, by decide +kernel, by decide +kernel⟩
theorem ok_LaU {f : Addr} {fd : FuncData} (F : Fun K "users" "Last.users" sLaU f fd) (T : Txt K mg C fWhole fBetw fDay fChk) (Y : Ty K mg G cT cN fTI fNI fName fBB fBH fAP) (EE : EndsM P w K mg base C fEnds dEnds) (B : Hlp P w K mg base C fBB fBH fAP dBB dBH dAP) :
    FnOk P w K mg base CX0 4 f fd ["self", "day", "cycle"] (spTie G C .la usrL) := by
  refine F.ok scLaU (fun vs H Q E h => ?_) (fun cdv A outer s H vs Q E hr h => ?_)
  · obtain ⟨p, c, n, ls, d, rfl, _⟩ := h
    rfl
  · obtain ⟨p, c, n, ls, d, rfl, ti, cy, k⟩ := h
    obtain ⟨tx, x, hp⟩ := ti.ob
    obtain ⟨dx, t, h1, h2⟩ := cy.ob
    have g := cy.ok
    have o := g.ok
    have hr2 : Room 2 _ := hr.mono (by decide)
    have hr3 : Room 3 _ := hr.mono (by decide)
    have hr1 : Room 1 _ := hr.mono (by decide)
    have nS := flds_no t ls.sum (m := "ends") (by decide +kernel) (by decide +kernel)
    obtain ⟨rg1, rg2⟩ := day_rng o d
    refine ⟨_, pss_one (ps_ret (pe_ifExp (pt_cmpR op_eq (pe_ix ix_tup (pe_meth (pv 2) T.cl EE.m EE.F hr2 EE.b .nil pass0 (pa_cons (pv 1) pa_nil)) pe_int (fun _ _ => rfl)) (pv 1) (nomark _)) (pe_call B.bh.F hr3 rfl B.bh.g B.bh.kp B.bh.b .nil pass0 (pa_cons (pv 1) (pa_cons (pv 2) pa_nil))) (pe_tup pa_nil))), ?_⟩
    refine ⟨_, rfl, c, dx, _, rfl, h1, nS, _, rfl, c, ls, d, rfl, cy, fun q H1 s1 hq => ⟨q, _, _, _, rfl, rfl, SqT.of hq, atI_nat (j := 1) rfl, _, rfl, rfl, _, rfl, ?_⟩⟩
    by_cases e : lstD ls d = d
    · have e' : fstD ls d + lenD ls d - 1 = d := e
      rw [decide_eq_true (by rw [e'])]
      refine iteT ⟨_, rfl, _, rfl, c, ls, d, rfl, cy.same s1, fun r H' s2 hr' => k r H' (s1.trans s2) ?_⟩
      rw [hr']
      show _ = some (HO.tup (List.map V.int (if lstD ls d = d then _ else _)))
      rw [if_pos e]
      rfl
    · have e' : ¬ V.int (fstD ls d + lenD ls d - 1) = V.int d := fun z => e (V.int.inj z)
      rw [decide_eq_false e']
      refine iteF ⟨Nat.zero_le _, fun r hr' => k r _ (s1.trans (same_new hr')) ?_⟩
      rw [upd_same]
      show _ = some (HO.tup (List.map V.int (if lstD ls d = d then _ else _)))
      rw [if_neg e]
      rfl
theorem scSmS : FnScope ["self", "day", "cycle"] ["self", "day", "cycle"] (defScope sSmS) := ⟨rfl, rfl, rfl, by decide +kernel, rfl, by decide +kernel, by decide +kernel⟩
theorem ok_SmS {f : Addr} {fd : FuncData} (F : Fun K "sources" "Same.sources" sSmS f fd) (T : Txt K mg C fWhole fBetw fDay fChk) (Y : Ty K mg G cT cN fTI fNI fName fBB fBH fAP) (EE : EndsM P w K mg base C fEnds dEnds) (B : Hlp P w K mg base C fBB fBH fAP dBB dBH dAP) :
    FnOk P w K mg base CX0 4 f fd ["self", "day", "cycle"] (spTie G C .sm srcL) := by
  refine F.ok scSmS (fun vs H Q E h => ?_) (fun cdv A outer s H vs Q E hr h => ?_)
  · obtain ⟨p, c, n, ls, d, rfl, _⟩ := h
    rfl
  · obtain ⟨p, c, n, ls, d, rfl, ti, cy, k⟩ := h
    obtain ⟨tx, x, hp⟩ := ti.ob
    obtain ⟨dx, t, h1, h2⟩ := cy.ob
    have g := cy.ok
    have o := g.ok
    have hr2 : Room 2 _ := hr.mono (by decide)
    have hr3 : Room 3 _ := hr.mono (by decide)
    have hr1 : Room 1 _ := hr.mono (by decide)
    have nS := flds_no t ls.sum (m := "ends") (by decide +kernel) (by decide +kernel)
    obtain ⟨rg1, rg2⟩ := day_rng o d
    refine ⟨_, pss_one (ps_ret (pe_call B.ap.F hr1 rfl B.ap.g B.ap.kp B.ap.b .nil pass0 (pa_cons (pe_call B.bb.F hr3 rfl B.bb.g B.bb.kp B.bb.b .nil pass0 (pa_cons (pv 1) (pa_cons (pv 2) pa_nil))) (pa_cons (pe_op op_sub (pv 1) (pe_ix ix_tup (pe_meth (pv 2) T.cl EE.m EE.F hr2 EE.b .nil pass0 (pa_cons (pv 1) pa_nil)) pe_int (fun _ _ => rfl))) pa_nil)))), ?_⟩
    refine ⟨_, rfl, _, rfl, c, ls, d, rfl, cy, fun r H0 s0 hr0 => ⟨_, rfl, ?_⟩⟩
    refine ⟨_, rfl, c, dx, _, rfl, s0 _ _ h1, nS, _, rfl, c, ls, d, rfl, cy.same s0, fun q H1 s1 hq => ⟨q, _, _, _, rfl, rfl, SqT.of hq, atI_nat (j := 0) rfl, _, _, rfl, rfl, r, _, _, _, rfl, s1 _ _ hr0, (by omega), fun r2 H' s2 hr2 => k r2 H' (s0.trans (s1.trans s2)) hr2⟩⟩
theorem scSmU : FnScope ["self", "day", "cycle"] ["self", "day", "cycle"] (defScope sSmU) := ⟨rfl, rfl, rfl, by decide +kernel, rfl, by decide +kernel, by decide +kernel⟩
theorem ok_SmU {f : Addr} {fd : FuncData} (F : Fun K "users" "Same.users" sSmU f fd) (T : Txt K mg C fWhole fBetw fDay fChk) (Y : Ty K mg G cT cN fTI fNI fName fBB fBH fAP) (EE : EndsM P w K mg base C fEnds dEnds) (B : Hlp P w K mg base C fBB fBH fAP dBB dBH dAP) :
    FnOk P w K mg base CX0 4 f fd ["self", "day", "cycle"] (spTie G C .sm usrL) := by
  refine F.ok scSmU (fun vs H Q E h => ?_) (fun cdv A outer s H vs Q E hr h => ?_)
  · obtain ⟨p, c, n, ls, d, rfl, _⟩ := h
    rfl
  · obtain ⟨p, c, n, ls, d, rfl, ti, cy, k⟩ := h
    obtain ⟨tx, x, hp⟩ := ti.ob
    obtain ⟨dx, t, h1, h2⟩ := cy.ob
    have g := cy.ok
    have o := g.ok
    have hr2 : Room 2 _ := hr.mono (by decide)
    have hr3 : Room 3 _ := hr.mono (by decide)
    have hr1 : Room 1 _ := hr.mono (by decide)
    have nS := flds_no t ls.sum (m := "ends") (by decide +kernel) (by decide +kernel)
    obtain ⟨rg1, rg2⟩ := day_rng o d
    refine ⟨_, pss_one (ps_ret (pe_call B.ap.F hr1 rfl B.ap.g B.ap.kp B.ap.b .nil pass0 (pa_cons (pe_call B.bh.F hr3 rfl B.bh.g B.bh.kp B.bh.b .nil pass0 (pa_cons (pv 1) (pa_cons (pv 2) pa_nil))) (pa_cons (pe_op op_sub (pv 1) (pe_ix ix_tup (pe_meth (pv 2) T.cl EE.m EE.F hr2 EE.b .nil pass0 (pa_cons (pv 1) pa_nil)) pe_int (fun _ _ => rfl))) pa_nil)))), ?_⟩
    refine ⟨_, rfl, _, rfl, c, ls, d, rfl, cy, fun r H0 s0 hr0 => ⟨_, rfl, ?_⟩⟩
    refine ⟨_, rfl, c, dx, _, rfl, s0 _ _ h1, nS, _, rfl, c, ls, d, rfl, cy.same s0, fun q H1 s1 hq => ⟨q, _, _, _, rfl, rfl, SqT.of hq, atI_nat (j := 0) rfl, _, _, rfl, rfl, r, _, _, _, rfl, s1 _ _ hr0, (by omega), fun r2 H' s2 hr2 => k r2 H' (s0.trans (s1.trans s2)) hr2⟩⟩
/-- a method of all six classes -/
structure TieM (P : Program) (w : World) (K : PySem.W.Frag) (mg : Str → Option Value) (base : Heap) (G : Kd → Addr) (C : Addr) (m : Str) (lv : Nat) (L : Kd → Int → List Int → Int → List Int) (fS : Kd → Addr) (dS : Kd → FuncData) : Prop where
  F : ∀ k, FnOk P w K mg base CX0 lv (fS k) (dS k) ["self", "day", "cycle"] (spTie G C k L)
  b : ∀ k, Binds K (dS k) ["self", "day", "cycle"] []
  m : ∀ k, Meth K (G k) m (fS k)
variable {fS : Kd → Addr} {dS : Kd → FuncData}
theorem scBkC : FnScope ["self", "day", "cycle"] ["self", "day", "cycle"] (defScope sBkC) := ⟨rfl, rfl, rfl, by decide +kernel, rfl, by decide +kernel, by decide +kernel⟩
theorem ok_BkC {f : Addr} {fd : FuncData} (F : Fun K "__call__" "Back.__call__" sBkC f fd) (Y : Ty K mg G cT cN fTI fNI fName fBB fBH fAP) (M : TieM P w K mg base G C "sources" 4 srcL fS dS) :
    FnOk P w K mg base CX0 5 f fd ["self", "day", "cycle"] (spTie G C .bk srcL) := by
  refine F.ok scBkC (fun vs H Q E h => ?_) (fun cdv A outer s H vs Q E hr h => ?_)
  · obtain ⟨p, c, n, ls, d, rfl, _⟩ := h
    rfl
  · obtain ⟨p, c, n, ls, d, rfl, ti, cy, k⟩ := h
    obtain ⟨tx, x, hp⟩ := ti.ob
    refine ⟨_, pss_one (ps_ret (pe_meth (pv 0) (Y.cl .bk) (M.m .bk) (M.F .bk) hr (M.b .bk) .nil pass0 (pa_cons (pv 1) (pa_cons (pv 2) pa_nil)))), ?_⟩
    exact ⟨_, rfl, p, tx, _, rfl, hp, tfl_no _ _ _ (by decide +kernel) (by decide +kernel), _, rfl, _, rfl, p, c, n, ls, d, rfl, ti, cy, k⟩
theorem scAhC : FnScope ["self", "day", "cycle"] ["self", "day", "cycle"] (defScope sAhC) := ⟨rfl, rfl, rfl, by decide +kernel, rfl, by decide +kernel, by decide +kernel⟩
theorem ok_AhC {f : Addr} {fd : FuncData} (F : Fun K "__call__" "Ahead.__call__" sAhC f fd) (Y : Ty K mg G cT cN fTI fNI fName fBB fBH fAP) (M : TieM P w K mg base G C "sources" 4 srcL fS dS) :
    FnOk P w K mg base CX0 5 f fd ["self", "day", "cycle"] (spTie G C .ah srcL) := by
  refine F.ok scAhC (fun vs H Q E h => ?_) (fun cdv A outer s H vs Q E hr h => ?_)
  · obtain ⟨p, c, n, ls, d, rfl, _⟩ := h
    rfl
  · obtain ⟨p, c, n, ls, d, rfl, ti, cy, k⟩ := h
    obtain ⟨tx, x, hp⟩ := ti.ob
    refine ⟨_, pss_one (ps_ret (pe_meth (pv 0) (Y.cl .ah) (M.m .ah) (M.F .ah) hr (M.b .ah) .nil pass0 (pa_cons (pv 1) (pa_cons (pv 2) pa_nil)))), ?_⟩
    exact ⟨_, rfl, p, tx, _, rfl, hp, tfl_no _ _ _ (by decide +kernel) (by decide +kernel), _, rfl, _, rfl, p, c, n, ls, d, rfl, ti, cy, k⟩
theorem scSoC : FnScope ["self", "day", "cycle"] ["self", "day", "cycle"] (defScope sSoC) := ⟨rfl, rfl, rfl, by decide +kernel, rfl, by decide +kernel, by decide +kernel⟩
theorem ok_SoC {f : Addr} {fd : FuncData} (F : Fun K "__call__" "Sofar.__call__" sSoC f fd) (Y : Ty K mg G cT cN fTI fNI fName fBB fBH fAP) (M : TieM P w K mg base G C "sources" 4 srcL fS dS) :
    FnOk P w K mg base CX0 5 f fd ["self", "day", "cycle"] (spTie G C .so srcL) := by
  refine F.ok scSoC (fun vs H Q E h => ?_) (fun cdv A outer s H vs Q E hr h => ?_)
  · obtain ⟨p, c, n, ls, d, rfl, _⟩ := h
    rfl
  · obtain ⟨p, c, n, ls, d, rfl, ti, cy, k⟩ := h
    obtain ⟨tx, x, hp⟩ := ti.ob
    refine ⟨_, pss_one (ps_ret (pe_meth (pv 0) (Y.cl .so) (M.m .so) (M.F .so) hr (M.b .so) .nil pass0 (pa_cons (pv 1) (pa_cons (pv 2) pa_nil)))), ?_⟩
    exact ⟨_, rfl, p, tx, _, rfl, hp, tfl_no _ _ _ (by decide +kernel) (by decide +kernel), _, rfl, _, rfl, p, c, n, ls, d, rfl, ti, cy, k⟩
theorem scWhC : FnScope ["self", "day", "cycle"] ["self", "day", "cycle"] (defScope sWhC) := ⟨rfl, rfl, rfl, by decide +kernel, rfl, by decide +kernel, by decide +kernel⟩
theorem ok_WhC {f : Addr} {fd : FuncData} (F : Fun K "__call__" "Whole.__call__" sWhC f fd) (Y : Ty K mg G cT cN fTI fNI fName fBB fBH fAP) (M : TieM P w K mg base G C "sources" 4 srcL fS dS) :
    FnOk P w K mg base CX0 5 f fd ["self", "day", "cycle"] (spTie G C .wh srcL) := by
  refine F.ok scWhC (fun vs H Q E h => ?_) (fun cdv A outer s H vs Q E hr h => ?_)
  · obtain ⟨p, c, n, ls, d, rfl, _⟩ := h
    rfl
  · obtain ⟨p, c, n, ls, d, rfl, ti, cy, k⟩ := h
    obtain ⟨tx, x, hp⟩ := ti.ob
    refine ⟨_, pss_one (ps_ret (pe_meth (pv 0) (Y.cl .wh) (M.m .wh) (M.F .wh) hr (M.b .wh) .nil pass0 (pa_cons (pv 1) (pa_cons (pv 2) pa_nil)))), ?_⟩
    exact ⟨_, rfl, p, tx, _, rfl, hp, tfl_no _ _ _ (by decide +kernel) (by decide +kernel), _, rfl, _, rfl, p, c, n, ls, d, rfl, ti, cy, k⟩
theorem scLaC : FnScope ["self", "day", "cycle"] ["self", "day", "cycle"] (defScope sLaC) := ⟨rfl, rfl, rfl, by decide +kernel, rfl, by decide +kernel, by decide +kernel⟩
theorem ok_LaC {f : Addr} {fd : FuncData} (F : Fun K "__call__" "Last.__call__" sLaC f fd) (Y : Ty K mg G cT cN fTI fNI fName fBB fBH fAP) (M : TieM P w K mg base G C "sources" 4 srcL fS dS) :
    FnOk P w K mg base CX0 5 f fd ["self", "day", "cycle"] (spTie G C .la srcL) := by
  refine F.ok scLaC (fun vs H Q E h => ?_) (fun cdv A outer s H vs Q E hr h => ?_)
  · obtain ⟨p, c, n, ls, d, rfl, _⟩ := h
    rfl
  · obtain ⟨p, c, n, ls, d, rfl, ti, cy, k⟩ := h
    obtain ⟨tx, x, hp⟩ := ti.ob
    refine ⟨_, pss_one (ps_ret (pe_meth (pv 0) (Y.cl .la) (M.m .la) (M.F .la) hr (M.b .la) .nil pass0 (pa_cons (pv 1) (pa_cons (pv 2) pa_nil)))), ?_⟩
    exact ⟨_, rfl, p, tx, _, rfl, hp, tfl_no _ _ _ (by decide +kernel) (by decide +kernel), _, rfl, _, rfl, p, c, n, ls, d, rfl, ti, cy, k⟩
theorem scSmC : FnScope ["self", "day", "cycle"] ["self", "day", "cycle"] (defScope sSmC) := ⟨rfl, rfl, rfl, by decide +kernel, rfl, by decide +kernel, by decide +kernel⟩
theorem ok_SmC {f : Addr} {fd : FuncData} (F : Fun K "__call__" "Same.__call__" sSmC f fd) (Y : Ty K mg G cT cN fTI fNI fName fBB fBH fAP) (M : TieM P w K mg base G C "sources" 4 srcL fS dS) :
    FnOk P w K mg base CX0 5 f fd ["self", "day", "cycle"] (spTie G C .sm srcL) := by
  refine F.ok scSmC (fun vs H Q E h => ?_) (fun cdv A outer s H vs Q E hr h => ?_)
  · obtain ⟨p, c, n, ls, d, rfl, _⟩ := h
    rfl
  · obtain ⟨p, c, n, ls, d, rfl, ti, cy, k⟩ := h
    obtain ⟨tx, x, hp⟩ := ti.ob
    refine ⟨_, pss_one (ps_ret (pe_meth (pv 0) (Y.cl .sm) (M.m .sm) (M.F .sm) hr (M.b .sm) .nil pass0 (pa_cons (pv 1) (pa_cons (pv 2) pa_nil)))), ?_⟩
    exact ⟨_, rfl, p, tx, _, rfl, hp, tfl_no _ _ _ (by decide +kernel) (by decide +kernel), _, rfl, _, rfl, p, c, n, ls, d, rfl, ti, cy, k⟩
end
end My
namespace My
open PySem PySem.Spec PyProof.Rows L2
abbrev sTieOf : Stmt := top 45
abbrev sPlain : Stmt := top 46
abbrev sAsc : Stmt := top 47
theorem pe_exK {X : Cx} {e : Expr} {t : Kd → TE} (h : ∀ k, PE X e (t k)) : PE X e (fun σ H Q => ∃ k, t k σ H Q) := ⟨fun pins s σ H Q I ⟨k, q⟩ => (h k).run pins s σ H Q I q⟩
theorem ite_ne {A B : Prop} {a b : Str} (h : ¬ a = b) (k : B) : if decide (V.str a = V.str b) = true then A else B := by
  rw [decide_eq_false (fun z => h (V.str.inj z))]
  exact iteF k
theorem ite_eq {A B : Prop} {a : Str} (k : A) : if decide (V.str a = V.str a) = true then A else B := by
  rw [decide_eq_true rfl]
  exact iteT k
def wordOf : Kd → Str
  | .bk => "back"
  | .ah => "ahead"
  | .so => "sofar"
  | .wh => "whole"
  | .la => "last"
  | .sm => "same"
def numV (k : Kd) (n : Int) : V := if isNum k then .int n else .non
/-- a number that a tie of the kind may have; 0 where it has none -/
structure NumOk (k : Kd) (n : Int) : Prop where
  lo : 0 ≤ n
  ah : k = .ah → 1 ≤ n
  hi : n ≤ 60
  no : isNum k = false → n = 0
section
variable {P : Program} {w : World} {K : PySem.W.Frag} {mg : Str → Option Value} {base : Heap} {C fWhole fBetw fDay fChk : Addr} {G : Kd → Addr} {cT cN fTI fNI fName fBB fBH fAP : Addr}
/-- the six classes, made -/
structure MkT (P : Program) (w : World) (K : PySem.W.Frag) (mg : Str → Option Value) (base : Heap) (G : Kd → Addr) (fI : Kd → Addr) (dI : Kd → FuncData) : Prop where
  fn : ∀ k, isNum k = true → FnOk P w K mg base CX0 4 (fI k) (dI k) ["self", "source", "number"] (spInitN G k)
  bn : ∀ k, isNum k = true → Binds K (dI k) ["self", "source", "number"] []
  fp : ∀ k, isNum k = false → FnOk P w K mg base CX0 4 (fI k) (dI k) ["self", "source"] (spInitP G k)
  bp : ∀ k, isNum k = false → Binds K (dI k) ["self", "source"] []
  m : ∀ k, Mk K (G k) (fI k)
variable {fI : Kd → Addr} {dI : Kd → FuncData}
theorem made_num {k : Kd} {H : Hp} {x : Str} {n : Int} {Q : VK} {E : XK} (nm : NameOk x) (ok : NumOk k n) (kk : ∀ p H', Same H H' → H p = none → TieAt G H' p k n → Q (.ref p) H') :
    ∀ p dx, H p = none → H dx = none → dx ≠ p → spInitN G k (.ref p :: ([.str x, .int n] ++ [])) (upd (upd H dx (.own p)) p (.ins (G k) dx [])) (fun v H2 => v = .non ∧ Q (.ref p) H2) E := fun p dx np nd ne =>
  ⟨p, dx, x, n, rfl, nm, upd_same, ok.lo, ok.ah, ok.hi, fun H' keep hp => ⟨rfl, kk p H' (fun b o e => keep b o (by rw [upd_ne (ne_of_none e np), upd_ne (ne_of_none e nd)]; exact e) (ne_of_none e np)) np ⟨dx, x, hp⟩⟩⟩
theorem made_pl {k : Kd} {H : Hp} {x : Str} {Q : VK} {E : XK} (nm : NameOk x) (kk : ∀ p H', Same H H' → H p = none → TieAt G H' p k 0 → Q (.ref p) H') :
    ∀ p dx, H p = none → H dx = none → dx ≠ p → spInitP G k (.ref p :: ([.str x] ++ [])) (upd (upd H dx (.own p)) p (.ins (G k) dx [])) (fun v H2 => v = .non ∧ Q (.ref p) H2) E := fun p dx np nd ne =>
  ⟨p, dx, x, rfl, nm, upd_same, fun H' keep hp => ⟨rfl, kk p H' (fun b o e => keep b o (by rw [upd_ne (ne_of_none e np), upd_ne (ne_of_none e nd)]; exact e) (ne_of_none e np)) np ⟨dx, x, hp⟩⟩⟩
def spTieOf (G : Kd → Addr) : Sp := fun vs H Q _ => ∃ (t : Addr) (k : Kd) (n : Int) (x : Str), vs = [.ref t] ∧ H t = some (.tup [.str (wordOf k), numV k n, .str x]) ∧ NameOk x ∧ NumOk k n ∧ ∀ p H', Same H H' → H p = none → TieAt G H' p k n → Q (.ref p) H'
theorem scTieOf : FnScope ["_law_plain_here", "_law_word", "_law_number_so", "_law_label"] ["_law_plain_here"] (defScope sTieOf) := ⟨rfl, rfl, rfl, by decide +kernel, rfl, by decide +kernel, by decide +kernel⟩
theorem ok_tieOf {f : Addr} {fd : FuncData} (F : Fun K "_law_tie" "_law_tie" sTieOf f fd) (Y : Ty K mg G cT cN fTI fNI fName fBB fBH fAP) (M : MkT P w K mg base G fI dI) : FnOk P w K mg base CX0 6 f fd ["_law_plain_here"] (spTieOf G) := by
  refine F.ok scTieOf (fun vs H Q E h => ?_) (fun cdv A outer s H vs Q E hr h => ?_)
  · obtain ⟨t, k, n, x, rfl, _⟩ := h
    rfl
  · obtain ⟨t, k, n, x, rfl, ht, nm, ok, kk⟩ := h
    refine ⟨_, pss_cons (ps_asg (pv 0) (pg_tup rfl (pgs_cons (pg_name (i := 1) scTieOf.nd rfl (.inl rfl)) (pgs_cons (pg_name (i := 2) scTieOf.nd rfl (.inl rfl)) (pgs_cons (pg_name (i := 3) scTieOf.nd rfl (.inl rfl)) pgs_nil)))))
      (pss_cons (ps_if (pt_cmpR op_eq (pv 1) pe_str (nomark _)) (pss_one (ps_ret (pe_make (M.m .bk) (M.fn .bk rfl) hr rfl Y.gBk (M.bn .bk rfl) .nil pass0 (pa_cons (pv 3) (pa_cons (pv 2) pa_nil))))) pss_nil)
      (pss_cons (ps_if (pt_cmpR op_eq (pv 1) pe_str (nomark _)) (pss_one (ps_ret (pe_make (M.m .ah) (M.fn .ah rfl) hr rfl Y.gAh (M.bn .ah rfl) .nil pass0 (pa_cons (pv 3) (pa_cons (pv 2) pa_nil))))) pss_nil)
      (pss_cons (ps_if (pt_cmpR op_eq (pv 1) pe_str (nomark _)) (pss_one (ps_ret (pe_make (M.m .so) (M.fp .so rfl) hr rfl Y.gSo (M.bp .so rfl) .nil pass0 (pa_cons (pv 3) pa_nil)))) pss_nil)
      (pss_cons (ps_if (pt_cmpR op_eq (pv 1) pe_str (nomark _)) (pss_one (ps_ret (pe_make (M.m .wh) (M.fp .wh rfl) hr rfl Y.gWh (M.bp .wh rfl) .nil pass0 (pa_cons (pv 3) pa_nil)))) pss_nil)
      (pss_one (ps_ret (pe_ifExp (pt_cmpR op_eq (pv 1) pe_str (nomark _)) (pe_make (M.m .la) (M.fp .la rfl) hr rfl Y.gLa (M.bp .la rfl) .nil pass0 (pa_cons (pv 3) pa_nil)) (pe_make (M.m .sm) (M.fp .sm rfl) hr rfl Y.gSm (M.bp .sm rfl) .nil pass0 (pa_cons (pv 3) pa_nil)))))))))
      , ?_⟩
    refine ⟨_, rfl, t, _, rfl, SqT.of ht, rfl, _, _, rfl, _, _, rfl, _, _, rfl, rfl, ?_⟩
    refine ⟨_, rfl, rfl, _, rfl, ?_⟩
    cases k with
    | bk => exact ite_eq ⟨_, rfl, _, rfl, made_num nm ok kk⟩
    | ah => exact ite_ne (by decide +kernel) ⟨_, rfl, rfl, _, rfl, ite_eq ⟨_, rfl, _, rfl, made_num nm ok kk⟩⟩
    | so =>
      obtain rfl := ok.no rfl
      exact ite_ne (by decide +kernel) ⟨_, rfl, rfl, _, rfl, ite_ne (by decide +kernel) ⟨_, rfl, rfl, _, rfl, ite_eq ⟨_, rfl, made_pl nm kk⟩⟩⟩
    | wh =>
      obtain rfl := ok.no rfl
      exact ite_ne (by decide +kernel) ⟨_, rfl, rfl, _, rfl, ite_ne (by decide +kernel) ⟨_, rfl, rfl, _, rfl, ite_ne (by decide +kernel) ⟨_, rfl, rfl, _, rfl, ite_eq ⟨_, rfl, made_pl nm kk⟩⟩⟩⟩
    | la =>
      obtain rfl := ok.no rfl
      exact ite_ne (by decide +kernel) ⟨_, rfl, rfl, _, rfl, ite_ne (by decide +kernel) ⟨_, rfl, rfl, _, rfl, ite_ne (by decide +kernel) ⟨_, rfl, rfl, _, rfl, ite_ne (by decide +kernel) ⟨_, rfl, rfl, _, rfl, ite_eq ⟨_, rfl, made_pl nm kk⟩⟩⟩⟩⟩
    | sm =>
      obtain rfl := ok.no rfl
      exact ite_ne (by decide +kernel) ⟨_, rfl, rfl, _, rfl, ite_ne (by decide +kernel) ⟨_, rfl, rfl, _, rfl, ite_ne (by decide +kernel) ⟨_, rfl, rfl, _, rfl, ite_ne (by decide +kernel) ⟨_, rfl, rfl, _, rfl, ite_ne (by decide +kernel) ⟨_, rfl, made_pl nm kk⟩⟩⟩⟩⟩
variable {fDraw fPick : Addr} {fdD fdP : FuncData}
def spPlain : Sp := fun vs H Q _ => ∃ (p l a : Addr) (N : Int) (xs : List Str), vs = [.ref p, .ref a] ∧ PenAt H p l N ∧ N ≤ 50000 ∧ H a = some (.lst (xs.map V.str)) ∧ a ≠ p ∧ 0 < xs.length ∧ xs.length ≤ 100 ∧ (∀ x ∈ xs, NameOk x) ∧
  ∀ t k n x H', SameBut p H H' → PenAt H' p l (N + 4) → H' t = some (.tup [.str (wordOf k), numV k n, .str x]) → NameOk x → NumOk k n → Q (.ref t) H'
theorem scPlain : FnScope ["_law_pen_here", "_law_labels", "_law_word", "_law_number_so"] ["_law_pen_here", "_law_labels"] (defScope sPlain) := ⟨rfl, rfl, rfl, by decide +kernel, rfl, by decide +kernel, by decide +kernel⟩
theorem in_two (k : Kd) : inV (.str (wordOf k)) [.str "back", .str "ahead"] = isNum k := by cases k <;> decide +kernel
theorem inV_two {k : Kd} {A B : Prop} (h1 : isNum k = true → A) (h0 : isNum k = false → B) : if (if false = true then !inV (.str (wordOf k)) [.str "back", .str "ahead"] else inV (.str (wordOf k)) [.str "back", .str "ahead"]) = true then A else B := by
  rw [in_two k]
  cases e : isNum k with
  | true => exact iteT (h1 e)
  | false => exact iteF (h0 e)
set_option maxHeartbeats 8000000 in
theorem ok_plain {f : Addr} {fd : FuncData} (F : Fun K "_law_plain" "_law_plain" sPlain f fd) (T : Txt K mg C fWhole fBetw fDay fChk) (Y : Ty K mg G cT cN fTI fNI fName fBB fBH fAP) (D : Df P w K mg base "_law_draw" 1 fDraw fdD ["_law_pen_here", "_law_many"] spDraw)
    (I : Df P w K mg base "_law_pick" 2 fPick fdP ["_law_pen_here", "_law_some"] spPick) : FnOk P w K mg base CX0 3 f fd ["_law_pen_here", "_law_labels"] spPlain := by
  refine F.ok scPlain (fun vs H Q E h => ?_) (fun cdv A outer s H vs Q E hr h => ?_)
  · obtain ⟨p, l, a, N, xs, rfl, _⟩ := h
    rfl
  · obtain ⟨p, l, a, N, xs, rfl, pen, hN, ha, nap, z0, z1, nms, kk⟩ := h
    have hr1 : Room 1 _ := hr.mono (by decide)
    refine ⟨_, pss_cons (ps_set (i := 2) scPlain.nd rfl (Or.inl rfl) (pe_call I.F hr rfl I.g I.kp I.b .nil pass0 (pa_cons (pv 0) (pa_cons (pe_lst (pa_cons pe_str (pa_cons pe_str (pa_cons pe_str (pa_cons pe_str (pa_cons pe_str (pa_cons pe_str (pa_cons pe_str pa_nil)))))))) pa_nil))))
      (pss_cons (ps_set (i := 3) scPlain.nd rfl (Or.inl rfl) pe_non)
      (pss_cons (ps_if (pt_cmpR op_in_seq (pv 2) (pe_tup (pa_cons pe_str (pa_cons pe_str pa_nil))) (by rfl))
        (pss_one (ps_set (i := 3) scPlain.nd rfl (Or.inl rfl) (pe_callB (call_max2 rfl) (by rfl) Y.zMax (by decide +kernel) (pa_cons (pe_callTy call_int1 (by rfl) T.zInt (by decide +kernel) (pa_cons (pe_cmpR op_eq (pv 2) pe_str (nomark _)) pa_nil))
          (pa_cons (pe_call I.F hr rfl I.g I.kp I.b .nil pass0 (pa_cons (pv 0) (pa_cons (pe_lst (pa_cons pe_int (pa_cons pe_int (pa_cons pe_int (pa_cons pe_int (pa_cons pe_int (pa_cons (pe_call D.F hr1 rfl D.g D.kp D.b .nil pass0 (pa_cons (pv 0) (pa_cons pe_int pa_nil))) pa_nil))))))) pa_nil))) pa_nil))))) pss_nil)
      (pss_one (ps_ret (pe_tup (pa_cons (pv 2) (pa_cons (pv 3) (pa_cons (pe_call I.F hr rfl I.g I.kp I.b .nil pass0 (pa_cons (pv 0) (pa_cons (pv 1) pa_nil))) pa_nil)))))))), ?_⟩
    obtain ⟨px, hp⟩ := pen.lst
    refine ⟨_, rfl, by show 7 ≤ sizeLine; decide, fun q nq => ?_⟩
    have nqp : q ≠ p := Ne.symm (ne_of_none hp nq)
    have naq : a ≠ q := ne_of_none ha nq
    refine ⟨p, l, q, N, _, rfl, pen.same (same_new nq), by omega, upd_same, nqp, by show 0 < 7; decide, by show 7 ≤ 1000; decide, fun i v H1 hi sb1 pen1 => ?_⟩
    obtain ⟨k, rfl⟩ : ∃ k, v = .str (wordOf k) := by
      have hv := List.mem_of_getElem? hi
      simp only [List.mem_cons, List.not_mem_nil, or_false] at hv
      rcases hv with rfl | rfl | rfl | rfl | rfl | rfl | rfl
      · exact ⟨.bk, rfl⟩
      · exact ⟨.bk, rfl⟩
      · exact ⟨.ah, rfl⟩
      · exact ⟨.so, rfl⟩
      · exact ⟨.wh, rfl⟩
      · exact ⟨.la, rfl⟩
      · exact ⟨.sm, rfl⟩
    have sb1' : SameBut p H H1 := (Same.but (same_new nq)).trans sb1
    -- the end: the label is drawn, the tuple laid
    have fin : ∀ (n : Int) (H2 : Hp), SameBut p H H2 → PenAt H2 p l (N + 3) → NumOk k n → ∃ (p' l' a' : Addr) (N' : Int) (ys : List V), ([.ref p, .ref a] : List V) = [.ref p', .ref a'] ∧ PenAt H2 p' l' N' ∧ N' ≤ 100000 ∧ H2 a' = some (.lst ys) ∧ a' ≠ p' ∧ 0 < ys.length ∧ ys.length ≤ 1000 ∧
        ∀ (i : Nat) (v : V) (H' : Hp), ys[i]? = some v → SameBut p' H2 H' → PenAt H' p' l' (N' + 1) → 3 ≤ sizeLine ∧ ∀ t, H' t = none → Q (.ref t) (upd H' t (.tup [.str (wordOf k), numV k n, v])) := by
      intro n H2 sb2 pen2 ok
      refine ⟨p, l, a, N + 3, xs.map V.str, rfl, pen2, by omega, sb2 _ _ nap ha, nap, by rw [List.length_map]; exact z0, by rw [List.length_map]; omega, fun j v H3 hj sb3 pen3 => ⟨by decide, fun t nt => ?_⟩⟩
      rw [List.getElem?_map] at hj
      obtain ⟨x, hx, rfl⟩ := Option.map_eq_some_iff.mp hj
      exact kk t k n x _ (sb2.trans (sb3.trans (Same.but (same_new nt)))) ((pen3.same (same_new nt)).le (by omega)) upd_same (nms x (List.mem_of_getElem? hx)) ok
    refine ⟨_, rfl, by show 2 ≤ sizeLine; decide, fun T2 nT2 => ?_⟩
    have s2 := same_new (o := .tup [.str "back", .str "ahead"]) nT2
    refine ⟨T2, _, rfl, .inr (SqT.of upd_same), rfl, by rfl, _, rfl, ?_⟩
    refine inV_two (fun hk => ?_) (fun hk => ?_)
    · refine ⟨_, rfl, rfl, .inr ⟨_, rfl, ?_⟩⟩
      refine ⟨_, rfl, _, rfl, p, l, N + 1, 61, rfl, pen1.same s2, by decide, log_small (by decide) (by decide), by omega, fun r H3 r0 r1 sb3 pen3 => ⟨by show 6 ≤ sizeLine; decide, fun q3 nq3 => ?_⟩⟩
      obtain ⟨px3, hp3⟩ := pen3.lst
      refine ⟨p, l, q3, N + 2, _, rfl, (pen3.same (same_new nq3)).le (by omega), by omega, upd_same, Ne.symm (ne_of_none hp3 nq3), by show 0 < 6; decide, by show 6 ≤ 1000; decide, fun j v H4 hj sb4 pen4 => ?_⟩
      obtain ⟨m, rfl, m0, m1⟩ : ∃ m : Int, v = .int m ∧ 0 ≤ m ∧ m ≤ 60 := by
        have hv := List.mem_of_getElem? hj
        simp only [List.mem_cons, List.not_mem_nil, or_false] at hv
        rcases hv with rfl | rfl | rfl | rfl | rfl | rfl
        · exact ⟨_, rfl, by decide, by decide⟩
        · exact ⟨_, rfl, by decide, by decide⟩
        · exact ⟨_, rfl, by decide, by decide⟩
        · exact ⟨_, rfl, by decide, by decide⟩
        · exact ⟨_, rfl, by decide, by decide⟩
        · exact ⟨_, rfl, by omega, by omega⟩
      refine ⟨_, _, rfl, ?_⟩
      have sb4' : SameBut p H H4 := sb1'.trans ((Same.but s2).trans (sb3.trans ((Same.but (same_new nq3)).trans sb4)))
      have num : ∀ n : Int, NumOk k n → numV k n = .int n := fun n _ => by unfold numV; rw [if_pos hk]
      generalize hz : (if m > (if decide (V.str (wordOf k) = V.str "ahead") = true then (1 : Int) else 0) then m else (if decide (V.str (wordOf k) = V.str "ahead") = true then (1 : Int) else 0)) = z
      have ok : NumOk k z := by
        cases k with
        | bk =>
          have e : decide (V.str (wordOf .bk) = V.str "ahead") = false := decide_eq_false (fun q => absurd (V.str.inj q) (by decide +kernel))
          rw [e] at hz
          simp only [Bool.false_eq_true, if_false] at hz
          exact ⟨by split at hz <;> omega, (fun q => nomatch q), by split at hz <;> omega, (fun q => nomatch q)⟩
        | ah =>
          have e : decide (V.str (wordOf .ah) = V.str "ahead") = true := decide_eq_true rfl
          rw [e] at hz
          simp only [if_true] at hz
          exact ⟨by split at hz <;> omega, (fun _ => by split at hz <;> omega), by split at hz <;> omega, (fun q => nomatch q)⟩
        | so => cases hk
        | wh => cases hk
        | la => cases hk
        | sm => cases hk
      have h := fin z H4 sb4' (pen4.le (by omega)) ok
      rw [num z ok] at h
      exact ⟨_, rfl, _, rfl, _, rfl, _, rfl, h⟩
    · have h := fin 0 (upd H1 T2 (.tup [.str "back", .str "ahead"])) (sb1'.trans (Same.but s2)) ((pen1.same s2).le (by omega)) ⟨by decide, (fun q => by rw [q] at hk; cases hk), by decide, fun _ => rfl⟩
      have e : numV k 0 = .non := by unfold numV; rw [hk]; rfl
      rw [e] at h
      exact ⟨_, rfl, _, rfl, _, rfl, _, rfl, h⟩
theorem shaped_tints (ns : List Int) : SeqAt.shaped (.tuple (ns.map PyData.int)) = true := by
  have h1 := PySem.W.depthAll_ints ns
  have h2 : PyData.depth (.tuple (ns.map PyData.int)) ≤ 64 := by simp only [PyData.depth]; omega
  show (PyData.canLay0 (.tuple (ns.map PyData.int)) && decide (PyData.depth (.tuple (ns.map PyData.int)) ≤ 64)) = true
  rw [Bool.and_eq_true]
  exact ⟨by simp only [PyData.canLay0]; exact PySem.W.canLayAll0_ints ns, decide_eq_true h2⟩
theorem eqvAll_ints : ∀ ns : List Int, PyData.eqvAll (ns.map PyData.int) (ns.map PyData.int) = true
  | [] => by simp [PyData.eqvAll]
  | n :: r => by simp [PyData.eqvAll, PyData.eqv, eqvAll_ints r]
theorem eqv_tints {xs ys : List Int} (h : xs = ys) : PyData.eqv (.tuple (xs.map PyData.int)) (.tuple (ys.map PyData.int)) = true := by
  subst h
  show PyData.eqvAll _ _ = true
  exact eqvAll_ints xs
theorem ne_tups {H : Hp} {a b : Addr} {xs ys : List Int} {Q : VK} (ha : H a = some (.tup (xs.map V.int))) (hb : H b = some (.tup (ys.map V.int))) (h : xs = ys) (k : Q (.bl false) H) : rNeD K (.ref a) (.ref b) H Q := by
  refine ⟨_, _, .tup (SqT.of ha) (dp_ints xs), .tup (SqT.of hb) (dp_ints ys), shaped_tints xs, shaped_tints ys, ?_⟩
  rw [eqv_tints h]
  exact k
theorem eq_tups {H : Hp} {a b : Addr} {xs ys : List Int} {Q : VK} (ha : H a = some (.tup (xs.map V.int))) (hb : H b = some (.tup (ys.map V.int))) (h : xs = ys) (k : Q (.bl true) H) : rEqD K (.ref a) (.ref b) H Q := by
  refine ⟨_, _, .tup (SqT.of ha) (dp_ints xs), .tup (SqT.of hb) (dp_ints ys), shaped_tints xs, shaped_tints ys, ?_⟩
  rw [eqv_tints h]
  exact k
def spAsc : Sp := fun vs H Q _ => ∃ (t : Addr) (xs : List Int), vs = [.ref t] ∧ H t = some (.tup (xs.map V.int)) ∧ Asc xs ∧ ∀ H', Same H H' → Q (.bl true) H'
theorem scAsc : FnScope ["_law_days_so", "_law_k"] ["_law_days_so"] (defScope sAsc) := ⟨rfl, rfl, rfl, by decide +kernel, rfl, by decide +kernel, by decide +kernel⟩
theorem ktt : kitB "tuple" "tuple" = some true := by decide +kernel
set_option maxHeartbeats 8000000 in
theorem ok_asc {f : Addr} {fd : FuncData} (F : Fun K "_law_ascends" "_law_ascends" sAsc f fd) (T : Txt K mg C fWhole fBetw fDay fChk) : FnOk P w K mg base CX0 1 f fd ["_law_days_so"] spAsc := by
  refine F.ok scAsc (fun vs H Q E h => ?_) (fun cdv A outer s H vs Q E hr h => ?_)
  · obtain ⟨t, xs, rfl, _⟩ := h
    rfl
  · obtain ⟨t, xs, rfl, ht, asc, k⟩ := h
    refine ⟨_, pss_one (ps_ret (pe_and (pe_callB call_isi (by rfl) T.zIsi (by decide +kernel) (pa_cons (pv 0) (pa_cons (pe_bltn (v := .ty "tuple") (by rfl) T.zTuple (by decide +kernel) rfl) pa_nil)))
      (pe_one (pe_cmpR (op_eqD hr.units) (pe_lc (own := [("_law_k", 1)]) (g := gName 1) rfl scAsc.nd (pi_range2W (by rfl) T.zRange (pa_cons pe_int (pa_cons (pe_callB call_len_seq (by rfl) T.zLen PySem.boot_len (pa_cons (pv 0) pa_nil)) pa_nil)))
        (blkOk_by (N := ["_law_days_so", "_law_k"]) (sc := defScope sAsc) (by decide +kernel)) (fun _ _ _ _ _ => pg_name (i := 1) scAsc.nd rfl (Or.inl rfl))
        (fun _ _ _ _ _ => pts_one (pt_cmpR op_le (pe_ix (r := rIxT K) ix_tup (pv 0) (pv 1) (fun _ _ => rfl)) (pe_ix (r := rIxT K) ix_tup (pv 0) (pe_op op_sub (pv 1) pe_int) (fun _ _ => rfl)) (nomark _))) (fun _ _ _ _ _ => pv 1)) (pe_lst pa_nil) (nomark _))))), ?_⟩
    refine ⟨_, rfl, .ref t, .ty "tuple", _, _, true, rfl, .ty "tuple", .base (.tup ht), kit_ty ktt, true, rfl, iteT ?_⟩
    refine ⟨_, rfl, t, _, rfl, .inr (SqT.of ht), _, _, rfl, fun D hD => ?_⟩
    refine lc_range (lo := 1) (n := (((xs.map V.int).length : Int) - 1).toNat) (fun i H' => H' D = some (.lst []) ∧ Same H H') ⟨upd_same, same_new hD⟩ ?_ ?_
    · rintro i H' hi ⟨hD', s1⟩
      rw [List.length_map] at hi
      refine ⟨rfl, ?_⟩
      have l1 : xs[i + 1]? = some (xs[i + 1]'(by omega)) := List.getElem?_eq_getElem _
      have l0 : xs[i]? = some (xs[i]'(by omega)) := List.getElem?_eq_getElem _
      have lt := asc i _ _ l0 l1
      have a1 : atI (xs.map V.int) (1 + (i : Int)) = some (.int (xs[i + 1]'(by omega))) := at_of (j := i + 1) (by omega) (by rw [List.getElem?_map, l1]; rfl)
      have a0 : atI (xs.map V.int) (1 + (i : Int) - 1) = some (.int (xs[i]'(by omega))) := at_of (j := i) (by omega) (by rw [List.getElem?_map, l0]; rfl)
      have ht' := s1 _ _ ht
      refine ⟨_, rfl, _, rfl, t, _, _, _, rfl, rfl, SqT.of ht', a1, _, rfl, _, rfl, _, _, rfl, rfl, t, _, _, _, rfl, rfl, SqT.of ht', a0, _, _, rfl, rfl, _, rfl, ?_⟩
      rw [decide_eq_false (by omega)]
      exact iteF ⟨hD', s1⟩
    · rintro H' ⟨hD', s1⟩
      refine ⟨Nat.zero_le _, fun q nq => ?_⟩
      refine ⟨_, _, .lst (SqL.of ((same_new nq) _ _ hD')) .nil, .lst (SqL.of upd_same) .nil, PySem.W.shaped_ints [], PySem.W.shaped_ints [], ?_⟩
      exact k _ (s1.trans (same_new nq))
end
end My
namespace My
open PySem PySem.Spec PyProof.Rows L2
abbrev sTurn : Stmt := top 48
abbrev sMoved : Stmt := top 49
abbrev sKin : Stmt := top 50
section
variable {P : Program} {w : World} {K : PySem.W.Frag} {mg : Str → Option Value} {base : Heap} {C fWhole fBetw fDay fChk : Addr} {G : Kd → Addr} {cT cN fTI fNI fName fBB fBH fAP : Addr}
variable {fS fU fC fI : Kd → Addr} {dS dU dC dI : Kd → FuncData}
theorem tie_call {σ : L2.St} {H : Hp} {p c : Addr} {ls : List Int} {d n : Int} {k : Kd} {m : Str} {L : Kd → Int → List Int → Int → List Int} {te : TE} {i j : Nat} {Q : VK} (h0 : σ[i]? = some (some (.ref p))) (ti : TieAt G H p k n) (hm1 : ¬ m = "number") (hm2 : ¬ m = "source")
    (hte : ∀ Q' : VK, Q' (.int d) H → te σ H Q') (h1 : σ[j]? = some (some (.ref c))) (cy : CycAt C H c ls) (kk : ∀ r H', Same H H' → H' r = some (.tup ((L k n ls d).map V.int)) → Q (.ref r) H') :
    ∃ k, tMeth (G k) m (spTie G C k L) [] E0 (tVar i) (tCons te (tCons (tVar j) tNil)) σ H Q := by
  obtain ⟨dx, x, hp⟩ := ti.ob
  exact ⟨k, _, h0, p, dx, _, rfl, hp, tfl_no _ _ _ hm1 hm2, hte _ ⟨_, h1, p, c, n, ls, d, rfl, ti, cy, kk⟩⟩
theorem o_call {X : Cx} {σ : L2.St} {H : Hp} {p c : Addr} {ls : List Int} {d n : Int} {k : Kd} {te : TE} {i j : Nat} {Q : VK} (h0 : σ[i]? = some (some (.ref p))) (ti : TieAt G H p k n) (hte : ∀ Q' : VK, Q' (.int d) H → te σ H Q') (h1 : σ[j]? = some (some (.ref c))) (cy : CycAt C H c ls)
    (kk : ∀ r H', Same H H' → H' r = some (.tup ((srcL k n ls d).map V.int)) → Q (.ref r) H') : StX.tCallO X (G k) (fun vs H Q E => spTie G C k srcL (vs ++ []) H Q E) E0 (tVar i) (tCons te (tCons (tVar j) tNil)) σ H Q := by
  obtain ⟨dx, x, hp⟩ := ti.ob
  exact ⟨_, h0, p, rfl, hte _ ⟨_, h1, .inr ⟨dx, _, hp⟩, p, c, n, ls, d, rfl, ti, cy, kk⟩⟩
def gCD {α : Type} (us ws : List α) : List α := match us, ws with
  | [a], [c, d] => [a, d, c]
  | _, _ => []
def gDC {α : Type} (us ws : List α) : List α := match us, ws with
  | [a], [d, c] => [a, d, c]
  | _, _ => []
theorem rel_CD {vs zs : List V} {us ws : List Value} (r1 : Vals vs us) (r2 : Vals zs ws) : Vals (gCD vs zs) (gCD us ws) := by
  cases r1 with
  | nil => exact .nil
  | cons h1 t1 =>
    cases t1 with
    | cons _ _ => exact .nil
    | nil =>
      cases r2 with
      | nil => exact .nil
      | cons h2 t2 =>
        cases t2 with
        | nil => exact .nil
        | cons h3 t3 =>
          cases t3 with
          | nil => exact .cons h1 (.cons h3 (.cons h2 .nil))
          | cons _ _ => exact .nil
theorem rel_DC {vs zs : List V} {us ws : List Value} (r1 : Vals vs us) (r2 : Vals zs ws) : Vals (gDC vs zs) (gDC us ws) := by
  cases r1 with
  | nil => exact .nil
  | cons h1 t1 =>
    cases t1 with
    | cons _ _ => exact .nil
    | nil =>
      cases r2 with
      | nil => exact .nil
      | cons h2 t2 =>
        cases t2 with
        | nil => exact .nil
        | cons h3 t3 =>
          cases t3 with
          | nil => exact .cons h1 (.cons h2 (.cons h3 .nil))
          | cons _ _ => exact .nil
theorem kb_CD {x qual : Str} {st : Stmt} {f : Addr} {fd : FuncData} (F : Fun K x qual st f fd) (h : ∀ (kV doc pm : Value) (an : Option Addr) (cdv ct a c d : Value), bindArgs (PySem.W.fnOf x qual (defArgs st) (defBody st) (defScope st) .none kV doc pm an cdv ct) ⟨[a], [("cycle", c), ("day", d)]⟩ = pure [(("self" : Str), a), (("day" : Str), d), (("cycle" : Str), c)]) :
    KBinds K fd ["self", "day", "cycle"] ["cycle", "day"] gCD gCD := by
  obtain ⟨oc, od, kV, doc, pm, an, cdv, ct, osl, rfl, lk, hcd⟩ := F.ex
  refine ⟨fun s us ws _ hl => ?_, rel_CD⟩
  match us, ws, hl with
  | [a], [c, d], _ => exact .of_eq (h kV doc pm an cdv ct a c d)
  | [], _, hl => exact absurd hl (by simp [gCD])
  | [_], [], hl => exact absurd hl (by simp [gCD])
  | [_], [_], hl => exact absurd hl (by simp [gCD])
  | [_], _ :: _ :: _ :: _, hl => exact absurd hl (by simp [gCD])
  | _ :: _ :: _, _, hl => exact absurd hl (by simp [gCD])
theorem kb_DC {x qual : Str} {st : Stmt} {f : Addr} {fd : FuncData} (F : Fun K x qual st f fd) (h : ∀ (kV doc pm : Value) (an : Option Addr) (cdv ct a c d : Value), bindArgs (PySem.W.fnOf x qual (defArgs st) (defBody st) (defScope st) .none kV doc pm an cdv ct) ⟨[a], [("day", d), ("cycle", c)]⟩ = pure [(("self" : Str), a), (("day" : Str), d), (("cycle" : Str), c)]) :
    KBinds K fd ["self", "day", "cycle"] ["day", "cycle"] gDC gDC := by
  obtain ⟨oc, od, kV, doc, pm, an, cdv, ct, osl, rfl, lk, hcd⟩ := F.ex
  refine ⟨fun s us ws _ hl => ?_, rel_DC⟩
  match us, ws, hl with
  | [a], [d, c], _ => exact .of_eq (h kV doc pm an cdv ct a c d)
  | [], _, hl => exact absurd hl (by simp [gDC])
  | [_], [], hl => exact absurd hl (by simp [gDC])
  | [_], [_], hl => exact absurd hl (by simp [gDC])
  | [_], _ :: _ :: _ :: _, hl => exact absurd hl (by simp [gDC])
  | _ :: _ :: _, _, hl => exact absurd hl (by simp [gDC])
theorem kw_CD {σ : L2.St} {H : Hp} {p c : Addr} {ls : List Int} {d n : Int} {k : Kd} {m : Str} {L : Kd → Int → List Int → Int → List Int} {te : TE} {i j : Nat} {Q : VK} (h0 : σ[i]? = some (some (.ref p))) (ti : TieAt G H p k n) (hm1 : ¬ m = "number") (hm2 : ¬ m = "source")
    (hte : ∀ Q' : VK, Q' (.int d) H → te σ H Q') (h1 : σ[j]? = some (some (.ref c))) (cy : CycAt C H c ls) (kk : ∀ r H', Same H H' → H' r = some (.tup ((L k n ls d).map V.int)) → Q (.ref r) H') :
    ∃ k, tMethK (G k) m (spTie G C k L) gCD E0 (tVar i) (tCons (tVar j) (tCons te tNil)) σ H Q := by
  obtain ⟨dx, x, hp⟩ := ti.ob
  exact ⟨k, _, h0, p, dx, _, rfl, hp, tfl_no _ _ _ hm1 hm2, _, h1, hte _ ⟨p, c, n, ls, d, rfl, ti, cy, kk⟩⟩
theorem kw_DC {σ : L2.St} {H : Hp} {p c : Addr} {ls : List Int} {d n : Int} {k : Kd} {m : Str} {L : Kd → Int → List Int → Int → List Int} {te : TE} {i j : Nat} {Q : VK} (h0 : σ[i]? = some (some (.ref p))) (ti : TieAt G H p k n) (hm1 : ¬ m = "number") (hm2 : ¬ m = "source")
    (hte : ∀ Q' : VK, Q' (.int d) H → te σ H Q') (h1 : σ[j]? = some (some (.ref c))) (cy : CycAt C H c ls) (kk : ∀ r H', Same H H' → H' r = some (.tup ((L k n ls d).map V.int)) → Q (.ref r) H') :
    ∃ k, tMethK (G k) m (spTie G C k L) gDC E0 (tVar i) (tCons te (tCons (tVar j) tNil)) σ H Q := by
  obtain ⟨dx, x, hp⟩ := ti.ob
  exact ⟨k, _, h0, p, dx, _, rfl, hp, tfl_no _ _ _ hm1 hm2, hte _ ⟨_, h1, p, c, n, ls, d, rfl, ti, cy, kk⟩⟩
theorem kwo_CD {X : Cx} {σ : L2.St} {H : Hp} {p c : Addr} {ls : List Int} {d n : Int} {k : Kd} {te : TE} {i j : Nat} {Q : VK} (h0 : σ[i]? = some (some (.ref p))) (ti : TieAt G H p k n)
    (hte : ∀ Q' : VK, Q' (.int d) H → te σ H Q') (h1 : σ[j]? = some (some (.ref c))) (cy : CycAt C H c ls) (kk : ∀ r H', Same H H' → H' r = some (.tup ((srcL k n ls d).map V.int)) → Q (.ref r) H') :
    ∃ k, tCallOK X (G k) (spTie G C k srcL) gCD E0 (tVar i) (tCons (tVar j) (tCons te tNil)) σ H Q := by
  obtain ⟨dx, x, hp⟩ := ti.ob
  exact ⟨k, _, h0, p, rfl, _, h1, hte _ ⟨.inr ⟨dx, _, hp⟩, p, c, n, ls, d, rfl, ti, cy, kk⟩⟩
theorem flat_ints : ∀ xs : List Int, (xs.map V.int).all flatV = true
  | [] => rfl
  | _ :: r => flat_ints r
theorem inV_ints {d : Int} {xs : List Int} (h : d ∈ xs) : inV (.int d) (xs.map V.int) = true := by
  unfold inV
  rw [List.any_eq_true]
  exact ⟨.int d, List.mem_map.mpr ⟨d, h, rfl⟩, by show (d == d) = true; exact beq_self_eq_true d⟩
def spTurn (G : Kd → Addr) (C : Addr) : Sp := fun vs H Q _ => ∃ (p c : Addr) (k : Kd) (n : Int) (ls : List Int) (b m : Int), vs = [.ref p, .ref c, .int b, .int m] ∧ TieAt G H p k n ∧ CycAt C H c ls ∧ ∀ H', Same H H' → Q (.bl true) H'
theorem scTurn : FnScope ["_law_made", "_law_weeks", "_law_begin", "_law_many", "_law_spot", "_law_users_so", "_law_sources_so", "_law_other"] ["_law_made", "_law_weeks", "_law_begin", "_law_many"] (defScope sTurn) := ⟨rfl, rfl, rfl, by decide +kernel, rfl, by decide +kernel, by decide +kernel⟩
variable {fAsc : Addr} {dAsc : FuncData}
set_option maxHeartbeats 8000000 in
theorem ok_turn {f : Addr} {fd : FuncData} (F : Fun K "_law_turned_right" "_law_turned_right" sTurn f fd) (T : Txt K mg C fWhole fBetw fDay fChk) (Y : Ty K mg G cT cN fTI fNI fName fBB fBH fAP) (MS : TieM P w K mg base G C "sources" 4 srcL fS dS) (MU : TieM P w K mg base G C "users" 4 usrL fU dU)
    (A : Df P w K mg base "_law_ascends" 1 fAsc dAsc ["_law_days_so"] spAsc) : FnOk P w K mg base CX0 5 f fd ["_law_made", "_law_weeks", "_law_begin", "_law_many"] (spTurn G C) := by
  refine F.ok scTurn (fun vs H Q E h => ?_) (fun cdv A' outer s H vs Q E hr h => ?_)
  · obtain ⟨p, c, k, n, ls, b, m, rfl, _⟩ := h
    rfl
  · obtain ⟨p, c, k, n, ls, b, m, rfl, ti, cy, kk⟩ := h
    have hr1 : Room 1 _ := hr.mono (by decide)
    have o := cy.ok.ok
    refine ⟨_, pss_cons (ps_for PassesOwn.never rfl (pi_range2W (by rfl) T.zRange (pa_cons (pv 2) (pa_cons (pe_op op_add (pv 2) (pv 3)) pa_nil))) (pg_name (i := 4) scTurn.nd rfl (.inr rfl))
        (pss_cons (ps_par (i := 5) (j := 6) (by rfl) scTurn.nd rfl rfl (by decide) rfl rfl (pa_cons (pe_exK fun k => pe_meth (pv 0) (Y.cl k) (MU.m k) (MU.F k) hr (MU.b k) .nil pass0 (pa_cons (pv 4) (pa_cons (pv 1) pa_nil)))
            (pa_cons (pe_exK fun k => pe_meth (pv 0) (Y.cl k) (MS.m k) (MS.F k) hr (MS.b k) .nil pass0 (pa_cons (pv 4) (pa_cons (pv 1) pa_nil))) pa_nil)) (by rfl))
        (pss_cons (ps_if (PW.pt (pw_or (pt_not (pt_val (pe_call A.F hr1 rfl A.g A.kp A.b .nil pass0 (pa_cons (pv 5) pa_nil)))) (pw_or1 (pt_not (pt_val (pe_call A.F hr1 rfl A.g A.kp A.b .nil pass0 (pa_cons (pv 6) pa_nil))))))) pss_never pss_nil)
        (pss_cons (ps_if (pt_cmpR (op_neD hr.units) (pe_lc (own := [("_law_other", 7)]) (g := gName 7) rfl scTurn.nd (pi_tup (pv 5)) (blkOk_by (N := ["_law_made", "_law_weeks", "_law_begin", "_law_many", "_law_spot", "_law_users_so", "_law_sources_so", "_law_other"]) (sc := defScope sTurn) (by decide +kernel))
            (fun _ _ _ _ _ => pg_name (i := 7) scTurn.nd rfl (Or.inl rfl)) (fun _ _ _ _ _ => pts_one (pt_cmpR (r := rIn K true) op_notIn_seq (pv 4) (pe_exK fun k => pe_meth (pv 0) (Y.cl k) (MS.m k) (MS.F k) hr (MS.b k) .nil pass0 (pa_cons (pv 7) (pa_cons (pv 1) pa_nil))) (by rfl))) (fun _ _ _ _ _ => pv 7)) (pe_lst pa_nil) (nomark _)) pss_never pss_nil)
        (pss_one (ps_if (pt_cmpR (op_neD hr.units) (pe_lc (own := [("_law_other", 7)]) (g := gName 7) rfl scTurn.nd (pi_tup (pv 6)) (blkOk_by (N := ["_law_made", "_law_weeks", "_law_begin", "_law_many", "_law_spot", "_law_users_so", "_law_sources_so", "_law_other"]) (sc := defScope sTurn) (by decide +kernel))
            (fun _ _ _ _ _ => pg_name (i := 7) scTurn.nd rfl (Or.inl rfl)) (fun _ _ _ _ _ => pts_one (pt_cmpR (r := rIn K true) op_notIn_seq (pv 4) (pe_exK fun k => pe_meth (pv 0) (Y.cl k) (MU.m k) (MU.F k) hr (MU.b k) .nil pass0 (pa_cons (pv 7) (pa_cons (pv 1) pa_nil))) (by rfl))) (fun _ _ _ _ _ => pv 7)) (pe_lst pa_nil) (nomark _)) pss_never pss_nil))))))
      (pss_one (ps_ret pe_bl)), ?_⟩
    refine ⟨_, rfl, _, rfl, _, rfl, _, _, rfl, rfl, _, _, rfl, for_range (lo := b) (n := (b + m - b).toNat) (fun i σ H' => ∃ v4 v5 v6 v7 : Option V, σ = [some (.ref p), some (.ref c), some (.int b), some (.int m), v4, v5, v6, v7] ∧ Same H H') ⟨none, none, none, none, rfl, Same.refl H⟩ ?_ ?_⟩
    · rintro i σ H0 hi ⟨v4, v5, v6, v7, rfl, s0⟩
      refine tie_call rfl (ti.same s0) (by decide +kernel) (by decide +kernel) (fun Q' q => ⟨_, rfl, q⟩) rfl (cy.same s0) (fun ru H1 s1 hru => ?_)
      refine tie_call rfl (ti.same (s0.trans s1)) (by decide +kernel) (by decide +kernel) (fun Q' q => ⟨_, rfl, q⟩) rfl (cy.same (s0.trans s1)) (fun rs H2 s2 hrs => ?_)
      have sA := s0.trans (s1.trans s2)
      have hru2 := s2 _ _ hru
      clear hru
      refine ⟨_, _, rfl, ?_⟩
      refine ⟨_, rfl, ru, _, rfl, hru2, asc_usr _ _ _ _, fun H3 s3 => ⟨_, rfl, iteF ?_⟩⟩
      refine ⟨_, rfl, rs, _, rfl, s3 _ _ hrs, asc_src _ _ _ _, fun H4 s4 => ⟨_, rfl, iteF ?_⟩⟩
      have sB := sA.trans (s3.trans s4)
      have hu := s4 _ _ (s3 _ _ hru2)
      have hs := s4 _ _ (s3 _ _ hrs)
      clear hru2 hrs
      -- whoever uses it has it among its sources
      refine ⟨_, rfl, ru, rfl, ⟨_, SqT.of hu⟩, fun D hD => ?_⟩
      refine lc_tup (a := ru) (xs := (usrL k n ls (b + (i : Nat))).map V.int) (fun _ H' => H' D = some (.lst []) ∧ Same H4 H') ⟨upd_same, same_new hD⟩ (fun _ H' _ ⟨_, q⟩ => SqT.of (q _ _ hu)) ?_ ?_
      · rintro j x H' hx ⟨hD', sx⟩
        rw [List.getElem?_map] at hx
        obtain ⟨y, hy, rfl⟩ := Option.map_eq_some_iff.mp hx
        have hin := (inv_days o k n (b + (i : Nat)) y).mp (List.mem_of_getElem? hy)
        refine ⟨rfl, ?_⟩
        refine ⟨_, rfl, ?_⟩
        refine tie_call rfl (ti.same (sB.trans sx)) (by decide +kernel) (by decide +kernel) (fun Q' q => ⟨_, rfl, q⟩) rfl (cy.same (sB.trans sx)) (fun r2 H5 s5 hr2 => ?_)
        refine ⟨r2, _, rfl, .inr (SqT.of hr2), rfl, flat_ints _, _, rfl, ?_⟩
        rw [inV_ints hin]
        exact iteF ⟨s5 _ _ hD', sx.trans s5⟩
      · rintro H' ⟨hD', sx⟩
        refine ⟨Nat.zero_le _, fun q nq => ?_⟩
        refine ⟨_, _, .lst (SqL.of ((same_new nq) _ _ hD')) .nil, .lst (SqL.of upd_same) .nil, PySem.W.shaped_ints [], PySem.W.shaped_ints [], _, rfl, iteF ?_⟩
        have sC := sB.trans (sx.trans (same_new (o := .lst []) nq))
        have hs' := (sx.trans (same_new (o := .lst []) nq)) _ _ hs
        generalize upd H' q (.lst []) = H5 at sC hs' ⊢
        refine ⟨_, rfl, rs, rfl, ⟨_, SqT.of hs'⟩, fun D2 hD2 => ?_⟩
        refine lc_tup (a := rs) (xs := (srcL k n ls (b + (i : Nat))).map V.int) (fun _ H' => H' D2 = some (.lst []) ∧ Same H5 H') ⟨upd_same, same_new hD2⟩ (fun _ H' _ ⟨_, q⟩ => SqT.of (q _ _ hs')) ?_ ?_
        · rintro j x H' hx ⟨hD', sx⟩
          rw [List.getElem?_map] at hx
          obtain ⟨y, hy, rfl⟩ := Option.map_eq_some_iff.mp hx
          have hin := (inv_days o k n y (b + (i : Nat))).mpr (List.mem_of_getElem? hy)
          refine ⟨rfl, ?_⟩
          refine ⟨_, rfl, ?_⟩
          refine tie_call rfl (ti.same (sC.trans sx)) (by decide +kernel) (by decide +kernel) (fun Q' q => ⟨_, rfl, q⟩) rfl (cy.same (sC.trans sx)) (fun r2 H6 s6 hr2 => ?_)
          refine ⟨r2, _, rfl, .inr (SqT.of hr2), rfl, flat_ints _, _, rfl, ?_⟩
          rw [inV_ints hin]
          exact iteF ⟨s6 _ _ hD', sx.trans s6⟩
        · rintro H' ⟨hD', sx⟩
          refine ⟨Nat.zero_le _, fun q2 nq2 => ?_⟩
          refine ⟨_, _, .lst (SqL.of ((same_new nq2) _ _ hD')) .nil, .lst (SqL.of upd_same) .nil, PySem.W.shaped_ints [], PySem.W.shaped_ints [], _, rfl, iteF ?_⟩
          exact ⟨_, _, _, _, rfl, sC.trans (sx.trans (same_new nq2))⟩
    · rintro σ H' ⟨v4, v5, v6, v7, rfl, s0⟩
      exact kk _ s0
end
end My
namespace My
open PySem PySem.Spec PyProof.Rows L2
section
variable {P : Program} {w : World} {K : PySem.W.Frag} {mg : Str → Option Value} {base : Heap} {C fWhole fBetw fDay fChk : Addr} {G : Kd → Addr} {cT cN fTI fNI fName fBB fBH fAP : Addr}
variable {fS fU fC fI : Kd → Addr} {dS dU dC dI : Kd → FuncData} {fF fL : Addr} {dF dL : FuncData}
/-- tuple([one + far for one in days]) -/
theorem due_read {ra : Addr} {xs : List Int} {far : Int} {σ : L2.St} {H : Hp} {D : Addr} {Q : VK} (hx : H ra = some (.tup (xs.map V.int))) (hD : H D = none) (hl : xs.length ≤ 1000) (hs : σ[3]? = some (some (.int far))) (h5 : σ.length = 6)
    (kk : ∀ r H', Same H H' → H' r = some (.tup ((xs.map (· + far)).map V.int)) → Q (.ref r) H') :
    ∃ W : Nat → Nat → Hp → Prop, (∃ m, W 0 m (upd H D (.lst []))) ∧ ∀ i m H', W i m H' →
      ((Itt K ra).stop i H' ∧ kTup K (.ref D) H' Q) ∨ ((Itt K ra).go i H' ∧ ∃ Nx : Hp → Prop, (∀ H'', Nx H'' → ∃ m', m' < m ∧ W (i + 1) m' H'') ∧ ∀ x H'', (Itt K ra).yld i H' x H'' → gName 5 x (wipe σ [5]) H'' fun σ2 H2 => wipe σ2 [5] = wipe σ [5] ∧ tYes σ2 H2 fun b H3 =>
        if b = true then tOp (fun x y H Q => ∃ i j, x = .int i ∧ y = .int j ∧ Q (.int (i + j)) H) (tVar 5) (tVar 3) σ2 H3 fun y H4 => ∃ acc, H4 D = some (.lst acc) ∧ acc.length < sizeLine ∧ Nx (upd H4 D (.lst (acc ++ [y]))) else Nx H3) := by
  match σ, hs, h5 with
  | [a0, a1, a2, _, a4, a5], hs, _ =>
    cases hs
    have nD : ∀ {b : Addr} {o : HO}, H b = some o → b ≠ D := fun e => ne_of_none e hD
    refine lc_tup (a := ra) (xs := xs.map V.int) (fun i H' => H' D = some (.lst (((xs.take i).map (· + far)).map V.int)) ∧ ∀ b o, H b = some o → H' b = some o) ⟨upd_same, same_new hD⟩ (fun _ H' _ ⟨_, q⟩ => SqT.of (q _ _ hx)) ?_ ?_
    · rintro j x H' hj ⟨hD', keep⟩
      rw [List.getElem?_map] at hj
      obtain ⟨y, hy, rfl⟩ := Option.map_eq_some_iff.mp hj
      have hlt := (List.getElem?_eq_some_iff.mp hy).1
      refine ⟨rfl, ?_⟩
      unfold tYes
      dsimp only
      rw [if_pos rfl]
      refine ⟨_, rfl, _, rfl, _, _, rfl, rfl, _, hD', ?_, ?_⟩
      · rw [List.length_map, List.length_map, List.length_take]
        exact small1000 (by omega)
      · refine ⟨?_, fun b o e => by rw [upd_ne (nD e)]; exact keep _ _ e⟩
        rw [upd_same, List.take_add_one, hy]
        simp
    · rintro H' ⟨hD', keep⟩
      rw [List.length_map, List.take_length] at hD'
      refine .inl ⟨D, _, rfl, SqL.of hD', fun q nq => ?_⟩
      exact kk q _ (Same.trans keep (same_new nq)) upd_same
def spMoved (G : Kd → Addr) (C : Addr) : Sp := fun vs H Q _ => ∃ (p c : Addr) (k : Kd) (n : Int) (ls : List Int) (d t : Int), vs = [.ref p, .ref c, .int d, .int (t * ls.sum)] ∧ TieAt G H p k n ∧ CycAt C H c ls ∧ ∀ H', Same H H' → Q (.bl true) H'
theorem scMoved : FnScope ["_law_made", "_law_weeks", "_law_spot", "_law_far", "_law_due", "_law_one"] ["_law_made", "_law_weeks", "_law_spot", "_law_far"] (defScope sMoved) := ⟨rfl, rfl, rfl, by decide +kernel, rfl, by decide +kernel, by decide +kernel⟩
set_option maxHeartbeats 8000000 in
theorem ok_moved {f : Addr} {fd : FuncData} (F : Fun K "_law_moved_right" "_law_moved_right" sMoved f fd) (T : Txt K mg C fWhole fBetw fDay fChk) (Y : Ty K mg G cT cN fTI fNI fName fBB fBH fAP) (MS : TieM P w K mg base G C "sources" 4 srcL fS dS) (MU : TieM P w K mg base G C "users" 4 usrL fU dU) (MC : TieM P w K mg base G C "__call__" 5 srcL fC dC)
    (kS : ∀ k, KBinds K (dS k) ["self", "day", "cycle"] ["cycle", "day"] gCD gCD) (kU : ∀ k, KBinds K (dU k) ["self", "day", "cycle"] ["day", "cycle"] gDC gDC) (kC : ∀ k, KBinds K (dC k) ["self", "day", "cycle"] ["cycle", "day"] gCD gCD) (cO : ∀ k, StX.CallO K (G k) (fC k)) :
    FnOk P w K mg base CX0 6 f fd ["_law_made", "_law_weeks", "_law_spot", "_law_far"] (spMoved G C) := by
  refine F.ok scMoved (fun vs H Q E h => ?_) (fun cdv A' outer s H vs Q E hr h => ?_)
  · obtain ⟨p, c, k, n, ls, d, t, rfl, _⟩ := h
    rfl
  · obtain ⟨p, c, k, n, ls, d, t, rfl, ti, cy, kk⟩ := h
    have hr4 : Room 4 _ := hr.mono (by decide)
    have o := cy.ok.ok
    have lS := len_src o cy.ok.sum (len60 cy.ok) k n
    have lU := len_usr o cy.ok.sum (len60 cy.ok) k n
    refine ⟨_, pss_cons (ps_set (i := 4) scMoved.nd rfl (Or.inl rfl) (pe_tupleOf (by rfl) T.zTuple (pe_lc (own := [("_law_one", 5)]) (g := gName 5) (tt := tYes) (by rfl) scMoved.nd (pi_tup (pe_exK fun k => pe_meth (pv 0) (Y.cl k) (MS.m k) (MS.F k) hr4 (MS.b k) .nil pass0 (pa_cons (pv 2) (pa_cons (pv 1) pa_nil))))
          (blkOk_by (N := ["_law_made", "_law_weeks", "_law_spot", "_law_far", "_law_due", "_law_one"]) (sc := defScope sMoved) (by decide +kernel)) (fun _ _ _ _ _ => pg_name (i := 5) scMoved.nd rfl (Or.inl rfl)) (fun _ _ _ _ _ => pts_nil) (fun _ _ _ _ _ => pe_op op_add (pv 5) (pv 3)))))
      (pss_cons (ps_if (PW.pt (pw_or (pt_cmpR (op_neD hr.units) (pe_exK fun k => pe_methK (pv 0) (Y.cl k) (MS.m k) (MS.F k) hr4 (kS k) pass0 (pk_cons (pv 1) (pk_cons (pe_op op_add (pv 2) (pv 3)) pk_nil))) (pv 4) (nomark _))
          (pw_or1 (pt_cmpR (op_neD hr.units) (pe_exK fun k => pe_callOK (pv 0) (cO k) (MC.F k) hr (kC k) pass0 (pk_cons (pv 1) (pk_cons (pe_op op_add (pv 2) (pv 3)) pk_nil))) (pv 4) (nomark _))))) pss_never pss_nil)
      (pss_one (ps_ret (pe_cmpR (op_eqD hr.units) (pe_exK fun k => pe_methK (pv 0) (Y.cl k) (MU.m k) (MU.F k) hr4 (kU k) pass0 (pk_cons (pe_op op_add (pv 2) (pv 3)) (pk_cons (pv 1) pk_nil)))
        (pe_tupleOf (by rfl) T.zTuple (pe_lc (own := [("_law_one", 5)]) (g := gName 5) (tt := tYes) (by rfl) scMoved.nd (pi_tup (pe_exK fun k => pe_meth (pv 0) (Y.cl k) (MU.m k) (MU.F k) hr4 (MU.b k) .nil pass0 (pa_cons (pv 2) (pa_cons (pv 1) pa_nil))))
          (blkOk_by (N := ["_law_made", "_law_weeks", "_law_spot", "_law_far", "_law_due", "_law_one"]) (sc := defScope sMoved) (by decide +kernel)) (fun _ _ _ _ _ => pg_name (i := 5) scMoved.nd rfl (Or.inl rfl)) (fun _ _ _ _ _ => pts_nil) (fun _ _ _ _ _ => pe_op op_add (pv 5) (pv 3)))) (nomark _))))), ?_⟩
    refine tie_call rfl ti (by decide +kernel) (by decide +kernel) (fun Q' q => ⟨_, rfl, q⟩) rfl cy (fun ra H1 s1 hra => ?_)
    refine ⟨ra, rfl, ⟨_, SqT.of hra⟩, fun D hD => due_read (far := t * ls.sum) hra hD (by have := lS d; omega) rfl rfl (fun rd H2 s2 hrd => ?_)⟩
    have sA := s1.trans s2
    refine kw_CD rfl (ti.same sA) (by decide +kernel) (by decide +kernel) (fun Q' q => ⟨_, rfl, _, rfl, _, _, rfl, rfl, q⟩) rfl (cy.same sA) (fun r3 H3 s3 h3 => ?_)
    refine ⟨_, rfl, ne_tups h3 (s3 _ _ hrd) (src_moved o k n d t) ⟨_, rfl, iteF ?_⟩⟩
    have sB := sA.trans s3
    refine kwo_CD rfl (ti.same sB) (fun Q' q => ⟨_, rfl, _, rfl, _, _, rfl, rfl, q⟩) rfl (cy.same sB) (fun r4 H4 s4 h4 => ?_)
    refine ⟨_, rfl, ne_tups h4 (s4 _ _ (s3 _ _ hrd)) (src_moved o k n d t) ⟨_, rfl, iteF ?_⟩⟩
    have sC := sB.trans s4
    refine kw_DC rfl (ti.same sC) (by decide +kernel) (by decide +kernel) (fun Q' q => ⟨_, rfl, _, rfl, _, _, rfl, rfl, q⟩) rfl (cy.same sC) (fun r5 H5 s5 h5 => ?_)
    have sD := sC.trans s5
    refine tie_call rfl (ti.same sD) (by decide +kernel) (by decide +kernel) (fun Q' q => ⟨_, rfl, q⟩) rfl (cy.same sD) (fun ru H6 s6 hru => ?_)
    refine ⟨ru, rfl, ⟨_, SqT.of hru⟩, fun D2 hD2 => due_read (far := t * ls.sum) hru hD2 (by have := lU d; omega) rfl rfl (fun re H7 s7 hre => ?_)⟩
    refine eq_tups ((s6.trans s7) _ _ h5) hre (usr_moved o k n d t) ?_
    exact kk _ (sD.trans (s6.trans s7))
theorem cut_last {a b : Int} (h : a < b) : cutV ((rgI a b).map V.int) (some (-1)) none = [V.int (b - 1)] := by
  have hl : ((rgI a b).map V.int).length = (b - a).toNat := by rw [List.length_map, rgI_len]
  unfold cutV
  have e : HT.sIx ((rgI a b).map V.int).length 0 (some (-1)) = (b - a).toNat - 1 := by
    show (if (-1 : Int) < 0 then ((-1 : Int) + (((rgI a b).map V.int).length : Int)).toNat else min (-1 : Int).toNat ((rgI a b).map V.int).length) = _
    rw [if_pos (by decide), hl]
    omega
  have e2 : HT.sIx ((rgI a b).map V.int).length ((rgI a b).map V.int).length none = (b - a).toNat := hl
  rw [e, e2]
  have hn : (b - a).toNat - 1 < ((rgI a b).map V.int).length := by rw [hl]; omega
  have e3 : ((rgI a b).map V.int)[(b - a).toNat - 1]? = some (V.int (b - 1)) := by
    unfold rgI
    rw [List.getElem?_map, List.getElem?_map, List.getElem?_range (by omega)]
    show some (V.int (a + (((b - a).toNat - 1 : Nat) : Int))) = some (V.int (b - 1))
    congr 2
    omega
  rw [List.drop_eq_getElem_cons hn, (List.getElem?_eq_some_iff.mp e3).2, show (b - a).toNat - ((b - a).toNat - 1) = 1 by omega]
  rfl
def spKin (C : Addr) : Sp := fun vs H Q _ => ∃ (c : Addr) (ls : List Int) (d : Int), vs = [.ref c, .int d] ∧ CycAt C H c ls ∧ dayB d = true ∧ ∀ H', Same H H' → Q (.bl true) H'
theorem scKin : FnScope ["_law_weeks", "_law_spot", "_law_sofar", "_law_whole", "_law_last", "_law_same", "_law_begin", "_law_end_so", "_law_at"] ["_law_weeks", "_law_spot"] (defScope sKin) := ⟨rfl, rfl, rfl, by decide +kernel, rfl, by decide +kernel, by decide +kernel⟩
theorem name_a : NameOk "a" := ⟨by decide +kernel, by decide +kernel, by decide +kernel, by decide +kernel⟩
theorem sl_call {H : Hp} {a : Addr} {xs : List V} {lo hi : Option Int} {Q : VK} (ha : H a = some (.tup xs)) (kk : ∀ r H', Same H H' → H' r = some (.tup (cutV xs lo hi)) → Q (.ref r) H') : rSlA K (.ref a) lo hi H Q :=
  ⟨a, xs, rfl, SqT.of ha, fun full => kk a H (Same.refl H) (by rw [ha, full_cut full]), fun _ r nr => kk r _ (same_new nr) upd_same⟩
theorem same_made {H H' : Hp} {p dx : Addr} {o1 o2 : HO} (n : H p = none) (nd : H dx = none) (keep : ∀ b o, (upd (upd H dx o1) p o2) b = some o → b ≠ p → H' b = some o) : Same H H' :=
  fun b o e => keep b o (by rw [upd_ne (ne_of_none e n), upd_ne (ne_of_none e nd)]; exact e) (ne_of_none e n)
set_option maxHeartbeats 16000000 in
theorem ok_kin {f : Addr} {fd : FuncData} (F : Fun K "_law_kin_right" "_law_kin_right" sKin f fd) (T : Txt K mg C fWhole fBetw fDay fChk) (Y : Ty K mg G cT cN fTI fNI fName fBB fBH fAP) (M : MkT P w K mg base G fI dI) (MU : TieM P w K mg base G C "users" 4 usrL fU dU) (MC : TieM P w K mg base G C "__call__" 5 srcL fC dC)
    (cO : ∀ k, StX.CallO K (G k) (fC k)) (MF : CM P w K mg base C "first" fstD fF dF) (ML : CM P w K mg base C "last" lastD fL dL) : FnOk P w K mg base CX0 6 f fd ["_law_weeks", "_law_spot"] (spKin C) := by
  refine F.ok scKin (fun vs H Q E h => ?_) (fun cdv A' outer s H vs Q E hr h => ?_)
  · obtain ⟨c, ls, d, rfl, _⟩ := h
    rfl
  · obtain ⟨c, ls, d, rfl, cy, hd, kk⟩ := h
    have hr4 : Room 4 _ := hr.mono (by decide)
    have o := cy.ok.ok
    refine ⟨_, pss_cons (ps_asg (pe_tup (pa_cons (pe_make (M.m .so) (M.fp .so rfl) hr rfl Y.gSo (M.bp .so rfl) .nil pass0 (pa_cons pe_str pa_nil)) (pa_cons (pe_make (M.m .wh) (M.fp .wh rfl) hr rfl Y.gWh (M.bp .wh rfl) .nil pass0 (pa_cons pe_str pa_nil))
          (pa_cons (pe_make (M.m .la) (M.fp .la rfl) hr rfl Y.gLa (M.bp .la rfl) .nil pass0 (pa_cons pe_str pa_nil)) (pa_cons (pe_make (M.m .sm) (M.fp .sm rfl) hr rfl Y.gSm (M.bp .sm rfl) .nil pass0 (pa_cons pe_str pa_nil)) pa_nil)))))
        (pg_tup rfl (pgs_cons (pg_name (i := 2) scKin.nd rfl (.inl rfl)) (pgs_cons (pg_name (i := 3) scKin.nd rfl (.inl rfl)) (pgs_cons (pg_name (i := 4) scKin.nd rfl (.inl rfl)) (pgs_cons (pg_name (i := 5) scKin.nd rfl (.inl rfl)) pgs_nil))))))
      (pss_cons (ps_par (i := 6) (j := 7) (by rfl) scKin.nd rfl rfl (by decide) rfl rfl (pa_cons (pe_meth (pv 0) T.cl MF.m MF.F hr4 MF.b .nil pass0 (pa_cons (pv 1) pa_nil)) (pa_cons (pe_meth (pv 0) T.cl ML.m ML.F hr4 ML.b .nil pass0 (pa_cons (pv 1) pa_nil)) pa_nil)) (by rfl))
      (pss_cons (ps_if (PW.pt (pw_or (pt_cmpR (op_neD hr.units) (StX.pe_callO (pv 3) (cO .wh) ((MC.F .wh).raw (MC.b .wh) .nil) hr pass0 (pa_cons (pv 1) (pa_cons (pv 0) pa_nil))) (StX.pe_callO (pv 2) (cO .so) ((MC.F .so).raw (MC.b .so) .nil) hr pass0 (pa_cons (pe_op op_sub (pv 6) pe_int) (pa_cons (pv 0) pa_nil))) (nomark _))
          (pw_or1 (pt_cmpR (op_neD hr.units) (StX.pe_callO (pv 4) (cO .la) ((MC.F .la).raw (MC.b .la) .nil) hr pass0 (pa_cons (pv 1) (pa_cons (pv 0) pa_nil))) (pe_slice sl_tupA (StX.pe_callO (pv 3) (cO .wh) ((MC.F .wh).raw (MC.b .wh) .nil) hr pass0 (pa_cons (pv 1) (pa_cons (pv 0) pa_nil))) (po_some (pe_un un_neg pe_int)) po_none) (nomark _))))) pss_never pss_nil)
      (pss_cons (ps_if (PW.pt (pw_or (pt_cmpR (op_neD hr.units) (StX.pe_callO (pv 2) (cO .so) ((MC.F .so).raw (MC.b .so) .nil) hr pass0 (pa_cons (pv 7) (pa_cons (pv 0) pa_nil))) (pe_exK fun k => pe_meth (pv 2) (Y.cl k) (MU.m k) (MU.F k) hr4 (MU.b k) .nil pass0 (pa_cons (pv 6) (pa_cons (pv 0) pa_nil))) (nomark _))
          (pw_or1 (pt_cmpR (op_neD hr.units) (pe_exK fun k => pe_meth (pv 3) (Y.cl k) (MU.m k) (MU.F k) hr4 (MU.b k) .nil pass0 (pa_cons (pv 1) (pa_cons (pv 0) pa_nil))) (pe_exK fun k => pe_meth (pv 4) (Y.cl k) (MU.m k) (MU.F k) hr4 (MU.b k) .nil pass0 (pa_cons (pv 7) (pa_cons (pv 0) pa_nil))) (nomark _))))) pss_never pss_nil)
      (pss_cons (ps_set (i := 8) scKin.nd rfl (Or.inl rfl) (pe_op op_sub (pv 1) (pv 6)))
      (pss_one (ps_ret (pe_cmpR (op_eqD hr.units) (StX.pe_callO (pv 5) (cO .sm) ((MC.F .sm).raw (MC.b .sm) .nil) hr pass0 (pa_cons (pv 1) (pa_cons (pv 0) pa_nil))) (pe_slice sl_tupA (StX.pe_callO (pv 3) (cO .wh) ((MC.F .wh).raw (MC.b .wh) .nil) hr pass0 (pa_cons (pv 1) (pa_cons (pv 0) pa_nil))) (po_some (pv 8)) (po_some (pe_op op_add (pv 8) pe_int))) (nomark _)))))))), ?_⟩
    refine fun p1 dx1 n1 nd1 _ => ⟨p1, dx1, "a", rfl, name_a, upd_same, fun H1 keep1 hp1 => ⟨rfl, ?_⟩⟩
    have s1 := same_made n1 nd1 keep1
    have t1 : TieAt G H1 p1 .so 0 := ⟨dx1, "a", hp1⟩
    clear keep1 hp1 nd1
    refine fun p2 dx2 n2 nd2 _ => ⟨p2, dx2, "a", rfl, name_a, upd_same, fun H2 keep2 hp2 => ⟨rfl, ?_⟩⟩
    have s2 := same_made n2 nd2 keep2
    have t2 : TieAt G H2 p2 .wh 0 := ⟨dx2, "a", hp2⟩
    clear keep2 hp2 nd2
    refine fun p3 dx3 n3 nd3 _ => ⟨p3, dx3, "a", rfl, name_a, upd_same, fun H3 keep3 hp3 => ⟨rfl, ?_⟩⟩
    have s3 := same_made n3 nd3 keep3
    have t3 : TieAt G H3 p3 .la 0 := ⟨dx3, "a", hp3⟩
    clear keep3 hp3 nd3
    refine fun p4 dx4 n4 nd4 _ => ⟨p4, dx4, "a", rfl, name_a, upd_same, fun H4 keep4 hp4 => ⟨rfl, ?_⟩⟩
    have s4 := same_made n4 nd4 keep4
    have t4 : TieAt G H4 p4 .sm 0 := ⟨dx4, "a", hp4⟩
    clear keep4 hp4 nd4
    refine ⟨by show 4 ≤ sizeLine; decide, fun q nq => ?_⟩
    have s5 := same_new (o := .tup [.ref p1, .ref p2, .ref p3, .ref p4]) nq
    refine ⟨q, _, rfl, SqT.of upd_same, rfl, _, _, rfl, _, _, rfl, _, _, rfl, _, _, rfl, rfl, ?_⟩
    have sA : Same H (upd H4 q (.tup [.ref p1, .ref p2, .ref p3, .ref p4])) := s1.trans (s2.trans (s3.trans (s4.trans s5)))
    have t1' := t1.same (s2.trans (s3.trans (s4.trans s5)))
    have t2' := t2.same (s3.trans (s4.trans s5))
    have t3' := t3.same (s4.trans s5)
    have t4' := t4.same s5
    have cy' := cy.same sA
    clear t1 t2 t3 t4 s1 s2 s3 s4 s5 n1 n2 n3 n4
    generalize upd H4 q (.tup [.ref p1, .ref p2, .ref p3, .ref p4]) = H5 at sA t1' t2' t3' t4' cy' ⊢
    refine day_call rfl cy' (by decide +kernel) (by decide +kernel) (fun Q' q => ⟨_, rfl, q⟩) hd (fun H6 s6 c6 => ?_)
    refine day_call rfl c6 (by decide +kernel) (by decide +kernel) (fun Q' q => ⟨_, rfl, q⟩) hd (fun H7 s7 c7 => ?_)
    refine ⟨_, _, rfl, ?_⟩
    have sB := sA.trans (s6.trans s7)
    have u1 := t1'.same (s6.trans s7)
    have u2 := t2'.same (s6.trans s7)
    have u3 := t3'.same (s6.trans s7)
    have u4 := t4'.same (s6.trans s7)
    clear t1' t2' t3' t4' cy' c6 s6 s7 sA
    obtain ⟨r1, r2⟩ := day_rng o d
    have eL : lastD ls d = lstD ls d := rfl
    have eF : fstD ls (lstD ls d) = fstD ls d := (same_blk o (d := d) (e := lstD ls d) (by omega) (by omega)).1
    have eLL : lstD ls (lstD ls d) = lstD ls d := (same_blk o (d := d) (e := lstD ls d) (by omega) (by omega)).2
    have eLF : lstD ls (fstD ls d) = lstD ls d := (same_blk o (d := d) (e := fstD ls d) (by omega) (by omega)).2
    obtain ⟨r3, r4⟩ := day_rng o (fstD ls d - 1)
    -- whole, sofar of the day ahead
    refine o_call rfl u2 (fun Q' q => ⟨_, rfl, q⟩) rfl c7 (fun ra H8 s8 h8 => ?_)
    refine o_call rfl (u1.same s8) (fun Q' q => ⟨_, rfl, _, _, rfl, rfl, q⟩) rfl (c7.same s8) (fun rb H9 s9 h9 => ?_)
    refine ne_tups (s9 _ _ h8) h9 rfl ⟨_, rfl, iteF ?_⟩
    have sC := s8.trans s9
    -- last, the last one of whole
    refine o_call rfl (u3.same sC) (fun Q' q => ⟨_, rfl, q⟩) rfl (c7.same sC) (fun rc H10 s10 h10 => ?_)
    refine o_call rfl (u2.same (sC.trans s10)) (fun Q' q => ⟨_, rfl, q⟩) rfl (c7.same (sC.trans s10)) (fun rd H11 s11 h11 => ?_)
    have lst : cutV ((srcL .wh 0 ls d).map V.int) (some (-1)) none = (srcL .la 0 ls d).map V.int := by
      show cutV ((rgI _ _).map V.int) _ _ = [V.int _]
      rw [cut_last (by omega)]
      congr 2
      omega
    have sD := sC.trans (s10.trans s11)
    have h10' := s11 _ _ h10
    refine ⟨_, rfl, _, rfl, ?_⟩
    dsimp only [tNoPart]
    refine sl_call h11 (fun re H12 s12 h12 => ?_)
    rw [lst] at h12
    refine ne_tups (s12 _ _ h10') h12 rfl ⟨_, rfl, iteF ?_⟩
    have sE := sD.trans s12
    -- sofar at the end, the users of the first day
    refine o_call rfl (u1.same sE) (fun Q' q => ⟨_, rfl, q⟩) rfl (c7.same sE) (fun rf H13 s13 h13 => ?_)
    refine tie_call rfl (u1.same (sE.trans s13)) (by decide +kernel) (by decide +kernel) (fun Q' q => ⟨_, rfl, q⟩) rfl (c7.same (sE.trans s13)) (fun rg H14 s14 h14 => ?_)
    refine ne_tups (s14 _ _ h13) h14 ?_ ⟨_, rfl, iteF ?_⟩
    · show rgI (fstD ls (lstD ls d)) (lstD ls d + 1) = rgI (fstD ls d) (lstD ls (fstD ls d) + 1)
      rw [eF, eLF]
    have sF := sE.trans (s13.trans s14)
    refine tie_call rfl (u2.same sF) (by decide +kernel) (by decide +kernel) (fun Q' q => ⟨_, rfl, q⟩) rfl (c7.same sF) (fun rh H15 s15 h15 => ?_)
    refine tie_call rfl (u3.same (sF.trans s15)) (by decide +kernel) (by decide +kernel) (fun Q' q => ⟨_, rfl, q⟩) rfl (c7.same (sF.trans s15)) (fun ri H16 s16 h16 => ?_)
    refine ne_tups (s16 _ _ h15) h16 ?_ ⟨_, rfl, iteF ?_⟩
    · show rgI (lstD ls d + 1) (lstD ls (lstD ls d + 1) + 1) = (if lstD ls (lstD ls d) = lstD ls d then rgI (lstD ls (lstD ls d) + 1) (lstD ls (lstD ls (lstD ls d) + 1) + 1) else [])
      rw [if_pos eLL, eLL]
    have sG := sF.trans (s15.trans s16)
    refine ⟨_, rfl, _, rfl, _, _, rfl, rfl, ?_⟩
    refine o_call rfl (u4.same sG) (fun Q' q => ⟨_, rfl, q⟩) rfl (c7.same sG) (fun rj H17 s17 h17 => ?_)
    refine o_call rfl (u2.same (sG.trans s17)) (fun Q' q => ⟨_, rfl, q⟩) rfl (c7.same (sG.trans s17)) (fun rk H18 s18 h18 => ?_)
    refine ⟨_, rfl, _, rfl, _, rfl, _, _, rfl, rfl, _, rfl, ?_⟩
    dsimp only
    refine sl_call h18 (fun rl H19 s19 h19 => ?_)
    have cutp : cutV ((srcL .wh 0 ls d).map V.int) (some (d - fstD ls d)) (some (d - fstD ls d + 1)) = (srcL .sm 0 ls d).map V.int := cut_pick (by omega)
    rw [cutp] at h19
    refine eq_tups ((s18.trans s19) _ _ h17) h19 rfl ?_
    exact kk _ (sB.trans (sG.trans (s17.trans (s18.trans s19))))
end
end My
namespace My
open PySem PySem.Spec PyProof.Rows L2
abbrev sLaw : Stmt := top 51
theorem mul_r {i j : Int} (h0 : 0 ≤ j) (h : j ≤ 1000) : CMul i j := by
  have e : (2 : Int) ^ 64 = 18446744073709551616 := by decide
  exact .inr ⟨by rw [e]; omega, by rw [e]; omega⟩
/-- the cycle at x, the tie at m, the pen -/
structure OkT (G : Kd → Addr) (C x m p l : Addr) (k : Kd) (n : Int) (ls : List Int) (H : Hp) (N : Int) : Prop where
  cy : CycAt C H x ls
  ti : TieAt G H m k n
  pen : PenAt H p l N
theorem OkT.same {G : Kd → Addr} {C x m p l : Addr} {k : Kd} {n : Int} {ls : List Int} {H H' : Hp} {N : Int} (o : OkT G C x m p l k n ls H N) (s : Same H H') : OkT G C x m p l k n ls H' N := ⟨o.cy.same s, o.ti.same s, o.pen.same s⟩
theorem OkT.but {G : Kd → Addr} {C x m p l : Addr} {k : Kd} {n : Int} {ls : List Int} {H H' : Hp} {N M : Int} (o : OkT G C x m p l k n ls H N) (s : SameBut p H H') (q : PenAt H' p l M) : OkT G C x m p l k n ls H' M :=
  ⟨let ⟨_, e⟩ := o.pen.lst; o.cy.but s e, let ⟨_, e⟩ := o.pen.lst; o.ti.but s e, q⟩
theorem pen_new {H : Hp} {p l : Addr} {N : Int} (pen : PenAt H p l N) {q : Addr} (hq : H q = none) : q ≠ p := let ⟨_, e⟩ := pen.lst; Ne.symm (ne_of_none e hq)
section
variable {P : Program} {w : World} {K : PySem.W.Frag} {mg : Str → Option Value} {base : Heap} {C fWhole fBetw fDay fChk : Addr} {G : Kd → Addr}
variable {fGt pGt fPen fDraw fPick fLens fTieOf fPlain fTurn fMoved fKin fOf pOf : Addr} {dGt dPen dDraw dPick dLens dTieOf dPlain dTurn dMoved dKin dOf : FuncData} {mc : Value}
def spLaw (K : PySem.W.Frag) : Sp := fun vs H Q _ => ∃ (a : Addr) (ns : List Int), vs = [.ref a] ∧ SqL K H a (ns.map V.int) ∧ ns.length ≤ 63 ∧ ∀ H', Q (.bl true) H'
theorem scLaw : FnScope ["_law_script", "_law_pen_here", "_law_turn", "_law_lengths_so", "_law_weeks", "_law_made", "_law_begin", "_law_step", "_law_spot", "_law_turns"] ["_law_script"] (defScope sLaw) := ⟨rfl, rfl, rfl, by decide +kernel, rfl, by decide +kernel, by decide +kernel⟩
set_option maxHeartbeats 16000000 in
theorem ok_law {f : Addr} {fd : FuncData} (F : Fun K "law" "law" sLaw f fd) (T : Txt K mg C fWhole fBetw fDay fChk) (GT : CP P w K mg base C "total" (spGetT C) pGt fGt dGt) (DP : Df P w K mg base "_law_pen" 1 fPen dPen ["_law_script"] (spPen K)) (DD : Df P w K mg base "_law_draw" 1 fDraw dDraw ["_law_pen_here", "_law_many"] spDraw)
    (DI : Df P w K mg base "_law_pick" 2 fPick dPick ["_law_pen_here", "_law_some"] spPick) (DL : Df P w K mg base "_law_lengths" 3 fLens dLens ["_law_pen_here"] spLens) (DT : Df P w K mg base "_law_tie" 6 fTieOf dTieOf ["_law_plain_here"] (spTieOf G)) (DN : Df P w K mg base "_law_plain" 3 fPlain dPlain ["_law_pen_here", "_law_labels"] spPlain)
    (DR : Df P w K mg base "_law_turned_right" 5 fTurn dTurn ["_law_made", "_law_weeks", "_law_begin", "_law_many"] (spTurn G C)) (DM : Df P w K mg base "_law_moved_right" 6 fMoved dMoved ["_law_made", "_law_weeks", "_law_spot", "_law_far"] (spMoved G C)) (DK : Df P w K mg base "_law_kin_right" 6 fKin dKin ["_law_weeks", "_law_spot"] (spKin C))
    (OF : FnOk P w K mg base CX0 6 fOf dOf ["cls", "lengths"] (spOf K C)) (bOf : Binds K dOf ["cls", "lengths"] []) (cr : ClX.CRead K C mc) (cm : ClX.CMet K C mc "of" pOf fOf) : FnOk P w K mg base CX0 7 f fd ["_law_script"] (spLaw K) := by
  refine F.ok scLaw (fun vs H Q E h => ?_) (fun cdv A outer s H vs Q E hr h => ?_)
  · obtain ⟨a, ns, rfl, _⟩ := h
    rfl
  · obtain ⟨a, ns, rfl, hS, hlen, kk⟩ := h
    have hr1 : Room 1 _ := hr.mono (by decide)
    have hr2 : Room 2 _ := hr.mono (by decide)
    have hr3 : Room 3 _ := hr.mono (by decide)
    have hr5 : Room 5 _ := hr.mono (by decide)
    refine ⟨_, pss_cons (ps_set (i := 1) scLaw.nd rfl (Or.inl rfl) (pe_call DP.F hr1 rfl DP.g DP.kp DP.b .nil pass0 (pa_cons (pv 0) pa_nil)))
      (pss_cons (ps_for PassesOwn.never rfl (pi_range1 rfl T.zRange (pa_cons pe_int pa_nil)) (pg_name (i := 2) scLaw.nd rfl (.inl rfl))
        (pss_cons (ps_set (i := 3) scLaw.nd rfl (Or.inl rfl) (pe_call DL.F hr3 rfl DL.g DL.kp DL.b .nil pass0 (pa_cons (pv 1) pa_nil)))
        (pss_cons (ps_set (i := 4) scLaw.nd rfl (Or.inl rfl) (ClX.pe_cmeth (pe_glob (v := .ref C) rfl T.gCyc rfl) cr cm (OF.raw bOf .nil) hr pass0 (pa_cons (pv 3) pa_nil)))
        (pss_cons (ps_set (i := 5) scLaw.nd rfl (Or.inl rfl) (pe_call DT.F hr rfl DT.g DT.kp DT.b .nil pass0 (pa_cons (pe_call DN.F hr3 rfl DN.g DN.kp DN.b .nil pass0 (pa_cons (pv 1) (pa_cons (pe_lst (pa_cons pe_str pa_nil)) pa_nil))) pa_nil)))
        (pss_cons (ps_set (i := 6) scLaw.nd rfl (Or.inl rfl) (pe_op op_add (pe_op op_sub (pe_call DD.F hr1 rfl DD.g DD.kp DD.b .nil pass0 (pa_cons (pv 1) (pa_cons pe_int pa_nil))) pe_int)
          (pe_call DI.F hr2 rfl DI.g DI.kp DI.b .nil pass0 (pa_cons (pv 1) (pa_cons (pe_lst (pa_cons pe_int (pa_cons pe_int (pa_cons (pe_op op_pow pe_int pe_int) (pa_cons (pe_un un_neg (pe_op op_pow pe_int pe_int)) pa_nil))))) pa_nil)))))
        (pss_cons (ps_if (pt_not (pt_val (pe_call DR.F hr5 rfl DR.g DR.kp DR.b .nil pass0 (pa_cons (pv 5) (pa_cons (pv 4) (pa_cons (pv 6) (pa_cons (pe_call DI.F hr2 rfl DI.g DI.kp DI.b .nil pass0 (pa_cons (pv 1) (pa_cons (pe_lst (pa_cons pe_int (pa_cons pe_int (pa_cons pe_int pa_nil)))) pa_nil))) pa_nil))))))) pss_never pss_nil)
        (pss_one (ps_for PassesOwn.never rfl (pi_range1 rfl T.zRange (pa_cons pe_int pa_nil)) (pg_name (i := 7) scLaw.nd rfl (.inl rfl))
          (pss_cons (ps_par (i := 8) (j := 9) (by rfl) scLaw.nd rfl rfl (by decide) rfl rfl (pa_cons (pe_op op_add (pv 6) (pe_call DD.F hr1 rfl DD.g DD.kp DD.b .nil pass0 (pa_cons (pv 1) (pa_cons pe_int pa_nil))))
              (pa_cons (pe_call DI.F hr2 rfl DI.g DI.kp DI.b .nil pass0 (pa_cons (pv 1) (pa_cons (pe_lst (pa_cons pe_int (pa_cons (pe_un un_neg pe_int) (pa_cons pe_int (pa_cons (pe_op op_pow pe_int pe_int) pa_nil))))) pa_nil))) pa_nil)) (by rfl))
          (pss_one (ps_if (PW.pt (pw_or (pt_not (pt_val (pe_call DM.F hr rfl DM.g DM.kp DM.b .nil pass0 (pa_cons (pv 5) (pa_cons (pv 4) (pa_cons (pv 8) (pa_cons (pe_op op_mul (pv 9) (pe_prop (pv 4) T.cl GT.p GT.F hr2 GT.b .nil pass0 rfl)) pa_nil)))))))
            (pw_or1 (pt_not (pt_val (pe_call DK.F hr rfl DK.g DK.kp DK.b .nil pass0 (pa_cons (pv 4) (pa_cons (pv 8) pa_nil)))))))) pss_never pss_nil)))))))))))
      (pss_one (ps_ret pe_bl))), ?_⟩
    refine ⟨_, rfl, a, ns, rfl, hS, hlen, fun p l H1 s1 pen0 => ?_⟩
    refine ⟨8, rfl, by decide, by decide, for_range (lo := 0) (n := 8) (fun i σ H' => ∃ v2 v3 v4 v5 v6 v7 v8 v9 : Option V, σ = [some (.ref a), some (.ref p), v2, v3, v4, v5, v6, v7, v8, v9] ∧ PenAt H' p l (40 * i)) ⟨none, none, none, none, none, none, none, none, rfl, pen0.le (by omega)⟩ ?_ ?_⟩
    · rintro i σ H2 hi ⟨v2, v3, v4, v5, v6, v7, v8, v9, rfl, pen⟩
      -- lengths, the cycle
      refine ⟨_, rfl, p, l, 40 * i, rfl, pen, by omega, fun a3 ls H3 sb3 pen3 hA3 nA3 g => ?_⟩
      refine ⟨rfl, _, rfl, a3, ls, rfl, SqL.of hA3, g, fun x H4 s4 nx c => ?_⟩
      have o := g.ok
      have pen4 := pen3.same s4
      -- the tie
      refine ⟨_, rfl, by show 1 ≤ sizeLine; decide, fun q nq => ?_⟩
      have c5 := c.same (same_new (o := .lst [.str "a"]) nq)
      have pen5 := pen4.same (same_new (o := .lst [.str "a"]) nq)
      refine ⟨p, l, q, 40 * i + 20, ["a"], rfl, pen5, by omega, upd_same, pen_new pen4 nq, by decide, by decide, (fun y hy => by rw [List.mem_singleton.mp hy]; exact name_a), fun t k n y H6 sb6 pen6 ht nm ok => ?_⟩
      refine ⟨t, k, n, y, rfl, ht, nm, ok, fun m H7 s7 nm7 ti => ?_⟩
      have o7 : OkT G C x m p l k n ls H7 (40 * i + 24) := ⟨(let ⟨_, e⟩ := pen5.lst; c5.but sb6 e).same s7, ti, (pen6.same s7).le (by omega)⟩
      clear c5 pen5 pen6 sb6 s7 ti nm7 pen4 c s4 pen3 sb3 hA3 nA3 pen
      -- begin
      refine ⟨_, rfl, p, l, 40 * i + 24, 200, rfl, o7.pen, by decide, log_small (by decide) (by decide), by omega, fun r H8 r0 r1 sb8 pen8 => ?_⟩
      have o8 := o7.but sb8 pen8
      refine ⟨_, _, rfl, rfl, _, rfl, _, _, rfl, rfl, ⟨by decide, by decide, by decide⟩, _, _, rfl, rfl, ⟨by decide, by decide, by decide⟩, _, rfl, by show 4 ≤ sizeLine; decide, fun q9 nq9 => ?_⟩
      have o9 := o8.same (same_new (o := .lst [.int 0, .int 0, .int (10 ^ (40 : Int).toNat), .int (-10 ^ (58 : Int).toNat)]) nq9)
      refine ⟨p, l, q9, 40 * i + 24 + 1, _, rfl, o9.pen, by omega, upd_same, pen_new o8.pen nq9, by show 0 < 4; decide, by show 4 ≤ 1000; decide, fun j v H10 hj sb10 pen10 => ?_⟩
      obtain ⟨b0, rfl, hb0⟩ : ∃ b : Int, v = .int b ∧ b.natAbs ≤ 10 ^ 58 := by
        have hv := List.mem_of_getElem? hj
        simp only [List.mem_cons, List.not_mem_nil, or_false] at hv
        rcases hv with rfl | rfl | rfl | rfl
        · exact ⟨_, rfl, by decide⟩
        · exact ⟨_, rfl, by decide⟩
        · exact ⟨_, rfl, by decide⟩
        · exact ⟨_, rfl, by decide⟩
      have o10 := o9.but sb10 pen10
      clear o9 sb10 pen10 hj
      refine ⟨_, _, rfl, rfl, ?_⟩
      have hb : (r - 100 + b0).natAbs ≤ 10 ^ 59 := by
        have e2 : (10 : Nat) ^ 59 = 100000000000000000000000000000000000000000000000000000000000 := by decide
        have e3 : (10 : Nat) ^ 58 = 10000000000000000000000000000000000000000000000000000000000 := by decide
        rw [e3] at hb0
        rw [e2]
        omega
      dsimp only
      generalize r - 100 + b0 = b at hb ⊢
      -- turned about
      refine ⟨_, rfl, _, rfl, _, rfl, _, rfl, by show 3 ≤ sizeLine; decide, fun q11 nq11 => ?_⟩
      have o11 := o10.same (same_new (o := .lst [.int 5, .int 12, .int 20]) nq11)
      refine ⟨p, l, q11, 40 * i + 24 + 1 + 1, _, rfl, o11.pen, by omega, upd_same, pen_new o10.pen nq11, by show 0 < 3; decide, by show 3 ≤ 1000; decide, fun j2 v2' H12 hj2 sb12 pen12 => ?_⟩
      obtain ⟨mm, rfl⟩ : ∃ mm : Int, v2' = .int mm := by
        have hv := List.mem_of_getElem? hj2
        simp only [List.mem_cons, List.not_mem_nil, or_false] at hv
        rcases hv with rfl | rfl | rfl <;> exact ⟨_, rfl⟩
      have o12 := o11.but sb12 pen12
      clear o11 sb12 pen12 hj2
      refine ⟨m, x, k, n, ls, b, mm, rfl, o12.ti, o12.cy, fun H13 s13 => ⟨_, rfl, iteF ?_⟩⟩
      have o13 := o12.same s13
      -- four days
      refine ⟨4, rfl, by decide, by decide, for_range (lo := 0) (n := 4) (fun j σ H' => ∃ v7 v8 v9 : Option V, σ = [some (.ref a), some (.ref p), some (.int (0 + i)), some (.ref a3), some (.ref x), some (.ref m), some (.int b), v7, v8, v9] ∧ OkT G C x m p l k n ls H' (40 * i + 27 + 2 * j)) ⟨v7, v8, v9, rfl, ?_⟩ ?_ ?_⟩
      · exact ⟨o13.cy, o13.ti, o13.pen.le (by omega)⟩
      · rintro j σ H14 hj ⟨w7, w8, w9, rfl, o14⟩
        refine ⟨_, rfl, _, rfl, p, l, 40 * i + 27 + 2 * j, 70, rfl, o14.pen, by decide, log_small (by decide) (by decide), by omega, fun r' H15 q0 q1 sb15 pen15 => ?_⟩
        have o15 := o14.but sb15 pen15
        refine ⟨_, _, rfl, rfl, _, rfl, _, rfl, _, _, rfl, rfl, ⟨by decide, by decide, by decide⟩, by show 4 ≤ sizeLine; decide, fun q16 nq16 => ?_⟩
        have o16 := o15.same (same_new (o := .lst [.int 1, .int (-1), .int 4, .int (10 ^ (30 : Int).toNat)]) nq16)
        refine ⟨p, l, q16, 40 * i + 27 + 2 * j + 1, _, rfl, o16.pen, by omega, upd_same, pen_new o15.pen nq16, by show 0 < 4; decide, by show 4 ≤ 1000; decide, fun jj v H17 hjj sb17 pen17 => ?_⟩
        obtain ⟨t, rfl⟩ : ∃ t : Int, v = .int t := by
          have hv := List.mem_of_getElem? hjj
          simp only [List.mem_cons, List.not_mem_nil, or_false] at hv
          rcases hv with rfl | rfl | rfl | rfl <;> exact ⟨_, rfl⟩
        have o17 := o16.but sb17 pen17
        clear o16 sb17 pen17 hjj
        have T0 := o.sum
        have T1 := g.sum
        have e40 : (10 : Int) ^ 40 = 10000000000000000000000000000000000000000 := by decide
        have hd : dayB (b + r') = true := dB_near hb (by rw [e40]; omega) (by rw [e40]; omega)
        obtain ⟨dx, tt, g1, g2⟩ := o17.cy.ob
        refine ⟨_, _, rfl, ?_⟩
        refine ⟨_, rfl, _, rfl, _, rfl, _, rfl, _, rfl, x, dx, _, rfl, g1, x, ls, rfl, o17.cy, _, _, rfl, rfl, mul_r (by omega) (by omega), ?_⟩
        refine ⟨m, x, k, n, ls, b + r', t, rfl, o17.ti, o17.cy, fun H18 s18 => ⟨_, rfl, iteF ?_⟩⟩
        refine ⟨_, rfl, _, rfl, x, ls, b + r', rfl, o17.cy.same s18, hd, fun H19 s19 => ⟨_, rfl, iteF ?_⟩⟩
        have o19 := o17.same (s18.trans s19)
        exact ⟨_, _, _, rfl, o19.cy, o19.ti, o19.pen.le (by omega)⟩
      · rintro σ H14 ⟨w7, w8, w9, rfl, o14⟩
        exact ⟨_, _, _, _, _, _, _, _, rfl, o14.pen.le (by omega)⟩
    · rintro σ H2 _
      exact kk _
end
end My
namespace My
open PySem PySem.Spec PyProof.Rows L2
set_option maxHeartbeats 16000000 in
theorem all_mk {l : PySem.W.OpenLaw} {w : World} {K : PySem.W.Frag} {h : Heap} {mg : Str → Option Value} {fa C : Addr} (X : K.In h) (G : h.Ns mainGlobals mg) (hfa : mg "law" = some (.ref fa))
    {odF0 anF0 : Option Addr} {slF0 : Array (Option Value)} {ocF0 kVF0 dcF0 pmF0 cdF0 ctF0 : Value} {fF0 : Addr}
    {odF1 anF1 : Option Addr} {slF1 : Array (Option Value)} {ocF1 kVF1 dcF1 pmF1 cdF1 ctF1 : Value} {fF1 : Addr}
    {odF2 anF2 : Option Addr} {slF2 : Array (Option Value)} {ocF2 kVF2 dcF2 pmF2 cdF2 ctF2 : Value} {fF2 : Addr}
    {odF3 anF3 : Option Addr} {slF3 : Array (Option Value)} {ocF3 kVF3 dcF3 pmF3 cdF3 ctF3 : Value} {fF3 : Addr}
    {odF4 anF4 : Option Addr} {slF4 : Array (Option Value)} {ocF4 kVF4 dcF4 pmF4 cdF4 ctF4 : Value} {fF4 : Addr}
    {odF5 anF5 : Option Addr} {slF5 : Array (Option Value)} {ocF5 kVF5 dcF5 pmF5 cdF5 ctF5 : Value} {fF5 : Addr}
    {odF6 anF6 : Option Addr} {slF6 : Array (Option Value)} {ocF6 kVF6 dcF6 pmF6 cdF6 ctF6 : Value} {fF6 : Addr}
    {odF7 anF7 : Option Addr} {slF7 : Array (Option Value)} {ocF7 kVF7 dcF7 pmF7 cdF7 ctF7 : Value} {fF7 : Addr}
    {odF8 anF8 : Option Addr} {slF8 : Array (Option Value)} {ocF8 kVF8 dcF8 pmF8 cdF8 ctF8 : Value} {fF8 : Addr}
    {odF9 anF9 : Option Addr} {slF9 : Array (Option Value)} {ocF9 kVF9 dcF9 pmF9 cdF9 ctF9 : Value} {fF9 : Addr}
    {odF10 anF10 : Option Addr} {slF10 : Array (Option Value)} {ocF10 kVF10 dcF10 pmF10 cdF10 ctF10 : Value} {fF10 : Addr}
    {odF11 anF11 : Option Addr} {slF11 : Array (Option Value)} {ocF11 kVF11 dcF11 pmF11 cdF11 ctF11 : Value} {fF11 : Addr}
    {odF12 anF12 : Option Addr} {slF12 : Array (Option Value)} {ocF12 kVF12 dcF12 pmF12 cdF12 ctF12 : Value} {fF12 : Addr}
    {odF13 anF13 : Option Addr} {slF13 : Array (Option Value)} {ocF13 kVF13 dcF13 pmF13 cdF13 ctF13 : Value} {fF13 : Addr}
    {odF14 anF14 : Option Addr} {slF14 : Array (Option Value)} {ocF14 kVF14 dcF14 pmF14 cdF14 ctF14 : Value} {fF14 : Addr}
    {odF15 anF15 : Option Addr} {slF15 : Array (Option Value)} {ocF15 kVF15 dcF15 pmF15 cdF15 ctF15 : Value} {fF15 : Addr}
    {odF16 anF16 : Option Addr} {slF16 : Array (Option Value)} {ocF16 kVF16 dcF16 pmF16 cdF16 ctF16 : Value} {fF16 : Addr}
    {odF17 anF17 : Option Addr} {slF17 : Array (Option Value)} {ocF17 kVF17 dcF17 pmF17 cdF17 ctF17 : Value} {fF17 : Addr}
    {odF18 anF18 : Option Addr} {slF18 : Array (Option Value)} {ocF18 kVF18 dcF18 pmF18 cdF18 ctF18 : Value} {fF18 : Addr}
    {odM0 anM0 : Option Addr} {slM0 : Array (Option Value)} {ocM0 kVM0 dcM0 pmM0 cdM0 ctM0 : Value} {fM0 : Addr}
    {odM1 anM1 : Option Addr} {slM1 : Array (Option Value)} {ocM1 kVM1 dcM1 pmM1 cdM1 ctM1 : Value} {fM1 : Addr}
    {odM2 anM2 : Option Addr} {slM2 : Array (Option Value)} {ocM2 kVM2 dcM2 pmM2 cdM2 ctM2 : Value} {fM2 : Addr}
    {odM3 anM3 : Option Addr} {slM3 : Array (Option Value)} {ocM3 kVM3 dcM3 pmM3 cdM3 ctM3 : Value} {fM3 : Addr}
    {odM4 anM4 : Option Addr} {slM4 : Array (Option Value)} {ocM4 kVM4 dcM4 pmM4 cdM4 ctM4 : Value} {fM4 : Addr}
    {odP0 anP0 : Option Addr} {slP0 : Array (Option Value)} {ocP0 kVP0 dcP0 pmP0 cdP0 ctP0 : Value} {fP0 : Addr}
    {qP0 : Addr} {rsP0 : List Value}
    {odO1 anO1 : Option Addr} {slO1 : Array (Option Value)} {ocO1 kVO1 dcO1 pmO1 cdO1 ctO1 : Value} {fO1 : Addr}
    {qO1 : Addr} {rsO1 : List Value}
    {tkB tkMB tkMT tkMN : Tok}
    {cT cN : Addr}
    {odTI anTI : Option Addr} {slTI : Array (Option Value)} {ocTI kVTI dcTI pmTI cdTI ctTI : Value} {fTI : Addr}
    {odNI anNI : Option Addr} {slNI : Array (Option Value)} {ocNI kVNI dcNI pmNI cdNI ctNI : Value} {fNI : Addr}
    {gBk gAh gSo gWh gLa gSm : Addr}
    {odBkI anBkI : Option Addr} {slBkI : Array (Option Value)} {ocBkI kVBkI dcBkI pmBkI cdBkI ctBkI : Value} {fBkI : Addr}
    {odBkS anBkS : Option Addr} {slBkS : Array (Option Value)} {ocBkS kVBkS dcBkS pmBkS cdBkS ctBkS : Value} {fBkS : Addr}
    {odBkU anBkU : Option Addr} {slBkU : Array (Option Value)} {ocBkU kVBkU dcBkU pmBkU cdBkU ctBkU : Value} {fBkU : Addr}
    {odBkC anBkC : Option Addr} {slBkC : Array (Option Value)} {ocBkC kVBkC dcBkC pmBkC cdBkC ctBkC : Value} {fBkC : Addr}
    {odAhI anAhI : Option Addr} {slAhI : Array (Option Value)} {ocAhI kVAhI dcAhI pmAhI cdAhI ctAhI : Value} {fAhI : Addr}
    {odAhS anAhS : Option Addr} {slAhS : Array (Option Value)} {ocAhS kVAhS dcAhS pmAhS cdAhS ctAhS : Value} {fAhS : Addr}
    {odAhU anAhU : Option Addr} {slAhU : Array (Option Value)} {ocAhU kVAhU dcAhU pmAhU cdAhU ctAhU : Value} {fAhU : Addr}
    {odAhC anAhC : Option Addr} {slAhC : Array (Option Value)} {ocAhC kVAhC dcAhC pmAhC cdAhC ctAhC : Value} {fAhC : Addr}
    {odSoI anSoI : Option Addr} {slSoI : Array (Option Value)} {ocSoI kVSoI dcSoI pmSoI cdSoI ctSoI : Value} {fSoI : Addr}
    {odSoS anSoS : Option Addr} {slSoS : Array (Option Value)} {ocSoS kVSoS dcSoS pmSoS cdSoS ctSoS : Value} {fSoS : Addr}
    {odSoU anSoU : Option Addr} {slSoU : Array (Option Value)} {ocSoU kVSoU dcSoU pmSoU cdSoU ctSoU : Value} {fSoU : Addr}
    {odSoC anSoC : Option Addr} {slSoC : Array (Option Value)} {ocSoC kVSoC dcSoC pmSoC cdSoC ctSoC : Value} {fSoC : Addr}
    {odWhI anWhI : Option Addr} {slWhI : Array (Option Value)} {ocWhI kVWhI dcWhI pmWhI cdWhI ctWhI : Value} {fWhI : Addr}
    {odWhS anWhS : Option Addr} {slWhS : Array (Option Value)} {ocWhS kVWhS dcWhS pmWhS cdWhS ctWhS : Value} {fWhS : Addr}
    {odWhU anWhU : Option Addr} {slWhU : Array (Option Value)} {ocWhU kVWhU dcWhU pmWhU cdWhU ctWhU : Value} {fWhU : Addr}
    {odWhC anWhC : Option Addr} {slWhC : Array (Option Value)} {ocWhC kVWhC dcWhC pmWhC cdWhC ctWhC : Value} {fWhC : Addr}
    {odLaI anLaI : Option Addr} {slLaI : Array (Option Value)} {ocLaI kVLaI dcLaI pmLaI cdLaI ctLaI : Value} {fLaI : Addr}
    {odLaS anLaS : Option Addr} {slLaS : Array (Option Value)} {ocLaS kVLaS dcLaS pmLaS cdLaS ctLaS : Value} {fLaS : Addr}
    {odLaU anLaU : Option Addr} {slLaU : Array (Option Value)} {ocLaU kVLaU dcLaU pmLaU cdLaU ctLaU : Value} {fLaU : Addr}
    {odLaC anLaC : Option Addr} {slLaC : Array (Option Value)} {ocLaC kVLaC dcLaC pmLaC cdLaC ctLaC : Value} {fLaC : Addr}
    {odSmI anSmI : Option Addr} {slSmI : Array (Option Value)} {ocSmI kVSmI dcSmI pmSmI cdSmI ctSmI : Value} {fSmI : Addr}
    {odSmS anSmS : Option Addr} {slSmS : Array (Option Value)} {ocSmS kVSmS dcSmS pmSmS cdSmS ctSmS : Value} {fSmS : Addr}
    {odSmU anSmU : Option Addr} {slSmU : Array (Option Value)} {ocSmU kVSmU dcSmU pmSmU cdSmU ctSmU : Value} {fSmU : Addr}
    {odSmC anSmC : Option Addr} {slSmC : Array (Option Value)} {ocSmC kVSmC dcSmC pmSmC cdSmC ctSmC : Value} {fSmC : Addr}
    (aC : PySem.W.nsIn K mainGlobals "Cycle" = some (some (.ref C)))
    (aF0 : PySem.W.nsIn K mainGlobals "is_whole" = some (some (.ref fF0)))
    (lF0 : K.lookup fF0 = some ⟨ocF0, odF0, .func (PySem.W.fnOf "is_whole" "is_whole" (defArgs sWhole) (defBody sWhole) (defScope sWhole) .none kVF0 dcF0 pmF0 anF0 cdF0 ctF0), slF0⟩)
    (cF0 : PySem.W.codeIn K cdF0 "is_whole" = true)
    (kF0 : PySem.W.keepIn K (.ref fF0) = true)
    (aF1 : PySem.W.nsIn K mainGlobals "is_between" = some (some (.ref fF1)))
    (lF1 : K.lookup fF1 = some ⟨ocF1, odF1, .func (PySem.W.fnOf "is_between" "is_between" (defArgs sBetw) (defBody sBetw) (defScope sBetw) .none kVF1 dcF1 pmF1 anF1 cdF1 ctF1), slF1⟩)
    (cF1 : PySem.W.codeIn K cdF1 "is_between" = true)
    (kF1 : PySem.W.keepIn K (.ref fF1) = true)
    (aF2 : PySem.W.nsIn K mainGlobals "is_day" = some (some (.ref fF2)))
    (lF2 : K.lookup fF2 = some ⟨ocF2, odF2, .func (PySem.W.fnOf "is_day" "is_day" (defArgs sDay) (defBody sDay) (defScope sDay) .none kVF2 dcF2 pmF2 anF2 cdF2 ctF2), slF2⟩)
    (cF2 : PySem.W.codeIn K cdF2 "is_day" = true)
    (kF2 : PySem.W.keepIn K (.ref fF2) = true)
    (aF3 : PySem.W.nsIn K mainGlobals "is_name" = some (some (.ref fF3)))
    (lF3 : K.lookup fF3 = some ⟨ocF3, odF3, .func (PySem.W.fnOf "is_name" "is_name" (defArgs sName) (defBody sName) (defScope sName) .none kVF3 dcF3 pmF3 anF3 cdF3 ctF3), slF3⟩)
    (cF3 : PySem.W.codeIn K cdF3 "is_name" = true)
    (kF3 : PySem.W.keepIn K (.ref fF3) = true)
    (aF4 : PySem.W.nsIn K mainGlobals "check_lengths" = some (some (.ref fF4)))
    (lF4 : K.lookup fF4 = some ⟨ocF4, odF4, .func (PySem.W.fnOf "check_lengths" "check_lengths" (defArgs sChk) (defBody sChk) (defScope sChk) .none kVF4 dcF4 pmF4 anF4 cdF4 ctF4), slF4⟩)
    (cF4 : PySem.W.codeIn K cdF4 "check_lengths" = true)
    (kF4 : PySem.W.keepIn K (.ref fF4) = true)
    (aF5 : PySem.W.nsIn K mainGlobals "block_before" = some (some (.ref fF5)))
    (lF5 : K.lookup fF5 = some ⟨ocF5, odF5, .func (PySem.W.fnOf "block_before" "block_before" (defArgs sBB) (defBody sBB) (defScope sBB) .none kVF5 dcF5 pmF5 anF5 cdF5 ctF5), slF5⟩)
    (cF5 : PySem.W.codeIn K cdF5 "block_before" = true)
    (kF5 : PySem.W.keepIn K (.ref fF5) = true)
    (aF6 : PySem.W.nsIn K mainGlobals "block_behind" = some (some (.ref fF6)))
    (lF6 : K.lookup fF6 = some ⟨ocF6, odF6, .func (PySem.W.fnOf "block_behind" "block_behind" (defArgs sBH) (defBody sBH) (defScope sBH) .none kVF6 dcF6 pmF6 anF6 cdF6 ctF6), slF6⟩)
    (cF6 : PySem.W.codeIn K cdF6 "block_behind" = true)
    (kF6 : PySem.W.keepIn K (.ref fF6) = true)
    (aF7 : PySem.W.nsIn K mainGlobals "at_place" = some (some (.ref fF7)))
    (lF7 : K.lookup fF7 = some ⟨ocF7, odF7, .func (PySem.W.fnOf "at_place" "at_place" (defArgs sAP) (defBody sAP) (defScope sAP) .none kVF7 dcF7 pmF7 anF7 cdF7 ctF7), slF7⟩)
    (cF7 : PySem.W.codeIn K cdF7 "at_place" = true)
    (kF7 : PySem.W.keepIn K (.ref fF7) = true)
    (aF8 : PySem.W.nsIn K mainGlobals "_law_pen" = some (some (.ref fF8)))
    (lF8 : K.lookup fF8 = some ⟨ocF8, odF8, .func (PySem.W.fnOf "_law_pen" "_law_pen" (defArgs sPen) (defBody sPen) (defScope sPen) .none kVF8 dcF8 pmF8 anF8 cdF8 ctF8), slF8⟩)
    (cF8 : PySem.W.codeIn K cdF8 "_law_pen" = true)
    (kF8 : PySem.W.keepIn K (.ref fF8) = true)
    (aF9 : PySem.W.nsIn K mainGlobals "_law_draw" = some (some (.ref fF9)))
    (lF9 : K.lookup fF9 = some ⟨ocF9, odF9, .func (PySem.W.fnOf "_law_draw" "_law_draw" (defArgs sDraw) (defBody sDraw) (defScope sDraw) .none kVF9 dcF9 pmF9 anF9 cdF9 ctF9), slF9⟩)
    (cF9 : PySem.W.codeIn K cdF9 "_law_draw" = true)
    (kF9 : PySem.W.keepIn K (.ref fF9) = true)
    (aF10 : PySem.W.nsIn K mainGlobals "_law_pick" = some (some (.ref fF10)))
    (lF10 : K.lookup fF10 = some ⟨ocF10, odF10, .func (PySem.W.fnOf "_law_pick" "_law_pick" (defArgs sPick) (defBody sPick) (defScope sPick) .none kVF10 dcF10 pmF10 anF10 cdF10 ctF10), slF10⟩)
    (cF10 : PySem.W.codeIn K cdF10 "_law_pick" = true)
    (kF10 : PySem.W.keepIn K (.ref fF10) = true)
    (aF11 : PySem.W.nsIn K mainGlobals "_law_lengths" = some (some (.ref fF11)))
    (lF11 : K.lookup fF11 = some ⟨ocF11, odF11, .func (PySem.W.fnOf "_law_lengths" "_law_lengths" (defArgs sLens) (defBody sLens) (defScope sLens) .none kVF11 dcF11 pmF11 anF11 cdF11 ctF11), slF11⟩)
    (cF11 : PySem.W.codeIn K cdF11 "_law_lengths" = true)
    (kF11 : PySem.W.keepIn K (.ref fF11) = true)
    (aF12 : PySem.W.nsIn K mainGlobals "_law_tie" = some (some (.ref fF12)))
    (lF12 : K.lookup fF12 = some ⟨ocF12, odF12, .func (PySem.W.fnOf "_law_tie" "_law_tie" (defArgs sTieOf) (defBody sTieOf) (defScope sTieOf) .none kVF12 dcF12 pmF12 anF12 cdF12 ctF12), slF12⟩)
    (cF12 : PySem.W.codeIn K cdF12 "_law_tie" = true)
    (kF12 : PySem.W.keepIn K (.ref fF12) = true)
    (aF13 : PySem.W.nsIn K mainGlobals "_law_plain" = some (some (.ref fF13)))
    (lF13 : K.lookup fF13 = some ⟨ocF13, odF13, .func (PySem.W.fnOf "_law_plain" "_law_plain" (defArgs sPlain) (defBody sPlain) (defScope sPlain) .none kVF13 dcF13 pmF13 anF13 cdF13 ctF13), slF13⟩)
    (cF13 : PySem.W.codeIn K cdF13 "_law_plain" = true)
    (kF13 : PySem.W.keepIn K (.ref fF13) = true)
    (aF14 : PySem.W.nsIn K mainGlobals "_law_ascends" = some (some (.ref fF14)))
    (lF14 : K.lookup fF14 = some ⟨ocF14, odF14, .func (PySem.W.fnOf "_law_ascends" "_law_ascends" (defArgs sAsc) (defBody sAsc) (defScope sAsc) .none kVF14 dcF14 pmF14 anF14 cdF14 ctF14), slF14⟩)
    (cF14 : PySem.W.codeIn K cdF14 "_law_ascends" = true)
    (kF14 : PySem.W.keepIn K (.ref fF14) = true)
    (aF15 : PySem.W.nsIn K mainGlobals "_law_turned_right" = some (some (.ref fF15)))
    (lF15 : K.lookup fF15 = some ⟨ocF15, odF15, .func (PySem.W.fnOf "_law_turned_right" "_law_turned_right" (defArgs sTurn) (defBody sTurn) (defScope sTurn) .none kVF15 dcF15 pmF15 anF15 cdF15 ctF15), slF15⟩)
    (cF15 : PySem.W.codeIn K cdF15 "_law_turned_right" = true)
    (kF15 : PySem.W.keepIn K (.ref fF15) = true)
    (aF16 : PySem.W.nsIn K mainGlobals "_law_moved_right" = some (some (.ref fF16)))
    (lF16 : K.lookup fF16 = some ⟨ocF16, odF16, .func (PySem.W.fnOf "_law_moved_right" "_law_moved_right" (defArgs sMoved) (defBody sMoved) (defScope sMoved) .none kVF16 dcF16 pmF16 anF16 cdF16 ctF16), slF16⟩)
    (cF16 : PySem.W.codeIn K cdF16 "_law_moved_right" = true)
    (kF16 : PySem.W.keepIn K (.ref fF16) = true)
    (aF17 : PySem.W.nsIn K mainGlobals "_law_kin_right" = some (some (.ref fF17)))
    (lF17 : K.lookup fF17 = some ⟨ocF17, odF17, .func (PySem.W.fnOf "_law_kin_right" "_law_kin_right" (defArgs sKin) (defBody sKin) (defScope sKin) .none kVF17 dcF17 pmF17 anF17 cdF17 ctF17), slF17⟩)
    (cF17 : PySem.W.codeIn K cdF17 "_law_kin_right" = true)
    (kF17 : PySem.W.keepIn K (.ref fF17) = true)
    (aF18 : PySem.W.nsIn K mainGlobals "law" = some (some (.ref fF18)))
    (lF18 : K.lookup fF18 = some ⟨ocF18, odF18, .func (PySem.W.fnOf "law" "law" (defArgs sLaw) (defBody sLaw) (defScope sLaw) .none kVF18 dcF18 pmF18 anF18 cdF18 ctF18), slF18⟩)
    (cF18 : PySem.W.codeIn K cdF18 "law" = true)
    (kF18 : PySem.W.keepIn K (.ref fF18) = true)
    (aM0 : PySem.W.findIn K (.ref C) "__init__" = some (some (.ref fM0)))
    (iM0 : PySem.W.isFn K (.ref fM0) = true)
    (lM0 : K.lookup fM0 = some ⟨ocM0, odM0, .func (PySem.W.fnOf "__init__" "Cycle.__init__" (defArgs sInit) (defBody sInit) (defScope sInit) .none kVM0 dcM0 pmM0 anM0 cdM0 ctM0), slM0⟩)
    (cM0 : PySem.W.codeIn K cdM0 "Cycle.__init__" = true)
    (kM0 : PySem.W.keepIn K (.ref fM0) = true)
    (aM1 : PySem.W.findIn K (.ref C) "first" = some (some (.ref fM1)))
    (iM1 : PySem.W.isFn K (.ref fM1) = true)
    (lM1 : K.lookup fM1 = some ⟨ocM1, odM1, .func (PySem.W.fnOf "first" "Cycle.first" (defArgs sFirst) (defBody sFirst) (defScope sFirst) .none kVM1 dcM1 pmM1 anM1 cdM1 ctM1), slM1⟩)
    (cM1 : PySem.W.codeIn K cdM1 "Cycle.first" = true)
    (kM1 : PySem.W.keepIn K (.ref fM1) = true)
    (aM2 : PySem.W.findIn K (.ref C) "last" = some (some (.ref fM2)))
    (iM2 : PySem.W.isFn K (.ref fM2) = true)
    (lM2 : K.lookup fM2 = some ⟨ocM2, odM2, .func (PySem.W.fnOf "last" "Cycle.last" (defArgs sLast) (defBody sLast) (defScope sLast) .none kVM2 dcM2 pmM2 anM2 cdM2 ctM2), slM2⟩)
    (cM2 : PySem.W.codeIn K cdM2 "Cycle.last" = true)
    (kM2 : PySem.W.keepIn K (.ref fM2) = true)
    (aM3 : PySem.W.findIn K (.ref C) "spot" = some (some (.ref fM3)))
    (iM3 : PySem.W.isFn K (.ref fM3) = true)
    (lM3 : K.lookup fM3 = some ⟨ocM3, odM3, .func (PySem.W.fnOf "spot" "Cycle.spot" (defArgs sSpot) (defBody sSpot) (defScope sSpot) .none kVM3 dcM3 pmM3 anM3 cdM3 ctM3), slM3⟩)
    (cM3 : PySem.W.codeIn K cdM3 "Cycle.spot" = true)
    (kM3 : PySem.W.keepIn K (.ref fM3) = true)
    (aM4 : PySem.W.findIn K (.ref C) "ends" = some (some (.ref fM4)))
    (iM4 : PySem.W.isFn K (.ref fM4) = true)
    (lM4 : K.lookup fM4 = some ⟨ocM4, odM4, .func (PySem.W.fnOf "ends" "Cycle.ends" (defArgs sEnds) (defBody sEnds) (defScope sEnds) .none kVM4 dcM4 pmM4 anM4 cdM4 ctM4), slM4⟩)
    (cM4 : PySem.W.codeIn K cdM4 "Cycle.ends" = true)
    (kM4 : PySem.W.keepIn K (.ref fM4) = true)
    (aP0 : PySem.W.findIn K (.ref C) "total" = some (some (.ref qP0)))
    (gP0 : PySem.W.specialIn K (.ref qP0) "__get__" = some (some (.builtin "property.__get__")))
    (tP0 : PySem.W.takesIn K (.ref qP0) = some true)
    (rP0 : PySem.W.recIn K qP0 "property" = some (.ref fP0 :: rsP0))
    (lP0 : K.lookup fP0 = some ⟨ocP0, odP0, .func (PySem.W.fnOf "total" "Cycle.total" (defArgs sTotal) (defBody sTotal) (defScope sTotal) .none kVP0 dcP0 pmP0 anP0 cdP0 ctP0), slP0⟩)
    (cP0 : PySem.W.codeIn K cdP0 "Cycle.total" = true)
    (kP0 : PySem.W.keepIn K (.ref fP0) = true)
    (rd : PySem.W.readsIn K C (.type "type") = true)
    (ga : PySem.W.specialIn K (.ref C) "__getattribute__" = some (some (.builtin "type.__getattribute__")))
    (aO1 : PySem.W.findCls K (.ref C) (.type "type") "of" = some (.get (.builtin "classmethod.__get__") (.ref qO1) .none (.ref C)))
    (rO1 : PySem.W.recIn K qO1 "classmethod" = some (.ref fO1 :: rsO1))
    (nO1 : PySem.W.fnIn K fO1 = true)
    (lO1 : K.lookup fO1 = some ⟨ocO1, odO1, .func (PySem.W.fnOf "of" "Cycle.of" (defArgs sOf) (defBody sOf) (defScope sOf) .none kVO1 dcO1 pmO1 anO1 cdO1 ctO1), slO1⟩)
    (cO1 : PySem.W.codeIn K cdO1 "Cycle.of" = true)
    (kO1 : PySem.W.keepIn K (.ref fO1) = true)
    (pg : PySem.W.plainGet K C Str.empty = true)
    (hd : PySem.W.hasDictIn K C = true)
    (po : PySem.W.plainOver K C = true)
    (sa : PySem.W.findIn K (.ref C) "__setattr__" = some (some (.builtin "object.__setattr__")))
    (mk : PySem.W.makesIn K C = true)
    (kc : PySem.W.keepIn K (.ref C) = true)
    (nL : PySem.W.findIn K (.ref C) "_lengths" = some none)
    (nT : PySem.W.findIn K (.ref C) "_total" = some none)
    (bey : PySem.W.nsIn K mainGlobals "BEYOND" = some (some (.int (10 ^ 60) tkB)))
    (mb : PySem.W.nsIn K mainGlobals "MOST_BLOCKS" = some (some (.int 12 tkMB)))
    (mt : PySem.W.nsIn K mainGlobals "MOST_TOTAL" = some (some (.int 60 tkMT)))
    (mn : PySem.W.nsIn K mainGlobals "MOST_NUMBER" = some (some (.int 60 tkMN)))
    (z_isinstance : PySem.W.nsIn K mainGlobals "isinstance" = some none)
    (z_int : PySem.W.nsIn K mainGlobals "int" = some none)
    (z_bool : PySem.W.nsIn K mainGlobals "bool" = some none)
    (z_enumerate : PySem.W.nsIn K mainGlobals "enumerate" = some none)
    (z_len : PySem.W.nsIn K mainGlobals "len" = some none)
    (z_sum : PySem.W.nsIn K mainGlobals "sum" = some none)
    (z_list : PySem.W.nsIn K mainGlobals "list" = some none)
    (z_tuple : PySem.W.nsIn K mainGlobals "tuple" = some none)
    (z_range : PySem.W.nsIn K mainGlobals "range" = some none)
    (z_abs : PySem.W.nsIn K mainGlobals "abs" = some none)
    (z_str : PySem.W.nsIn K mainGlobals "str" = some none)
    (z_max : PySem.W.nsIn K mainGlobals "max" = some none)
    (acT : PySem.W.nsIn K mainGlobals "Tie" = some (some (.ref cT)))
    (rdcT : PySem.W.readsIn K cT (.type "type") = true)
    (gacT : PySem.W.specialIn K (.ref cT) "__getattribute__" = some (some (.builtin "type.__getattribute__")))
    (atcT : PySem.W.findCls K (.ref cT) (.type "type") "__init__" = some (.val (.ref fTI)))
    (lTI : K.lookup fTI = some ⟨ocTI, odTI, .func (PySem.W.fnOf "__init__" "Tie.__init__" (defArgs sTieI) (defBody sTieI) (defScope sTieI) .none kVTI dcTI pmTI anTI cdTI ctTI), slTI⟩)
    (cTI : PySem.W.codeIn K cdTI "Tie.__init__" = true)
    (kTI : PySem.W.keepIn K (.ref fTI) = true)
    (acN : PySem.W.nsIn K mainGlobals "Numbered" = some (some (.ref cN)))
    (rdcN : PySem.W.readsIn K cN (.type "type") = true)
    (gacN : PySem.W.specialIn K (.ref cN) "__getattribute__" = some (some (.builtin "type.__getattribute__")))
    (atcN : PySem.W.findCls K (.ref cN) (.type "type") "__init__" = some (.val (.ref fNI)))
    (lNI : K.lookup fNI = some ⟨ocNI, odNI, .func (PySem.W.fnOf "__init__" "Numbered.__init__" (defArgs sNumI) (defBody sNumI) (defScope sNumI) .none kVNI dcNI pmNI anNI cdNI ctNI), slNI⟩)
    (cNI : PySem.W.codeIn K cdNI "Numbered.__init__" = true)
    (kNI : PySem.W.keepIn K (.ref fNI) = true)
    (nBk : PySem.W.nsIn K mainGlobals "Back" = some (some (.ref gBk)))
    (pgBk : PySem.W.plainGet K gBk Str.empty = true)
    (hdBk : PySem.W.hasDictIn K gBk = true)
    (poBk : PySem.W.plainOver K gBk = true)
    (saBk : PySem.W.findIn K (.ref gBk) "__setattr__" = some (some (.builtin "object.__setattr__")))
    (mkBk : PySem.W.makesIn K gBk = true)
    (kcBk : PySem.W.keepIn K (.ref gBk) = true)
    (nSBk : PySem.W.findIn K (.ref gBk) "source" = some none)
    (nNBk : PySem.W.findIn K (.ref gBk) "number" = some none)
    (aBkI : PySem.W.findIn K (.ref gBk) "__init__" = some (some (.ref fBkI)))
    (iBkI : PySem.W.isFn K (.ref fBkI) = true)
    (lBkI : K.lookup fBkI = some ⟨ocBkI, odBkI, .func (PySem.W.fnOf "__init__" "Back.__init__" (defArgs sBkI) (defBody sBkI) (defScope sBkI) .none kVBkI dcBkI pmBkI anBkI cdBkI ctBkI), slBkI⟩)
    (cBkI : PySem.W.codeIn K cdBkI "Back.__init__" = true)
    (kBkI : PySem.W.keepIn K (.ref fBkI) = true)
    (aBkS : PySem.W.findIn K (.ref gBk) "sources" = some (some (.ref fBkS)))
    (iBkS : PySem.W.isFn K (.ref fBkS) = true)
    (lBkS : K.lookup fBkS = some ⟨ocBkS, odBkS, .func (PySem.W.fnOf "sources" "Back.sources" (defArgs sBkS) (defBody sBkS) (defScope sBkS) .none kVBkS dcBkS pmBkS anBkS cdBkS ctBkS), slBkS⟩)
    (cBkS : PySem.W.codeIn K cdBkS "Back.sources" = true)
    (kBkS : PySem.W.keepIn K (.ref fBkS) = true)
    (aBkU : PySem.W.findIn K (.ref gBk) "users" = some (some (.ref fBkU)))
    (iBkU : PySem.W.isFn K (.ref fBkU) = true)
    (lBkU : K.lookup fBkU = some ⟨ocBkU, odBkU, .func (PySem.W.fnOf "users" "Back.users" (defArgs sBkU) (defBody sBkU) (defScope sBkU) .none kVBkU dcBkU pmBkU anBkU cdBkU ctBkU), slBkU⟩)
    (cBkU : PySem.W.codeIn K cdBkU "Back.users" = true)
    (kBkU : PySem.W.keepIn K (.ref fBkU) = true)
    (aBkC : PySem.W.findIn K (.ref gBk) "__call__" = some (some (.ref fBkC)))
    (iBkC : PySem.W.isFn K (.ref fBkC) = true)
    (lBkC : K.lookup fBkC = some ⟨ocBkC, odBkC, .func (PySem.W.fnOf "__call__" "Back.__call__" (defArgs sBkC) (defBody sBkC) (defScope sBkC) .none kVBkC dcBkC pmBkC anBkC cdBkC ctBkC), slBkC⟩)
    (cBkC : PySem.W.codeIn K cdBkC "Back.__call__" = true)
    (kBkC : PySem.W.keepIn K (.ref fBkC) = true)
    (fiBk : PySem.W.fnIn K fBkC = true)
    (nAh : PySem.W.nsIn K mainGlobals "Ahead" = some (some (.ref gAh)))
    (pgAh : PySem.W.plainGet K gAh Str.empty = true)
    (hdAh : PySem.W.hasDictIn K gAh = true)
    (poAh : PySem.W.plainOver K gAh = true)
    (saAh : PySem.W.findIn K (.ref gAh) "__setattr__" = some (some (.builtin "object.__setattr__")))
    (mkAh : PySem.W.makesIn K gAh = true)
    (kcAh : PySem.W.keepIn K (.ref gAh) = true)
    (nSAh : PySem.W.findIn K (.ref gAh) "source" = some none)
    (nNAh : PySem.W.findIn K (.ref gAh) "number" = some none)
    (aAhI : PySem.W.findIn K (.ref gAh) "__init__" = some (some (.ref fAhI)))
    (iAhI : PySem.W.isFn K (.ref fAhI) = true)
    (lAhI : K.lookup fAhI = some ⟨ocAhI, odAhI, .func (PySem.W.fnOf "__init__" "Ahead.__init__" (defArgs sAhI) (defBody sAhI) (defScope sAhI) .none kVAhI dcAhI pmAhI anAhI cdAhI ctAhI), slAhI⟩)
    (cAhI : PySem.W.codeIn K cdAhI "Ahead.__init__" = true)
    (kAhI : PySem.W.keepIn K (.ref fAhI) = true)
    (aAhS : PySem.W.findIn K (.ref gAh) "sources" = some (some (.ref fAhS)))
    (iAhS : PySem.W.isFn K (.ref fAhS) = true)
    (lAhS : K.lookup fAhS = some ⟨ocAhS, odAhS, .func (PySem.W.fnOf "sources" "Ahead.sources" (defArgs sAhS) (defBody sAhS) (defScope sAhS) .none kVAhS dcAhS pmAhS anAhS cdAhS ctAhS), slAhS⟩)
    (cAhS : PySem.W.codeIn K cdAhS "Ahead.sources" = true)
    (kAhS : PySem.W.keepIn K (.ref fAhS) = true)
    (aAhU : PySem.W.findIn K (.ref gAh) "users" = some (some (.ref fAhU)))
    (iAhU : PySem.W.isFn K (.ref fAhU) = true)
    (lAhU : K.lookup fAhU = some ⟨ocAhU, odAhU, .func (PySem.W.fnOf "users" "Ahead.users" (defArgs sAhU) (defBody sAhU) (defScope sAhU) .none kVAhU dcAhU pmAhU anAhU cdAhU ctAhU), slAhU⟩)
    (cAhU : PySem.W.codeIn K cdAhU "Ahead.users" = true)
    (kAhU : PySem.W.keepIn K (.ref fAhU) = true)
    (aAhC : PySem.W.findIn K (.ref gAh) "__call__" = some (some (.ref fAhC)))
    (iAhC : PySem.W.isFn K (.ref fAhC) = true)
    (lAhC : K.lookup fAhC = some ⟨ocAhC, odAhC, .func (PySem.W.fnOf "__call__" "Ahead.__call__" (defArgs sAhC) (defBody sAhC) (defScope sAhC) .none kVAhC dcAhC pmAhC anAhC cdAhC ctAhC), slAhC⟩)
    (cAhC : PySem.W.codeIn K cdAhC "Ahead.__call__" = true)
    (kAhC : PySem.W.keepIn K (.ref fAhC) = true)
    (fiAh : PySem.W.fnIn K fAhC = true)
    (nSo : PySem.W.nsIn K mainGlobals "Sofar" = some (some (.ref gSo)))
    (pgSo : PySem.W.plainGet K gSo Str.empty = true)
    (hdSo : PySem.W.hasDictIn K gSo = true)
    (poSo : PySem.W.plainOver K gSo = true)
    (saSo : PySem.W.findIn K (.ref gSo) "__setattr__" = some (some (.builtin "object.__setattr__")))
    (mkSo : PySem.W.makesIn K gSo = true)
    (kcSo : PySem.W.keepIn K (.ref gSo) = true)
    (nSSo : PySem.W.findIn K (.ref gSo) "source" = some none)
    (nNSo : PySem.W.findIn K (.ref gSo) "number" = some none)
    (aSoI : PySem.W.findIn K (.ref gSo) "__init__" = some (some (.ref fSoI)))
    (iSoI : PySem.W.isFn K (.ref fSoI) = true)
    (lSoI : K.lookup fSoI = some ⟨ocSoI, odSoI, .func (PySem.W.fnOf "__init__" "Sofar.__init__" (defArgs sSoI) (defBody sSoI) (defScope sSoI) .none kVSoI dcSoI pmSoI anSoI cdSoI ctSoI), slSoI⟩)
    (cSoI : PySem.W.codeIn K cdSoI "Sofar.__init__" = true)
    (kSoI : PySem.W.keepIn K (.ref fSoI) = true)
    (aSoS : PySem.W.findIn K (.ref gSo) "sources" = some (some (.ref fSoS)))
    (iSoS : PySem.W.isFn K (.ref fSoS) = true)
    (lSoS : K.lookup fSoS = some ⟨ocSoS, odSoS, .func (PySem.W.fnOf "sources" "Sofar.sources" (defArgs sSoS) (defBody sSoS) (defScope sSoS) .none kVSoS dcSoS pmSoS anSoS cdSoS ctSoS), slSoS⟩)
    (cSoS : PySem.W.codeIn K cdSoS "Sofar.sources" = true)
    (kSoS : PySem.W.keepIn K (.ref fSoS) = true)
    (aSoU : PySem.W.findIn K (.ref gSo) "users" = some (some (.ref fSoU)))
    (iSoU : PySem.W.isFn K (.ref fSoU) = true)
    (lSoU : K.lookup fSoU = some ⟨ocSoU, odSoU, .func (PySem.W.fnOf "users" "Sofar.users" (defArgs sSoU) (defBody sSoU) (defScope sSoU) .none kVSoU dcSoU pmSoU anSoU cdSoU ctSoU), slSoU⟩)
    (cSoU : PySem.W.codeIn K cdSoU "Sofar.users" = true)
    (kSoU : PySem.W.keepIn K (.ref fSoU) = true)
    (aSoC : PySem.W.findIn K (.ref gSo) "__call__" = some (some (.ref fSoC)))
    (iSoC : PySem.W.isFn K (.ref fSoC) = true)
    (lSoC : K.lookup fSoC = some ⟨ocSoC, odSoC, .func (PySem.W.fnOf "__call__" "Sofar.__call__" (defArgs sSoC) (defBody sSoC) (defScope sSoC) .none kVSoC dcSoC pmSoC anSoC cdSoC ctSoC), slSoC⟩)
    (cSoC : PySem.W.codeIn K cdSoC "Sofar.__call__" = true)
    (kSoC : PySem.W.keepIn K (.ref fSoC) = true)
    (fiSo : PySem.W.fnIn K fSoC = true)
    (nWh : PySem.W.nsIn K mainGlobals "Whole" = some (some (.ref gWh)))
    (pgWh : PySem.W.plainGet K gWh Str.empty = true)
    (hdWh : PySem.W.hasDictIn K gWh = true)
    (poWh : PySem.W.plainOver K gWh = true)
    (saWh : PySem.W.findIn K (.ref gWh) "__setattr__" = some (some (.builtin "object.__setattr__")))
    (mkWh : PySem.W.makesIn K gWh = true)
    (kcWh : PySem.W.keepIn K (.ref gWh) = true)
    (nSWh : PySem.W.findIn K (.ref gWh) "source" = some none)
    (nNWh : PySem.W.findIn K (.ref gWh) "number" = some none)
    (aWhI : PySem.W.findIn K (.ref gWh) "__init__" = some (some (.ref fWhI)))
    (iWhI : PySem.W.isFn K (.ref fWhI) = true)
    (lWhI : K.lookup fWhI = some ⟨ocWhI, odWhI, .func (PySem.W.fnOf "__init__" "Whole.__init__" (defArgs sWhI) (defBody sWhI) (defScope sWhI) .none kVWhI dcWhI pmWhI anWhI cdWhI ctWhI), slWhI⟩)
    (cWhI : PySem.W.codeIn K cdWhI "Whole.__init__" = true)
    (kWhI : PySem.W.keepIn K (.ref fWhI) = true)
    (aWhS : PySem.W.findIn K (.ref gWh) "sources" = some (some (.ref fWhS)))
    (iWhS : PySem.W.isFn K (.ref fWhS) = true)
    (lWhS : K.lookup fWhS = some ⟨ocWhS, odWhS, .func (PySem.W.fnOf "sources" "Whole.sources" (defArgs sWhS) (defBody sWhS) (defScope sWhS) .none kVWhS dcWhS pmWhS anWhS cdWhS ctWhS), slWhS⟩)
    (cWhS : PySem.W.codeIn K cdWhS "Whole.sources" = true)
    (kWhS : PySem.W.keepIn K (.ref fWhS) = true)
    (aWhU : PySem.W.findIn K (.ref gWh) "users" = some (some (.ref fWhU)))
    (iWhU : PySem.W.isFn K (.ref fWhU) = true)
    (lWhU : K.lookup fWhU = some ⟨ocWhU, odWhU, .func (PySem.W.fnOf "users" "Whole.users" (defArgs sWhU) (defBody sWhU) (defScope sWhU) .none kVWhU dcWhU pmWhU anWhU cdWhU ctWhU), slWhU⟩)
    (cWhU : PySem.W.codeIn K cdWhU "Whole.users" = true)
    (kWhU : PySem.W.keepIn K (.ref fWhU) = true)
    (aWhC : PySem.W.findIn K (.ref gWh) "__call__" = some (some (.ref fWhC)))
    (iWhC : PySem.W.isFn K (.ref fWhC) = true)
    (lWhC : K.lookup fWhC = some ⟨ocWhC, odWhC, .func (PySem.W.fnOf "__call__" "Whole.__call__" (defArgs sWhC) (defBody sWhC) (defScope sWhC) .none kVWhC dcWhC pmWhC anWhC cdWhC ctWhC), slWhC⟩)
    (cWhC : PySem.W.codeIn K cdWhC "Whole.__call__" = true)
    (kWhC : PySem.W.keepIn K (.ref fWhC) = true)
    (fiWh : PySem.W.fnIn K fWhC = true)
    (nLa : PySem.W.nsIn K mainGlobals "Last" = some (some (.ref gLa)))
    (pgLa : PySem.W.plainGet K gLa Str.empty = true)
    (hdLa : PySem.W.hasDictIn K gLa = true)
    (poLa : PySem.W.plainOver K gLa = true)
    (saLa : PySem.W.findIn K (.ref gLa) "__setattr__" = some (some (.builtin "object.__setattr__")))
    (mkLa : PySem.W.makesIn K gLa = true)
    (kcLa : PySem.W.keepIn K (.ref gLa) = true)
    (nSLa : PySem.W.findIn K (.ref gLa) "source" = some none)
    (nNLa : PySem.W.findIn K (.ref gLa) "number" = some none)
    (aLaI : PySem.W.findIn K (.ref gLa) "__init__" = some (some (.ref fLaI)))
    (iLaI : PySem.W.isFn K (.ref fLaI) = true)
    (lLaI : K.lookup fLaI = some ⟨ocLaI, odLaI, .func (PySem.W.fnOf "__init__" "Last.__init__" (defArgs sLaI) (defBody sLaI) (defScope sLaI) .none kVLaI dcLaI pmLaI anLaI cdLaI ctLaI), slLaI⟩)
    (cLaI : PySem.W.codeIn K cdLaI "Last.__init__" = true)
    (kLaI : PySem.W.keepIn K (.ref fLaI) = true)
    (aLaS : PySem.W.findIn K (.ref gLa) "sources" = some (some (.ref fLaS)))
    (iLaS : PySem.W.isFn K (.ref fLaS) = true)
    (lLaS : K.lookup fLaS = some ⟨ocLaS, odLaS, .func (PySem.W.fnOf "sources" "Last.sources" (defArgs sLaS) (defBody sLaS) (defScope sLaS) .none kVLaS dcLaS pmLaS anLaS cdLaS ctLaS), slLaS⟩)
    (cLaS : PySem.W.codeIn K cdLaS "Last.sources" = true)
    (kLaS : PySem.W.keepIn K (.ref fLaS) = true)
    (aLaU : PySem.W.findIn K (.ref gLa) "users" = some (some (.ref fLaU)))
    (iLaU : PySem.W.isFn K (.ref fLaU) = true)
    (lLaU : K.lookup fLaU = some ⟨ocLaU, odLaU, .func (PySem.W.fnOf "users" "Last.users" (defArgs sLaU) (defBody sLaU) (defScope sLaU) .none kVLaU dcLaU pmLaU anLaU cdLaU ctLaU), slLaU⟩)
    (cLaU : PySem.W.codeIn K cdLaU "Last.users" = true)
    (kLaU : PySem.W.keepIn K (.ref fLaU) = true)
    (aLaC : PySem.W.findIn K (.ref gLa) "__call__" = some (some (.ref fLaC)))
    (iLaC : PySem.W.isFn K (.ref fLaC) = true)
    (lLaC : K.lookup fLaC = some ⟨ocLaC, odLaC, .func (PySem.W.fnOf "__call__" "Last.__call__" (defArgs sLaC) (defBody sLaC) (defScope sLaC) .none kVLaC dcLaC pmLaC anLaC cdLaC ctLaC), slLaC⟩)
    (cLaC : PySem.W.codeIn K cdLaC "Last.__call__" = true)
    (kLaC : PySem.W.keepIn K (.ref fLaC) = true)
    (fiLa : PySem.W.fnIn K fLaC = true)
    (nSm : PySem.W.nsIn K mainGlobals "Same" = some (some (.ref gSm)))
    (pgSm : PySem.W.plainGet K gSm Str.empty = true)
    (hdSm : PySem.W.hasDictIn K gSm = true)
    (poSm : PySem.W.plainOver K gSm = true)
    (saSm : PySem.W.findIn K (.ref gSm) "__setattr__" = some (some (.builtin "object.__setattr__")))
    (mkSm : PySem.W.makesIn K gSm = true)
    (kcSm : PySem.W.keepIn K (.ref gSm) = true)
    (nSSm : PySem.W.findIn K (.ref gSm) "source" = some none)
    (nNSm : PySem.W.findIn K (.ref gSm) "number" = some none)
    (aSmI : PySem.W.findIn K (.ref gSm) "__init__" = some (some (.ref fSmI)))
    (iSmI : PySem.W.isFn K (.ref fSmI) = true)
    (lSmI : K.lookup fSmI = some ⟨ocSmI, odSmI, .func (PySem.W.fnOf "__init__" "Same.__init__" (defArgs sSmI) (defBody sSmI) (defScope sSmI) .none kVSmI dcSmI pmSmI anSmI cdSmI ctSmI), slSmI⟩)
    (cSmI : PySem.W.codeIn K cdSmI "Same.__init__" = true)
    (kSmI : PySem.W.keepIn K (.ref fSmI) = true)
    (aSmS : PySem.W.findIn K (.ref gSm) "sources" = some (some (.ref fSmS)))
    (iSmS : PySem.W.isFn K (.ref fSmS) = true)
    (lSmS : K.lookup fSmS = some ⟨ocSmS, odSmS, .func (PySem.W.fnOf "sources" "Same.sources" (defArgs sSmS) (defBody sSmS) (defScope sSmS) .none kVSmS dcSmS pmSmS anSmS cdSmS ctSmS), slSmS⟩)
    (cSmS : PySem.W.codeIn K cdSmS "Same.sources" = true)
    (kSmS : PySem.W.keepIn K (.ref fSmS) = true)
    (aSmU : PySem.W.findIn K (.ref gSm) "users" = some (some (.ref fSmU)))
    (iSmU : PySem.W.isFn K (.ref fSmU) = true)
    (lSmU : K.lookup fSmU = some ⟨ocSmU, odSmU, .func (PySem.W.fnOf "users" "Same.users" (defArgs sSmU) (defBody sSmU) (defScope sSmU) .none kVSmU dcSmU pmSmU anSmU cdSmU ctSmU), slSmU⟩)
    (cSmU : PySem.W.codeIn K cdSmU "Same.users" = true)
    (kSmU : PySem.W.keepIn K (.ref fSmU) = true)
    (aSmC : PySem.W.findIn K (.ref gSm) "__call__" = some (some (.ref fSmC)))
    (iSmC : PySem.W.isFn K (.ref fSmC) = true)
    (lSmC : K.lookup fSmC = some ⟨ocSmC, odSmC, .func (PySem.W.fnOf "__call__" "Same.__call__" (defArgs sSmC) (defBody sSmC) (defScope sSmC) .none kVSmC dcSmC pmSmC anSmC cdSmC ctSmC), slSmC⟩)
    (cSmC : PySem.W.codeIn K cdSmC "Same.__call__" = true)
    (kSmC : PySem.W.keepIn K (.ref fSmC) = true)
    (fiSm : PySem.W.fnIn K fSmC = true)
    : ∃ fd : FuncData, (∀ (s : Shared) (v : Value), BindsTo s fd ⟨[v], []⟩ [("_law_script", v)]) ∧ ∀ base : Heap, K.In base → base.Ns mainGlobals mg → FnOk l.prog w K mg base CX0 7 fa fd ["_law_script"] (spLaw K) := by
  have e := hfa.symm.trans (PySem.W.mg_of X G aF18)
  cases e
  have GF0 := PySem.W.mg_of X G aF0
  have HF0 := fun_mk (st := sWhole) lF0 cF0 kF0
  have GF1 := PySem.W.mg_of X G aF1
  have HF1 := fun_mk (st := sBetw) lF1 cF1 kF1
  have GF2 := PySem.W.mg_of X G aF2
  have HF2 := fun_mk (st := sDay) lF2 cF2 kF2
  have GF3 := PySem.W.mg_of X G aF3
  have HF3 := fun_mk (st := sName) lF3 cF3 kF3
  have GF4 := PySem.W.mg_of X G aF4
  have HF4 := fun_mk (st := sChk) lF4 cF4 kF4
  have GF5 := PySem.W.mg_of X G aF5
  have HF5 := fun_mk (st := sBB) lF5 cF5 kF5
  have GF6 := PySem.W.mg_of X G aF6
  have HF6 := fun_mk (st := sBH) lF6 cF6 kF6
  have GF7 := PySem.W.mg_of X G aF7
  have HF7 := fun_mk (st := sAP) lF7 cF7 kF7
  have GF8 := PySem.W.mg_of X G aF8
  have HF8 := fun_mk (st := sPen) lF8 cF8 kF8
  have GF9 := PySem.W.mg_of X G aF9
  have HF9 := fun_mk (st := sDraw) lF9 cF9 kF9
  have GF10 := PySem.W.mg_of X G aF10
  have HF10 := fun_mk (st := sPick) lF10 cF10 kF10
  have GF11 := PySem.W.mg_of X G aF11
  have HF11 := fun_mk (st := sLens) lF11 cF11 kF11
  have GF12 := PySem.W.mg_of X G aF12
  have HF12 := fun_mk (st := sTieOf) lF12 cF12 kF12
  have GF13 := PySem.W.mg_of X G aF13
  have HF13 := fun_mk (st := sPlain) lF13 cF13 kF13
  have GF14 := PySem.W.mg_of X G aF14
  have HF14 := fun_mk (st := sAsc) lF14 cF14 kF14
  have GF15 := PySem.W.mg_of X G aF15
  have HF15 := fun_mk (st := sTurn) lF15 cF15 kF15
  have GF16 := PySem.W.mg_of X G aF16
  have HF16 := fun_mk (st := sMoved) lF16 cF16 kF16
  have GF17 := PySem.W.mg_of X G aF17
  have HF17 := fun_mk (st := sKin) lF17 cF17 kF17
  have GF18 := PySem.W.mg_of X G aF18
  have HF18 := fun_mk (st := sLaw) lF18 cF18 kF18
  have HM0 := fun_mk (st := sInit) lM0 cM0 kM0
  have HM1 := fun_mk (st := sFirst) lM1 cM1 kM1
  have HM2 := fun_mk (st := sLast) lM2 cM2 kM2
  have HM3 := fun_mk (st := sSpot) lM3 cM3 kM3
  have HM4 := fun_mk (st := sEnds) lM4 cM4 kM4
  have HP0 := fun_mk (st := sTotal) lP0 cP0 kP0
  have HO1 := fun_mk (st := sOf) lO1 cO1 kO1
  have HTI := fun_mk (st := sTieI) lTI cTI kTI
  have HNI := fun_mk (st := sNumI) lNI cNI kNI
  have HBkI := fun_mk (st := sBkI) lBkI cBkI kBkI
  have HBkS := fun_mk (st := sBkS) lBkS cBkS kBkS
  have HBkU := fun_mk (st := sBkU) lBkU cBkU kBkU
  have HBkC := fun_mk (st := sBkC) lBkC cBkC kBkC
  have HAhI := fun_mk (st := sAhI) lAhI cAhI kAhI
  have HAhS := fun_mk (st := sAhS) lAhS cAhS kAhS
  have HAhU := fun_mk (st := sAhU) lAhU cAhU kAhU
  have HAhC := fun_mk (st := sAhC) lAhC cAhC kAhC
  have HSoI := fun_mk (st := sSoI) lSoI cSoI kSoI
  have HSoS := fun_mk (st := sSoS) lSoS cSoS kSoS
  have HSoU := fun_mk (st := sSoU) lSoU cSoU kSoU
  have HSoC := fun_mk (st := sSoC) lSoC cSoC kSoC
  have HWhI := fun_mk (st := sWhI) lWhI cWhI kWhI
  have HWhS := fun_mk (st := sWhS) lWhS cWhS kWhS
  have HWhU := fun_mk (st := sWhU) lWhU cWhU kWhU
  have HWhC := fun_mk (st := sWhC) lWhC cWhC kWhC
  have HLaI := fun_mk (st := sLaI) lLaI cLaI kLaI
  have HLaS := fun_mk (st := sLaS) lLaS cLaS kLaS
  have HLaU := fun_mk (st := sLaU) lLaU cLaU kLaU
  have HLaC := fun_mk (st := sLaC) lLaC cLaC kLaC
  have HSmI := fun_mk (st := sSmI) lSmI cSmI kSmI
  have HSmS := fun_mk (st := sSmS) lSmS cSmS kSmS
  have HSmU := fun_mk (st := sSmU) lSmU cSmU kSmU
  have HSmC := fun_mk (st := sSmC) lSmC cSmC kSmC
  have bF0 := HF0.binds (ps := ["value"]) fun _ _ _ _ _ _ us hl => match us, hl with | [_], _ => rfl
  have bF1 := HF1.binds (ps := ["value", "low", "high"]) fun _ _ _ _ _ _ us hl => match us, hl with | [_, _, _], _ => rfl
  have bF2 := HF2.binds (ps := ["value"]) fun _ _ _ _ _ _ us hl => match us, hl with | [_], _ => rfl
  have bF3 := HF3.binds (ps := ["value"]) fun _ _ _ _ _ _ us hl => match us, hl with | [_], _ => rfl
  have bF4 := HF4.binds (ps := ["lengths"]) fun _ _ _ _ _ _ us hl => match us, hl with | [_], _ => rfl
  have bF5 := HF5.binds (ps := ["day", "cycle"]) fun _ _ _ _ _ _ us hl => match us, hl with | [_, _], _ => rfl
  have bF6 := HF6.binds (ps := ["day", "cycle"]) fun _ _ _ _ _ _ us hl => match us, hl with | [_, _], _ => rfl
  have bF7 := HF7.binds (ps := ["days", "place"]) fun _ _ _ _ _ _ us hl => match us, hl with | [_, _], _ => rfl
  have bF8 := HF8.binds (ps := ["_law_script"]) fun _ _ _ _ _ _ us hl => match us, hl with | [_], _ => rfl
  have bF9 := HF9.binds (ps := ["_law_pen_here", "_law_many"]) fun _ _ _ _ _ _ us hl => match us, hl with | [_, _], _ => rfl
  have bF10 := HF10.binds (ps := ["_law_pen_here", "_law_some"]) fun _ _ _ _ _ _ us hl => match us, hl with | [_, _], _ => rfl
  have bF11 := HF11.binds (ps := ["_law_pen_here"]) fun _ _ _ _ _ _ us hl => match us, hl with | [_], _ => rfl
  have bF12 := HF12.binds (ps := ["_law_plain_here"]) fun _ _ _ _ _ _ us hl => match us, hl with | [_], _ => rfl
  have bF13 := HF13.binds (ps := ["_law_pen_here", "_law_labels"]) fun _ _ _ _ _ _ us hl => match us, hl with | [_, _], _ => rfl
  have bF14 := HF14.binds (ps := ["_law_days_so"]) fun _ _ _ _ _ _ us hl => match us, hl with | [_], _ => rfl
  have bF15 := HF15.binds (ps := ["_law_made", "_law_weeks", "_law_begin", "_law_many"]) fun _ _ _ _ _ _ us hl => match us, hl with | [_, _, _, _], _ => rfl
  have bF16 := HF16.binds (ps := ["_law_made", "_law_weeks", "_law_spot", "_law_far"]) fun _ _ _ _ _ _ us hl => match us, hl with | [_, _, _, _], _ => rfl
  have bF17 := HF17.binds (ps := ["_law_weeks", "_law_spot"]) fun _ _ _ _ _ _ us hl => match us, hl with | [_, _], _ => rfl
  have bM1 := HM1.binds (ps := ["self", "day"]) fun _ _ _ _ _ _ us hl => match us, hl with | [_, _], _ => rfl
  have bM2 := HM2.binds (ps := ["self", "day"]) fun _ _ _ _ _ _ us hl => match us, hl with | [_, _], _ => rfl
  have bM3 := HM3.binds (ps := ["self", "day"]) fun _ _ _ _ _ _ us hl => match us, hl with | [_, _], _ => rfl
  have bM4 := HM4.binds (ps := ["self", "day"]) fun _ _ _ _ _ _ us hl => match us, hl with | [_, _], _ => rfl
  have bP0 := HP0.binds (ps := ["self"]) fun _ _ _ _ _ _ us hl => match us, hl with | [_], _ => rfl
  have bO1 := HO1.binds (ps := ["cls", "lengths"]) fun _ _ _ _ _ _ us hl => match us, hl with | [_, _], _ => rfl
  have bTI := HTI.binds (ps := ["self", "source"]) fun _ _ _ _ _ _ us hl => match us, hl with | [_, _], _ => rfl
  have bNI := HNI.binds (ps := ["self", "number", "least"]) fun _ _ _ _ _ _ us hl => match us, hl with | [_, _, _], _ => rfl
  have bBkI := HBkI.binds (ps := ["self", "source", "number"]) fun _ _ _ _ _ _ us hl => match us, hl with | [_, _, _], _ => rfl
  have bBkS := HBkS.binds (ps := ["self", "day", "cycle"]) fun _ _ _ _ _ _ us hl => match us, hl with | [_, _, _], _ => rfl
  have bBkU := HBkU.binds (ps := ["self", "day", "cycle"]) fun _ _ _ _ _ _ us hl => match us, hl with | [_, _, _], _ => rfl
  have bBkC := HBkC.binds (ps := ["self", "day", "cycle"]) fun _ _ _ _ _ _ us hl => match us, hl with | [_, _, _], _ => rfl
  have bAhI := HAhI.binds (ps := ["self", "source", "number"]) fun _ _ _ _ _ _ us hl => match us, hl with | [_, _, _], _ => rfl
  have bAhS := HAhS.binds (ps := ["self", "day", "cycle"]) fun _ _ _ _ _ _ us hl => match us, hl with | [_, _, _], _ => rfl
  have bAhU := HAhU.binds (ps := ["self", "day", "cycle"]) fun _ _ _ _ _ _ us hl => match us, hl with | [_, _, _], _ => rfl
  have bAhC := HAhC.binds (ps := ["self", "day", "cycle"]) fun _ _ _ _ _ _ us hl => match us, hl with | [_, _, _], _ => rfl
  have bSoI := HSoI.binds (ps := ["self", "source"]) fun _ _ _ _ _ _ us hl => match us, hl with | [_, _], _ => rfl
  have bSoS := HSoS.binds (ps := ["self", "day", "cycle"]) fun _ _ _ _ _ _ us hl => match us, hl with | [_, _, _], _ => rfl
  have bSoU := HSoU.binds (ps := ["self", "day", "cycle"]) fun _ _ _ _ _ _ us hl => match us, hl with | [_, _, _], _ => rfl
  have bSoC := HSoC.binds (ps := ["self", "day", "cycle"]) fun _ _ _ _ _ _ us hl => match us, hl with | [_, _, _], _ => rfl
  have bWhI := HWhI.binds (ps := ["self", "source"]) fun _ _ _ _ _ _ us hl => match us, hl with | [_, _], _ => rfl
  have bWhS := HWhS.binds (ps := ["self", "day", "cycle"]) fun _ _ _ _ _ _ us hl => match us, hl with | [_, _, _], _ => rfl
  have bWhU := HWhU.binds (ps := ["self", "day", "cycle"]) fun _ _ _ _ _ _ us hl => match us, hl with | [_, _, _], _ => rfl
  have bWhC := HWhC.binds (ps := ["self", "day", "cycle"]) fun _ _ _ _ _ _ us hl => match us, hl with | [_, _, _], _ => rfl
  have bLaI := HLaI.binds (ps := ["self", "source"]) fun _ _ _ _ _ _ us hl => match us, hl with | [_, _], _ => rfl
  have bLaS := HLaS.binds (ps := ["self", "day", "cycle"]) fun _ _ _ _ _ _ us hl => match us, hl with | [_, _, _], _ => rfl
  have bLaU := HLaU.binds (ps := ["self", "day", "cycle"]) fun _ _ _ _ _ _ us hl => match us, hl with | [_, _, _], _ => rfl
  have bLaC := HLaC.binds (ps := ["self", "day", "cycle"]) fun _ _ _ _ _ _ us hl => match us, hl with | [_, _, _], _ => rfl
  have bSmI := HSmI.binds (ps := ["self", "source"]) fun _ _ _ _ _ _ us hl => match us, hl with | [_, _], _ => rfl
  have bSmS := HSmS.binds (ps := ["self", "day", "cycle"]) fun _ _ _ _ _ _ us hl => match us, hl with | [_, _, _], _ => rfl
  have bSmU := HSmU.binds (ps := ["self", "day", "cycle"]) fun _ _ _ _ _ _ us hl => match us, hl with | [_, _, _], _ => rfl
  have bSmC := HSmC.binds (ps := ["self", "day", "cycle"]) fun _ _ _ _ _ _ us hl => match us, hl with | [_, _, _], _ => rfl
  have T : Txt K mg C fF0 fF1 fF2 fF4 := ⟨⟨pg, hd, po, sa⟩, nL, nT, PySem.W.mg_of X G aC, GF0, GF1, GF2, GF4, ⟨_, PySem.W.mg_of X G bey⟩, ⟨_, PySem.W.mg_of X G mb⟩, ⟨_, PySem.W.mg_of X G mt⟩, PySem.W.mg_none_of X G z_isinstance, PySem.W.mg_none_of X G z_int, PySem.W.mg_none_of X G z_bool, PySem.W.mg_none_of X G z_enumerate, PySem.W.mg_none_of X G z_len, PySem.W.mg_none_of X G z_sum, PySem.W.mg_none_of X G z_list, PySem.W.mg_none_of X G z_tuple, PySem.W.mg_none_of X G z_range, PySem.W.mg_none_of X G z_abs⟩
  let GG : Kd → Addr := fun k => match k with
    | .bk => gBk
    | .ah => gAh
    | .so => gSo
    | .wh => gWh
    | .la => gLa
    | .sm => gSm
  let fI : Kd → Addr := fun k => match k with
    | .bk => fBkI
    | .ah => fAhI
    | .so => fSoI
    | .wh => fWhI
    | .la => fLaI
    | .sm => fSmI
  let fS : Kd → Addr := fun k => match k with
    | .bk => fBkS
    | .ah => fAhS
    | .so => fSoS
    | .wh => fWhS
    | .la => fLaS
    | .sm => fSmS
  let fU : Kd → Addr := fun k => match k with
    | .bk => fBkU
    | .ah => fAhU
    | .so => fSoU
    | .wh => fWhU
    | .la => fLaU
    | .sm => fSmU
  let fC : Kd → Addr := fun k => match k with
    | .bk => fBkC
    | .ah => fAhC
    | .so => fSoC
    | .wh => fWhC
    | .la => fLaC
    | .sm => fSmC
  let dI : Kd → FuncData := fun k => match k with
    | .bk => PySem.W.fnOf "__init__" "Back.__init__" (defArgs sBkI) (defBody sBkI) (defScope sBkI) .none kVBkI dcBkI pmBkI anBkI cdBkI ctBkI
    | .ah => PySem.W.fnOf "__init__" "Ahead.__init__" (defArgs sAhI) (defBody sAhI) (defScope sAhI) .none kVAhI dcAhI pmAhI anAhI cdAhI ctAhI
    | .so => PySem.W.fnOf "__init__" "Sofar.__init__" (defArgs sSoI) (defBody sSoI) (defScope sSoI) .none kVSoI dcSoI pmSoI anSoI cdSoI ctSoI
    | .wh => PySem.W.fnOf "__init__" "Whole.__init__" (defArgs sWhI) (defBody sWhI) (defScope sWhI) .none kVWhI dcWhI pmWhI anWhI cdWhI ctWhI
    | .la => PySem.W.fnOf "__init__" "Last.__init__" (defArgs sLaI) (defBody sLaI) (defScope sLaI) .none kVLaI dcLaI pmLaI anLaI cdLaI ctLaI
    | .sm => PySem.W.fnOf "__init__" "Same.__init__" (defArgs sSmI) (defBody sSmI) (defScope sSmI) .none kVSmI dcSmI pmSmI anSmI cdSmI ctSmI
  let dS : Kd → FuncData := fun k => match k with
    | .bk => PySem.W.fnOf "sources" "Back.sources" (defArgs sBkS) (defBody sBkS) (defScope sBkS) .none kVBkS dcBkS pmBkS anBkS cdBkS ctBkS
    | .ah => PySem.W.fnOf "sources" "Ahead.sources" (defArgs sAhS) (defBody sAhS) (defScope sAhS) .none kVAhS dcAhS pmAhS anAhS cdAhS ctAhS
    | .so => PySem.W.fnOf "sources" "Sofar.sources" (defArgs sSoS) (defBody sSoS) (defScope sSoS) .none kVSoS dcSoS pmSoS anSoS cdSoS ctSoS
    | .wh => PySem.W.fnOf "sources" "Whole.sources" (defArgs sWhS) (defBody sWhS) (defScope sWhS) .none kVWhS dcWhS pmWhS anWhS cdWhS ctWhS
    | .la => PySem.W.fnOf "sources" "Last.sources" (defArgs sLaS) (defBody sLaS) (defScope sLaS) .none kVLaS dcLaS pmLaS anLaS cdLaS ctLaS
    | .sm => PySem.W.fnOf "sources" "Same.sources" (defArgs sSmS) (defBody sSmS) (defScope sSmS) .none kVSmS dcSmS pmSmS anSmS cdSmS ctSmS
  let dU : Kd → FuncData := fun k => match k with
    | .bk => PySem.W.fnOf "users" "Back.users" (defArgs sBkU) (defBody sBkU) (defScope sBkU) .none kVBkU dcBkU pmBkU anBkU cdBkU ctBkU
    | .ah => PySem.W.fnOf "users" "Ahead.users" (defArgs sAhU) (defBody sAhU) (defScope sAhU) .none kVAhU dcAhU pmAhU anAhU cdAhU ctAhU
    | .so => PySem.W.fnOf "users" "Sofar.users" (defArgs sSoU) (defBody sSoU) (defScope sSoU) .none kVSoU dcSoU pmSoU anSoU cdSoU ctSoU
    | .wh => PySem.W.fnOf "users" "Whole.users" (defArgs sWhU) (defBody sWhU) (defScope sWhU) .none kVWhU dcWhU pmWhU anWhU cdWhU ctWhU
    | .la => PySem.W.fnOf "users" "Last.users" (defArgs sLaU) (defBody sLaU) (defScope sLaU) .none kVLaU dcLaU pmLaU anLaU cdLaU ctLaU
    | .sm => PySem.W.fnOf "users" "Same.users" (defArgs sSmU) (defBody sSmU) (defScope sSmU) .none kVSmU dcSmU pmSmU anSmU cdSmU ctSmU
  let dC : Kd → FuncData := fun k => match k with
    | .bk => PySem.W.fnOf "__call__" "Back.__call__" (defArgs sBkC) (defBody sBkC) (defScope sBkC) .none kVBkC dcBkC pmBkC anBkC cdBkC ctBkC
    | .ah => PySem.W.fnOf "__call__" "Ahead.__call__" (defArgs sAhC) (defBody sAhC) (defScope sAhC) .none kVAhC dcAhC pmAhC anAhC cdAhC ctAhC
    | .so => PySem.W.fnOf "__call__" "Sofar.__call__" (defArgs sSoC) (defBody sSoC) (defScope sSoC) .none kVSoC dcSoC pmSoC anSoC cdSoC ctSoC
    | .wh => PySem.W.fnOf "__call__" "Whole.__call__" (defArgs sWhC) (defBody sWhC) (defScope sWhC) .none kVWhC dcWhC pmWhC anWhC cdWhC ctWhC
    | .la => PySem.W.fnOf "__call__" "Last.__call__" (defArgs sLaC) (defBody sLaC) (defScope sLaC) .none kVLaC dcLaC pmLaC anLaC cdLaC ctLaC
    | .sm => PySem.W.fnOf "__call__" "Same.__call__" (defArgs sSmC) (defBody sSmC) (defScope sSmC) .none kVSmC dcSmC pmSmC anSmC cdSmC ctSmC
  have yc : ∀ k, Cls K (GG k) := fun k => match k with
    | .bk => ⟨pgBk, hdBk, poBk, saBk⟩
    | .ah => ⟨pgAh, hdAh, poAh, saAh⟩
    | .so => ⟨pgSo, hdSo, poSo, saSo⟩
    | .wh => ⟨pgWh, hdWh, poWh, saWh⟩
    | .la => ⟨pgLa, hdLa, poLa, saLa⟩
    | .sm => ⟨pgSm, hdSm, poSm, saSm⟩
  have yS : ∀ k, NoAttr K (GG k) "source" := fun k => match k with
    | .bk => nSBk
    | .ah => nSAh
    | .so => nSSo
    | .wh => nSWh
    | .la => nSLa
    | .sm => nSSm
  have yN : ∀ k, NoAttr K (GG k) "number" := fun k => match k with
    | .bk => nNBk
    | .ah => nNAh
    | .so => nNSo
    | .wh => nNWh
    | .la => nNLa
    | .sm => nNSm
  have Y : Ty K mg GG cT cN fTI fNI fF3 fF5 fF6 fF7 := ⟨yc, yS, yN, PySem.W.mg_of X G acT, PySem.W.mg_of X G acN, PySem.W.mg_of X G nBk, PySem.W.mg_of X G nAh, PySem.W.mg_of X G nSo, PySem.W.mg_of X G nWh, PySem.W.mg_of X G nLa, PySem.W.mg_of X G nSm, GF3, GF5, GF6, GF7, ⟨_, PySem.W.mg_of X G mn⟩, ⟨rdcT, gacT⟩, ⟨rdcN, gacN⟩, ⟨atcT, kTI⟩, ⟨atcN, kNI⟩, PySem.W.mg_none_of X G z_str, PySem.W.mg_none_of X G z_max⟩
  refine ⟨PySem.W.fnOf "law" "law" (defArgs sLaw) (defBody sLaw) (defScope sLaw) .none kVF18 dcF18 pmF18 anF18 cdF18 ctF18, fun s v => .of_eq rfl, fun base _ _ => ?_⟩
  have DD : DayM l.prog w K mg base fF2 _ := ⟨ok_day HF2 T HF0 bF0 HF1 bF1, bF2, HF2.kp⟩
  have SS : SpotM l.prog w K mg base C fM3 _ := ⟨ok_spot HM3 T, bM3, ⟨aM3, iM3, kM3⟩⟩
  have EE : EndsM l.prog w K mg base C fM4 _ := ⟨ok_ends HM4 T SS, bM4, ⟨aM4, iM4, kM4⟩⟩
  have MF : CM l.prog w K mg base C "first" fstD fM1 _ := ⟨ok_first HM1 T EE DD, bM1, ⟨aM1, iM1, kM1⟩⟩
  have ML : CM l.prog w K mg base C "last" lastD fM2 _ := ⟨ok_last HM2 T EE DD, bM2, ⟨aM2, iM2, kM2⟩⟩
  have GT : CP l.prog w K mg base C "total" (spGetT C) qP0 fP0 _ := ⟨ok_total HP0 T, bP0, ⟨aP0, gP0, tP0, ⟨_, rP0⟩⟩⟩
  have BB : Df l.prog w K mg base "block_before" 3 fF5 _ ["day", "cycle"] _ := ⟨ok_BB HF5 T EE, bF5, HF5.kp, GF5⟩
  have BH : Df l.prog w K mg base "block_behind" 3 fF6 _ ["day", "cycle"] _ := ⟨ok_BH HF6 T EE, bF6, HF6.kp, GF6⟩
  have AP : Df l.prog w K mg base "at_place" 1 fF7 _ ["days", "place"] _ := ⟨ok_AP HF7, bF7, HF7.kp, GF7⟩
  have HL : Hlp l.prog w K mg base C fF5 fF6 fF7 _ _ _ := ⟨BB, BH, AP⟩
  have J : Inits l.prog w K mg base fTI fNI _ _ := ⟨ok_tieI HTI T Y HF3 bF3, bTI, ok_numI HNI T Y HF0 bF0 HF1 bF1, bNI⟩
  have sF : ∀ k, FnOk l.prog w K mg base CX0 4 (fS k) (dS k) ["self", "day", "cycle"] (spTie GG C k srcL) := fun k => match k with
    | .bk => ok_BkS HBkS T Y EE HL
    | .ah => ok_AhS HAhS T Y EE HL
    | .so => ok_SoS HSoS T Y EE HL
    | .wh => ok_WhS HWhS T Y EE HL
    | .la => ok_LaS HLaS T Y EE HL
    | .sm => ok_SmS HSmS T Y EE HL
  have sB : ∀ k, Binds K (dS k) ["self", "day", "cycle"] [] := fun k => match k with
    | .bk => bBkS
    | .ah => bAhS
    | .so => bSoS
    | .wh => bWhS
    | .la => bLaS
    | .sm => bSmS
  have sM : ∀ k, Meth K (GG k) "sources" (fS k) := fun k => match k with
    | .bk => ⟨aBkS, iBkS, kBkS⟩
    | .ah => ⟨aAhS, iAhS, kAhS⟩
    | .so => ⟨aSoS, iSoS, kSoS⟩
    | .wh => ⟨aWhS, iWhS, kWhS⟩
    | .la => ⟨aLaS, iLaS, kLaS⟩
    | .sm => ⟨aSmS, iSmS, kSmS⟩
  have MS : TieM l.prog w K mg base GG C "sources" 4 srcL fS dS := ⟨sF, sB, sM⟩
  have uF : ∀ k, FnOk l.prog w K mg base CX0 4 (fU k) (dU k) ["self", "day", "cycle"] (spTie GG C k usrL) := fun k => match k with
    | .bk => ok_BkU HBkU T Y EE HL
    | .ah => ok_AhU HAhU T Y EE HL
    | .so => ok_SoU HSoU T Y EE HL
    | .wh => ok_WhU HWhU T Y EE HL
    | .la => ok_LaU HLaU T Y EE HL
    | .sm => ok_SmU HSmU T Y EE HL
  have uB : ∀ k, Binds K (dU k) ["self", "day", "cycle"] [] := fun k => match k with
    | .bk => bBkU
    | .ah => bAhU
    | .so => bSoU
    | .wh => bWhU
    | .la => bLaU
    | .sm => bSmU
  have uM : ∀ k, Meth K (GG k) "users" (fU k) := fun k => match k with
    | .bk => ⟨aBkU, iBkU, kBkU⟩
    | .ah => ⟨aAhU, iAhU, kAhU⟩
    | .so => ⟨aSoU, iSoU, kSoU⟩
    | .wh => ⟨aWhU, iWhU, kWhU⟩
    | .la => ⟨aLaU, iLaU, kLaU⟩
    | .sm => ⟨aSmU, iSmU, kSmU⟩
  have MU : TieM l.prog w K mg base GG C "users" 4 usrL fU dU := ⟨uF, uB, uM⟩
  have cF : ∀ k, FnOk l.prog w K mg base CX0 5 (fC k) (dC k) ["self", "day", "cycle"] (spTie GG C k srcL) := fun k => match k with
    | .bk => ok_BkC HBkC Y MS
    | .ah => ok_AhC HAhC Y MS
    | .so => ok_SoC HSoC Y MS
    | .wh => ok_WhC HWhC Y MS
    | .la => ok_LaC HLaC Y MS
    | .sm => ok_SmC HSmC Y MS
  have cB : ∀ k, Binds K (dC k) ["self", "day", "cycle"] [] := fun k => match k with
    | .bk => bBkC
    | .ah => bAhC
    | .so => bSoC
    | .wh => bWhC
    | .la => bLaC
    | .sm => bSmC
  have cM : ∀ k, Meth K (GG k) "__call__" (fC k) := fun k => match k with
    | .bk => ⟨aBkC, iBkC, kBkC⟩
    | .ah => ⟨aAhC, iAhC, kAhC⟩
    | .so => ⟨aSoC, iSoC, kSoC⟩
    | .wh => ⟨aWhC, iWhC, kWhC⟩
    | .la => ⟨aLaC, iLaC, kLaC⟩
    | .sm => ⟨aSmC, iSmC, kSmC⟩
  have MC : TieM l.prog w K mg base GG C "__call__" 5 srcL fC dC := ⟨cF, cB, cM⟩
  have cO : ∀ k, StX.CallO K (GG k) (fC k) := fun k => match k with
    | .bk => ⟨aBkC, iBkC, fiBk⟩
    | .ah => ⟨aAhC, iAhC, fiAh⟩
    | .so => ⟨aSoC, iSoC, fiSo⟩
    | .wh => ⟨aWhC, iWhC, fiWh⟩
    | .la => ⟨aLaC, iLaC, fiLa⟩
    | .sm => ⟨aSmC, iSmC, fiSm⟩
  have kS : ∀ k, KBinds K (dS k) ["self", "day", "cycle"] ["cycle", "day"] gCD gCD := fun k => match k with
    | .bk => kb_CD HBkS fun _ _ _ _ _ _ _ _ _ => rfl
    | .ah => kb_CD HAhS fun _ _ _ _ _ _ _ _ _ => rfl
    | .so => kb_CD HSoS fun _ _ _ _ _ _ _ _ _ => rfl
    | .wh => kb_CD HWhS fun _ _ _ _ _ _ _ _ _ => rfl
    | .la => kb_CD HLaS fun _ _ _ _ _ _ _ _ _ => rfl
    | .sm => kb_CD HSmS fun _ _ _ _ _ _ _ _ _ => rfl
  have kU : ∀ k, KBinds K (dU k) ["self", "day", "cycle"] ["day", "cycle"] gDC gDC := fun k => match k with
    | .bk => kb_DC HBkU fun _ _ _ _ _ _ _ _ _ => rfl
    | .ah => kb_DC HAhU fun _ _ _ _ _ _ _ _ _ => rfl
    | .so => kb_DC HSoU fun _ _ _ _ _ _ _ _ _ => rfl
    | .wh => kb_DC HWhU fun _ _ _ _ _ _ _ _ _ => rfl
    | .la => kb_DC HLaU fun _ _ _ _ _ _ _ _ _ => rfl
    | .sm => kb_DC HSmU fun _ _ _ _ _ _ _ _ _ => rfl
  have kC : ∀ k, KBinds K (dC k) ["self", "day", "cycle"] ["cycle", "day"] gCD gCD := fun k => match k with
    | .bk => kb_CD HBkC fun _ _ _ _ _ _ _ _ _ => rfl
    | .ah => kb_CD HAhC fun _ _ _ _ _ _ _ _ _ => rfl
    | .so => kb_CD HSoC fun _ _ _ _ _ _ _ _ _ => rfl
    | .wh => kb_CD HWhC fun _ _ _ _ _ _ _ _ _ => rfl
    | .la => kb_CD HLaC fun _ _ _ _ _ _ _ _ _ => rfl
    | .sm => kb_CD HSmC fun _ _ _ _ _ _ _ _ _ => rfl
  have iF : ∀ k, isNum k = true → FnOk l.prog w K mg base CX0 4 (fI k) (dI k) ["self", "source", "number"] (spInitN GG k) := fun k => match k with
    | .bk => fun q => ok_bkI HBkI Y J
    | .ah => fun q => ok_ahI HAhI Y J
    | .so => fun q => nomatch q
    | .wh => fun q => nomatch q
    | .la => fun q => nomatch q
    | .sm => fun q => nomatch q
  have iB : ∀ k, isNum k = true → Binds K (dI k) ["self", "source", "number"] [] := fun k => match k with
    | .bk => fun q => bBkI
    | .ah => fun q => bAhI
    | .so => fun q => nomatch q
    | .wh => fun q => nomatch q
    | .la => fun q => nomatch q
    | .sm => fun q => nomatch q
  have pF : ∀ k, isNum k = false → FnOk l.prog w K mg base CX0 4 (fI k) (dI k) ["self", "source"] (spInitP GG k) := fun k => match k with
    | .bk => fun q => nomatch q
    | .ah => fun q => nomatch q
    | .so => fun q => ok_soI HSoI Y J
    | .wh => fun q => ok_whI HWhI Y J
    | .la => fun q => ok_laI HLaI Y J
    | .sm => fun q => ok_smI HSmI Y J
  have pB : ∀ k, isNum k = false → Binds K (dI k) ["self", "source"] [] := fun k => match k with
    | .bk => fun q => nomatch q
    | .ah => fun q => nomatch q
    | .so => fun q => bSoI
    | .wh => fun q => bWhI
    | .la => fun q => bLaI
    | .sm => fun q => bSmI
  have mM : ∀ k, Mk K (GG k) (fI k) := fun k => match k with
    | .bk => ⟨mkBk, aBkI, iBkI, kcBk⟩
    | .ah => ⟨mkAh, aAhI, iAhI, kcAh⟩
    | .so => ⟨mkSo, aSoI, iSoI, kcSo⟩
    | .wh => ⟨mkWh, aWhI, iWhI, kcWh⟩
    | .la => ⟨mkLa, aLaI, iLaI, kcLa⟩
    | .sm => ⟨mkSm, aSmI, iSmI, kcSm⟩
  have MK : MkT l.prog w K mg base GG fI dI := ⟨iF, iB, pF, pB, mM⟩
  have DP : Df l.prog w K mg base "_law_pen" 1 fF8 _ ["_law_script"] _ := ⟨ok_pen HF8 T, bF8, HF8.kp, GF8⟩
  have DW : Df l.prog w K mg base "_law_draw" 1 fF9 _ ["_law_pen_here", "_law_many"] _ := ⟨ok_draw HF9 T, bF9, HF9.kp, GF9⟩
  have DI : Df l.prog w K mg base "_law_pick" 2 fF10 _ ["_law_pen_here", "_law_some"] _ := ⟨ok_pick HF10 T DW, bF10, HF10.kp, GF10⟩
  have DL : Df l.prog w K mg base "_law_lengths" 3 fF11 _ ["_law_pen_here"] _ := ⟨ok_lens HF11 T DW DI, bF11, HF11.kp, GF11⟩
  have DT : Df l.prog w K mg base "_law_tie" 6 fF12 _ ["_law_plain_here"] _ := ⟨ok_tieOf HF12 Y MK, bF12, HF12.kp, GF12⟩
  have DN : Df l.prog w K mg base "_law_plain" 3 fF13 _ ["_law_pen_here", "_law_labels"] _ := ⟨ok_plain HF13 T Y DW DI, bF13, HF13.kp, GF13⟩
  have DA : Df l.prog w K mg base "_law_ascends" 1 fF14 _ ["_law_days_so"] _ := ⟨ok_asc HF14 T, bF14, HF14.kp, GF14⟩
  have DR : Df l.prog w K mg base "_law_turned_right" 5 fF15 _ ["_law_made", "_law_weeks", "_law_begin", "_law_many"] _ := ⟨ok_turn HF15 T Y MS MU DA, bF15, HF15.kp, GF15⟩
  have DM : Df l.prog w K mg base "_law_moved_right" 6 fF16 _ ["_law_made", "_law_weeks", "_law_spot", "_law_far"] _ := ⟨ok_moved HF16 T Y MS MU MC kS kU kC cO, bF16, HF16.kp, GF16⟩
  have DK : Df l.prog w K mg base "_law_kin_right" 6 fF17 _ ["_law_weeks", "_law_spot"] _ := ⟨ok_kin HF17 T Y MK MU MC cO MF ML, bF17, HF17.kp, GF17⟩
  exact ok_law HF18 T GT DP DW DI DL DT DN DR DM DK (ok_of HO1 T ⟨mk, aM0, iM0, kc⟩ HM0 HF0 bF0 HF1 bF1 HF4 bF4) bO1 ⟨rd, ga⟩ ⟨aO1, ⟨_, rO1⟩, nO1⟩
theorem walk {l : PySem.W.OpenLaw} {q : Program} {loose : List Str} {XP : (Str → Option Value) → Heap → Prop} {YP : World → Heap → Prop} {d : DefRec} {K : Params → PySem.W.Frag} (hn : l.most = some 63) (hdf : d.params.defaults = [])
    (hY : ∀ (w : World) (h : Heap), YP w h → (K w.params).In h)
    (F : ∀ (w : World) (mg : Str → Option Value) (fa : Addr) (h : Heap), (K w.params).In h → h.Ns mainGlobals mg → mg d.name = some (.ref fa) →
      ∃ fd : FuncData, (∀ (s : Shared) (u : Value), BindsTo s fd ⟨[u], []⟩ [("_law_script", u)]) ∧ ∀ base : Heap, (K w.params).In base → base.Ns mainGlobals mg → FnOk l.prog w (K w.params) mg base CX0 7 fa fd ["_law_script"] (spLaw (K w.params))) :
    PySem.W.WalkO q loose XP YP l.row.toRowW d [] (fun f vs => PySem.call f vs) :=
  L2.walk_of (n := 63) (k := 7) (x := "_law_script") (CX := fun _ => CX0) (sp := fun w => spLaw (K w.params)) hn (by decide) hdf ⟨rfl, by decide, by decide⟩ hY F (fun _ _ a ns hl _ hS => ⟨a, ns, rfl, hS, hl, fun _ => rfl⟩) fun _ _ _ _ _ z => z
end My
open PySem PySem.W PyProof.Rows
set_option maxRecDepth 100000 in
set_option maxHeartbeats 0 in
theorem PySem.Challenge.cw_remadedays_k19_whole_users_of_ties_holds : PySem.Challenge.rw_remadedays_k19_whole_users_of_ties.Holds := by
  w_on; o_law; k_headL; (case hw => w_witness2)
  k_fill
  refine My.walk (l := PySem.Challenge.rw_remadedays_k19_whole_users_of_ties) rfl rfl (fun w h Y => PySem.W.kIn_of Y) ?F
  case F =>
    intro w mg fa h KX G hmg
    refine' My.all_mk KX G hmg ?aC ?aF0 ?lF0 ?cF0 ?kF0 ?aF1 ?lF1 ?cF1 ?kF1 ?aF2 ?lF2 ?cF2 ?kF2 ?aF3 ?lF3 ?cF3 ?kF3 ?aF4 ?lF4 ?cF4 ?kF4 ?aF5 ?lF5 ?cF5 ?kF5 ?aF6 ?lF6 ?cF6 ?kF6 ?aF7 ?lF7 ?cF7 ?kF7 ?aF8 ?lF8 ?cF8 ?kF8 ?aF9 ?lF9 ?cF9 ?kF9 ?aF10 ?lF10 ?cF10 ?kF10 ?aF11 ?lF11 ?cF11 ?kF11 ?aF12 ?lF12 ?cF12 ?kF12 ?aF13 ?lF13 ?cF13 ?kF13 ?aF14 ?lF14 ?cF14 ?kF14 ?aF15 ?lF15 ?cF15 ?kF15 ?aF16 ?lF16 ?cF16 ?kF16 ?aF17 ?lF17 ?cF17 ?kF17 ?aF18 ?lF18 ?cF18 ?kF18 ?aM0 ?iM0 ?lM0 ?cM0 ?kM0 ?aM1 ?iM1 ?lM1 ?cM1 ?kM1 ?aM2 ?iM2 ?lM2 ?cM2 ?kM2 ?aM3 ?iM3 ?lM3 ?cM3 ?kM3 ?aM4 ?iM4 ?lM4 ?cM4 ?kM4 ?aP0 ?gP0 ?tP0 ?rP0 ?lP0 ?cP0 ?kP0 ?rd ?ga ?aO1 ?rO1 ?nO1 ?lO1 ?cO1 ?kO1 ?pg ?hd ?po ?sa ?mk ?kc ?nL ?nT ?bey ?mb ?mt ?mn ?z_isinstance ?z_int ?z_bool ?z_enumerate ?z_len ?z_sum ?z_list ?z_tuple ?z_range ?z_abs ?z_str ?z_max ?acT ?rdcT ?gacT ?atcT ?lTI ?cTI ?kTI ?acN ?rdcN ?gacN ?atcN ?lNI ?cNI ?kNI ?nBk ?pgBk ?hdBk ?poBk ?saBk ?mkBk ?kcBk ?nSBk ?nNBk ?aBkI ?iBkI ?lBkI ?cBkI ?kBkI ?aBkS ?iBkS ?lBkS ?cBkS ?kBkS ?aBkU ?iBkU ?lBkU ?cBkU ?kBkU ?aBkC ?iBkC ?lBkC ?cBkC ?kBkC ?fiBk ?nAh ?pgAh ?hdAh ?poAh ?saAh ?mkAh ?kcAh ?nSAh ?nNAh ?aAhI ?iAhI ?lAhI ?cAhI ?kAhI ?aAhS ?iAhS ?lAhS ?cAhS ?kAhS ?aAhU ?iAhU ?lAhU ?cAhU ?kAhU ?aAhC ?iAhC ?lAhC ?cAhC ?kAhC ?fiAh ?nSo ?pgSo ?hdSo ?poSo ?saSo ?mkSo ?kcSo ?nSSo ?nNSo ?aSoI ?iSoI ?lSoI ?cSoI ?kSoI ?aSoS ?iSoS ?lSoS ?cSoS ?kSoS ?aSoU ?iSoU ?lSoU ?cSoU ?kSoU ?aSoC ?iSoC ?lSoC ?cSoC ?kSoC ?fiSo ?nWh ?pgWh ?hdWh ?poWh ?saWh ?mkWh ?kcWh ?nSWh ?nNWh ?aWhI ?iWhI ?lWhI ?cWhI ?kWhI ?aWhS ?iWhS ?lWhS ?cWhS ?kWhS ?aWhU ?iWhU ?lWhU ?cWhU ?kWhU ?aWhC ?iWhC ?lWhC ?cWhC ?kWhC ?fiWh ?nLa ?pgLa ?hdLa ?poLa ?saLa ?mkLa ?kcLa ?nSLa ?nNLa ?aLaI ?iLaI ?lLaI ?cLaI ?kLaI ?aLaS ?iLaS ?lLaS ?cLaS ?kLaS ?aLaU ?iLaU ?lLaU ?cLaU ?kLaU ?aLaC ?iLaC ?lLaC ?cLaC ?kLaC ?fiLa ?nSm ?pgSm ?hdSm ?poSm ?saSm ?mkSm ?kcSm ?nSSm ?nNSm ?aSmI ?iSmI ?lSmI ?cSmI ?kSmI ?aSmS ?iSmS ?lSmS ?cSmS ?kSmS ?aSmU ?iSmU ?lSmU ?cSmU ?kSmU ?aSmC ?iSmC ?lSmC ?cSmC ?kSmC ?fiSm
    (case aC => as_aux_lemma => k_is)
    (case aF0 => as_aux_lemma => k_is)
    (case lF0 => as_aux_lemma => k_is)
    (case cF0 => as_aux_lemma => k_is)
    (case kF0 => as_aux_lemma => k_is)
    (case aF1 => as_aux_lemma => k_is)
    (case lF1 => as_aux_lemma => k_is)
    (case cF1 => as_aux_lemma => k_is)
    (case kF1 => as_aux_lemma => k_is)
    (case aF2 => as_aux_lemma => k_is)
    (case lF2 => as_aux_lemma => k_is)
    (case cF2 => as_aux_lemma => k_is)
    (case kF2 => as_aux_lemma => k_is)
    (case aF3 => as_aux_lemma => k_is)
    (case lF3 => as_aux_lemma => k_is)
    (case cF3 => as_aux_lemma => k_is)
    (case kF3 => as_aux_lemma => k_is)
    (case aF4 => as_aux_lemma => k_is)
    (case lF4 => as_aux_lemma => k_is)
    (case cF4 => as_aux_lemma => k_is)
    (case kF4 => as_aux_lemma => k_is)
    (case aF5 => as_aux_lemma => k_is)
    (case lF5 => as_aux_lemma => k_is)
    (case cF5 => as_aux_lemma => k_is)
    (case kF5 => as_aux_lemma => k_is)
    (case aF6 => as_aux_lemma => k_is)
    (case lF6 => as_aux_lemma => k_is)
    (case cF6 => as_aux_lemma => k_is)
    (case kF6 => as_aux_lemma => k_is)
    (case aF7 => as_aux_lemma => k_is)
    (case lF7 => as_aux_lemma => k_is)
    (case cF7 => as_aux_lemma => k_is)
    (case kF7 => as_aux_lemma => k_is)
    (case aF8 => as_aux_lemma => k_is)
    (case lF8 => as_aux_lemma => k_is)
    (case cF8 => as_aux_lemma => k_is)
    (case kF8 => as_aux_lemma => k_is)
    (case aF9 => as_aux_lemma => k_is)
    (case lF9 => as_aux_lemma => k_is)
    (case cF9 => as_aux_lemma => k_is)
    (case kF9 => as_aux_lemma => k_is)
    (case aF10 => as_aux_lemma => k_is)
    (case lF10 => as_aux_lemma => k_is)
    (case cF10 => as_aux_lemma => k_is)
    (case kF10 => as_aux_lemma => k_is)
    (case aF11 => as_aux_lemma => k_is)
    (case lF11 => as_aux_lemma => k_is)
    (case cF11 => as_aux_lemma => k_is)
    (case kF11 => as_aux_lemma => k_is)
    (case aF12 => as_aux_lemma => k_is)
    (case lF12 => as_aux_lemma => k_is)
    (case cF12 => as_aux_lemma => k_is)
    (case kF12 => as_aux_lemma => k_is)
    (case aF13 => as_aux_lemma => k_is)
    (case lF13 => as_aux_lemma => k_is)
    (case cF13 => as_aux_lemma => k_is)
    (case kF13 => as_aux_lemma => k_is)
    (case aF14 => as_aux_lemma => k_is)
    (case lF14 => as_aux_lemma => k_is)
    (case cF14 => as_aux_lemma => k_is)
    (case kF14 => as_aux_lemma => k_is)
    (case aF15 => as_aux_lemma => k_is)
    (case lF15 => as_aux_lemma => k_is)
    (case cF15 => as_aux_lemma => k_is)
    (case kF15 => as_aux_lemma => k_is)
    (case aF16 => as_aux_lemma => k_is)
    (case lF16 => as_aux_lemma => k_is)
    (case cF16 => as_aux_lemma => k_is)
    (case kF16 => as_aux_lemma => k_is)
    (case aF17 => as_aux_lemma => k_is)
    (case lF17 => as_aux_lemma => k_is)
    (case cF17 => as_aux_lemma => k_is)
    (case kF17 => as_aux_lemma => k_is)
    (case aF18 => as_aux_lemma => k_is)
    (case lF18 => as_aux_lemma => k_is)
    (case cF18 => as_aux_lemma => k_is)
    (case kF18 => as_aux_lemma => k_is)
    (case aM0 => as_aux_lemma => k_is)
    (case iM0 => as_aux_lemma => k_is)
    (case lM0 => as_aux_lemma => k_is)
    (case cM0 => as_aux_lemma => k_is)
    (case kM0 => as_aux_lemma => k_is)
    (case aM1 => as_aux_lemma => k_is)
    (case iM1 => as_aux_lemma => k_is)
    (case lM1 => as_aux_lemma => k_is)
    (case cM1 => as_aux_lemma => k_is)
    (case kM1 => as_aux_lemma => k_is)
    (case aM2 => as_aux_lemma => k_is)
    (case iM2 => as_aux_lemma => k_is)
    (case lM2 => as_aux_lemma => k_is)
    (case cM2 => as_aux_lemma => k_is)
    (case kM2 => as_aux_lemma => k_is)
    (case aM3 => as_aux_lemma => k_is)
    (case iM3 => as_aux_lemma => k_is)
    (case lM3 => as_aux_lemma => k_is)
    (case cM3 => as_aux_lemma => k_is)
    (case kM3 => as_aux_lemma => k_is)
    (case aM4 => as_aux_lemma => k_is)
    (case iM4 => as_aux_lemma => k_is)
    (case lM4 => as_aux_lemma => k_is)
    (case cM4 => as_aux_lemma => k_is)
    (case kM4 => as_aux_lemma => k_is)
    (case aP0 => as_aux_lemma => k_is)
    (case gP0 => as_aux_lemma => k_is)
    (case tP0 => as_aux_lemma => k_is)
    (case rP0 => as_aux_lemma => k_is)
    (case lP0 => as_aux_lemma => k_is)
    (case cP0 => as_aux_lemma => k_is)
    (case kP0 => as_aux_lemma => k_is)
    (case rd => as_aux_lemma => k_is)
    (case ga => as_aux_lemma => k_is)
    (case aO1 => as_aux_lemma => k_is)
    (case rO1 => as_aux_lemma => k_is)
    (case nO1 => as_aux_lemma => k_is)
    (case lO1 => as_aux_lemma => k_is)
    (case cO1 => as_aux_lemma => k_is)
    (case kO1 => as_aux_lemma => k_is)
    (case pg => as_aux_lemma => k_is)
    (case hd => as_aux_lemma => k_is)
    (case po => as_aux_lemma => k_is)
    (case sa => as_aux_lemma => k_is)
    (case mk => as_aux_lemma => k_is)
    (case kc => as_aux_lemma => k_is)
    (case nL => as_aux_lemma => k_is)
    (case nT => as_aux_lemma => k_is)
    (case bey => as_aux_lemma => k_is)
    (case mb => as_aux_lemma => k_is)
    (case mt => as_aux_lemma => k_is)
    (case mn => as_aux_lemma => k_is)
    (case z_isinstance => as_aux_lemma => k_is)
    (case z_int => as_aux_lemma => k_is)
    (case z_bool => as_aux_lemma => k_is)
    (case z_enumerate => as_aux_lemma => k_is)
    (case z_len => as_aux_lemma => k_is)
    (case z_sum => as_aux_lemma => k_is)
    (case z_list => as_aux_lemma => k_is)
    (case z_tuple => as_aux_lemma => k_is)
    (case z_range => as_aux_lemma => k_is)
    (case z_abs => as_aux_lemma => k_is)
    (case z_str => as_aux_lemma => k_is)
    (case z_max => as_aux_lemma => k_is)
    (case acT => as_aux_lemma => k_is)
    (case rdcT => as_aux_lemma => k_is)
    (case gacT => as_aux_lemma => k_is)
    (case atcT => as_aux_lemma => k_is)
    (case lTI => as_aux_lemma => k_is)
    (case cTI => as_aux_lemma => k_is)
    (case kTI => as_aux_lemma => k_is)
    (case acN => as_aux_lemma => k_is)
    (case rdcN => as_aux_lemma => k_is)
    (case gacN => as_aux_lemma => k_is)
    (case atcN => as_aux_lemma => k_is)
    (case lNI => as_aux_lemma => k_is)
    (case cNI => as_aux_lemma => k_is)
    (case kNI => as_aux_lemma => k_is)
    (case nBk => as_aux_lemma => k_is)
    (case pgBk => as_aux_lemma => k_is)
    (case hdBk => as_aux_lemma => k_is)
    (case poBk => as_aux_lemma => k_is)
    (case saBk => as_aux_lemma => k_is)
    (case mkBk => as_aux_lemma => k_is)
    (case kcBk => as_aux_lemma => k_is)
    (case nSBk => as_aux_lemma => k_is)
    (case nNBk => as_aux_lemma => k_is)
    (case aBkI => as_aux_lemma => k_is)
    (case iBkI => as_aux_lemma => k_is)
    (case lBkI => as_aux_lemma => k_is)
    (case cBkI => as_aux_lemma => k_is)
    (case kBkI => as_aux_lemma => k_is)
    (case aBkS => as_aux_lemma => k_is)
    (case iBkS => as_aux_lemma => k_is)
    (case lBkS => as_aux_lemma => k_is)
    (case cBkS => as_aux_lemma => k_is)
    (case kBkS => as_aux_lemma => k_is)
    (case aBkU => as_aux_lemma => k_is)
    (case iBkU => as_aux_lemma => k_is)
    (case lBkU => as_aux_lemma => k_is)
    (case cBkU => as_aux_lemma => k_is)
    (case kBkU => as_aux_lemma => k_is)
    (case aBkC => as_aux_lemma => k_is)
    (case iBkC => as_aux_lemma => k_is)
    (case lBkC => as_aux_lemma => k_is)
    (case cBkC => as_aux_lemma => k_is)
    (case kBkC => as_aux_lemma => k_is)
    (case fiBk => as_aux_lemma => k_is)
    (case nAh => as_aux_lemma => k_is)
    (case pgAh => as_aux_lemma => k_is)
    (case hdAh => as_aux_lemma => k_is)
    (case poAh => as_aux_lemma => k_is)
    (case saAh => as_aux_lemma => k_is)
    (case mkAh => as_aux_lemma => k_is)
    (case kcAh => as_aux_lemma => k_is)
    (case nSAh => as_aux_lemma => k_is)
    (case nNAh => as_aux_lemma => k_is)
    (case aAhI => as_aux_lemma => k_is)
    (case iAhI => as_aux_lemma => k_is)
    (case lAhI => as_aux_lemma => k_is)
    (case cAhI => as_aux_lemma => k_is)
    (case kAhI => as_aux_lemma => k_is)
    (case aAhS => as_aux_lemma => k_is)
    (case iAhS => as_aux_lemma => k_is)
    (case lAhS => as_aux_lemma => k_is)
    (case cAhS => as_aux_lemma => k_is)
    (case kAhS => as_aux_lemma => k_is)
    (case aAhU => as_aux_lemma => k_is)
    (case iAhU => as_aux_lemma => k_is)
    (case lAhU => as_aux_lemma => k_is)
    (case cAhU => as_aux_lemma => k_is)
    (case kAhU => as_aux_lemma => k_is)
    (case aAhC => as_aux_lemma => k_is)
    (case iAhC => as_aux_lemma => k_is)
    (case lAhC => as_aux_lemma => k_is)
    (case cAhC => as_aux_lemma => k_is)
    (case kAhC => as_aux_lemma => k_is)
    (case fiAh => as_aux_lemma => k_is)
    (case nSo => as_aux_lemma => k_is)
    (case pgSo => as_aux_lemma => k_is)
    (case hdSo => as_aux_lemma => k_is)
    (case poSo => as_aux_lemma => k_is)
    (case saSo => as_aux_lemma => k_is)
    (case mkSo => as_aux_lemma => k_is)
    (case kcSo => as_aux_lemma => k_is)
    (case nSSo => as_aux_lemma => k_is)
    (case nNSo => as_aux_lemma => k_is)
    (case aSoI => as_aux_lemma => k_is)
    (case iSoI => as_aux_lemma => k_is)
    (case lSoI => as_aux_lemma => k_is)
    (case cSoI => as_aux_lemma => k_is)
    (case kSoI => as_aux_lemma => k_is)
    (case aSoS => as_aux_lemma => k_is)
    (case iSoS => as_aux_lemma => k_is)
    (case lSoS => as_aux_lemma => k_is)
    (case cSoS => as_aux_lemma => k_is)
    (case kSoS => as_aux_lemma => k_is)
    (case aSoU => as_aux_lemma => k_is)
    (case iSoU => as_aux_lemma => k_is)
    (case lSoU => as_aux_lemma => k_is)
    (case cSoU => as_aux_lemma => k_is)
    (case kSoU => as_aux_lemma => k_is)
    (case aSoC => as_aux_lemma => k_is)
    (case iSoC => as_aux_lemma => k_is)
    (case lSoC => as_aux_lemma => k_is)
    (case cSoC => as_aux_lemma => k_is)
    (case kSoC => as_aux_lemma => k_is)
    (case fiSo => as_aux_lemma => k_is)
    (case nWh => as_aux_lemma => k_is)
    (case pgWh => as_aux_lemma => k_is)
    (case hdWh => as_aux_lemma => k_is)
    (case poWh => as_aux_lemma => k_is)
    (case saWh => as_aux_lemma => k_is)
    (case mkWh => as_aux_lemma => k_is)
    (case kcWh => as_aux_lemma => k_is)
    (case nSWh => as_aux_lemma => k_is)
    (case nNWh => as_aux_lemma => k_is)
    (case aWhI => as_aux_lemma => k_is)
    (case iWhI => as_aux_lemma => k_is)
    (case lWhI => as_aux_lemma => k_is)
    (case cWhI => as_aux_lemma => k_is)
    (case kWhI => as_aux_lemma => k_is)
    (case aWhS => as_aux_lemma => k_is)
    (case iWhS => as_aux_lemma => k_is)
    (case lWhS => as_aux_lemma => k_is)
    (case cWhS => as_aux_lemma => k_is)
    (case kWhS => as_aux_lemma => k_is)
    (case aWhU => as_aux_lemma => k_is)
    (case iWhU => as_aux_lemma => k_is)
    (case lWhU => as_aux_lemma => k_is)
    (case cWhU => as_aux_lemma => k_is)
    (case kWhU => as_aux_lemma => k_is)
    (case aWhC => as_aux_lemma => k_is)
    (case iWhC => as_aux_lemma => k_is)
    (case lWhC => as_aux_lemma => k_is)
    (case cWhC => as_aux_lemma => k_is)
    (case kWhC => as_aux_lemma => k_is)
    (case fiWh => as_aux_lemma => k_is)
    (case nLa => as_aux_lemma => k_is)
    (case pgLa => as_aux_lemma => k_is)
    (case hdLa => as_aux_lemma => k_is)
    (case poLa => as_aux_lemma => k_is)
    (case saLa => as_aux_lemma => k_is)
    (case mkLa => as_aux_lemma => k_is)
    (case kcLa => as_aux_lemma => k_is)
    (case nSLa => as_aux_lemma => k_is)
    (case nNLa => as_aux_lemma => k_is)
    (case aLaI => as_aux_lemma => k_is)
    (case iLaI => as_aux_lemma => k_is)
    (case lLaI => as_aux_lemma => k_is)
    (case cLaI => as_aux_lemma => k_is)
    (case kLaI => as_aux_lemma => k_is)
    (case aLaS => as_aux_lemma => k_is)
    (case iLaS => as_aux_lemma => k_is)
    (case lLaS => as_aux_lemma => k_is)
    (case cLaS => as_aux_lemma => k_is)
    (case kLaS => as_aux_lemma => k_is)
    (case aLaU => as_aux_lemma => k_is)
    (case iLaU => as_aux_lemma => k_is)
    (case lLaU => as_aux_lemma => k_is)
    (case cLaU => as_aux_lemma => k_is)
    (case kLaU => as_aux_lemma => k_is)
    (case aLaC => as_aux_lemma => k_is)
    (case iLaC => as_aux_lemma => k_is)
    (case lLaC => as_aux_lemma => k_is)
    (case cLaC => as_aux_lemma => k_is)
    (case kLaC => as_aux_lemma => k_is)
    (case fiLa => as_aux_lemma => k_is)
    (case nSm => as_aux_lemma => k_is)
    (case pgSm => as_aux_lemma => k_is)
    (case hdSm => as_aux_lemma => k_is)
    (case poSm => as_aux_lemma => k_is)
    (case saSm => as_aux_lemma => k_is)
    (case mkSm => as_aux_lemma => k_is)
    (case kcSm => as_aux_lemma => k_is)
    (case nSSm => as_aux_lemma => k_is)
    (case nNSm => as_aux_lemma => k_is)
    (case aSmI => as_aux_lemma => k_is)
    (case iSmI => as_aux_lemma => k_is)
    (case lSmI => as_aux_lemma => k_is)
    (case cSmI => as_aux_lemma => k_is)
    (case kSmI => as_aux_lemma => k_is)
    (case aSmS => as_aux_lemma => k_is)
    (case iSmS => as_aux_lemma => k_is)
    (case lSmS => as_aux_lemma => k_is)
    (case cSmS => as_aux_lemma => k_is)
    (case kSmS => as_aux_lemma => k_is)
    (case aSmU => as_aux_lemma => k_is)
    (case iSmU => as_aux_lemma => k_is)
    (case lSmU => as_aux_lemma => k_is)
    (case cSmU => as_aux_lemma => k_is)
    (case kSmU => as_aux_lemma => k_is)
    (case aSmC => as_aux_lemma => k_is)
    (case iSmC => as_aux_lemma => k_is)
    (case lSmC => as_aux_lemma => k_is)
    (case cSmC => as_aux_lemma => k_is)
    (case kSmC => as_aux_lemma => k_is)
    (case fiSm => as_aux_lemma => k_is)
#print axioms PySem.Challenge.cw_remadedays_k19_whole_users_of_ties_holds
