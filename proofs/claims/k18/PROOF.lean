import PyProof.Rows.All
import Wide.All
import OpenK.AllK
import Wide.FinOn
import PyProof.TwoTypes
import KE.KOpsOwn
import KE.KTupSum
import KE.KStar
import KE.GoesMore
import HandS.ForMost
import HandS.Star
import HandS.SlotsOwn
import HandS.ClsMeth
import HandS.Conv
import PyProof.ReprRoads
import PyProof.FitsInt
import HandS.EndBits
import HandS.Text
import HandS.StrMore
import HandS.TupAny
import KE.OsRunLaw
import HandS.Codes
import HandS.IsInst
import HandS.Property
import HandS.Wide
import HandS.Exc
import PySem.Challenge.RW_remadedays_k18_days_of_ties
set_option Elab.async false
set_option linter.all false
set_option maxRecDepth 100000
set_option maxHeartbeats 4000000
namespace My
open PySem PySem.Spec PyProof.Rows L2
section
variable {X : Cx}
def rSumT (K : PySem.W.Frag) : List V → Hp → VK → Prop := fun vs H Q => ∃ (a : Addr) (ns : List Int), vs = [V.ref a] ∧ SqT K H a (ns.map V.int) ∧ Q (.int ns.sum) H
theorem cr_sumT (hc : X.calm = true) : CallR X (.builtin "sum") (rSumT X.K) := by
  intro pins s σ H vs us Q I r h
  obtain ⟨a, ns, rfl, hs, q⟩ := h
  obtain ⟨its, rv, hl, _⟩ := I.tuple hs
  rw [Vals.ref1 r]
  obtain ⟨xs, e⟩ := rv.ints.allInts.items
  have hn : numsOf (intItems xs).toList = ns := by rw [← e]; exact rv.ints.numsOf
  rw [nums_intItems] at hn
  have hl' : s.heap.IsTuple a its.toArray := hl
  rw [e] at hl'
  refine PySem.W.ktm_sumG (I.ok.hd hc) hl' fun h' tk t' hk => ⟨.int _, H, I.kept hk, ⟨_, rfl⟩, ?_⟩
  rw [preSum_eq, List.take_of_length_le (by simp), hn]
  exact q
end
section
variable {X : Cx} {CX : CXT} {k i : Nat} {f C : Addr} {sp : Sp} {E : XK} {x : Str} {e : Expr} {te : TE} {p sp_ pos : Pos}
def tMakeStar (K : PySem.W.Frag) (i : Nat) (C : Addr) (sp : Sp) (E : XK) (te : TE) : TE := fun σ H Q => σ[i]? = some (some (.ref C)) ∧ te σ H fun y H1 => ∃ a xs, y = V.ref a ∧ (SqT K H1 a xs ∨ SqL K H1 a xs) ∧
  ∀ x dx, H1 x = none → H1 dx = none → dx ≠ x → sp (V.ref x :: xs) (upd (upd H1 dx (.own x)) x (.ins C dx [])) (fun v H2 => v = .non ∧ Q (.ref x) H2) E
theorem pe_makeStar (M : Mk X.K C f) (F : FnR X.prog X.w X.K X.mg X.base CX k f sp) (hr : Room (k + 1) X.A) (hN : X.N[i]? = some x) (hv : Vis X.env.scope x) (hx : Passes CX X E) (he : PE X e te)
    (hdb : (x == ("__debug__" : Str)) = false := by decide) (hcd : (x == ("__classdict__" : Str)) = false := by decide)
    (hst : starEach [.Starred e sp_] X.env = [(true, eval e X.env)] := by rfl) : PE X (.Call (.Name x p) [.Starred e sp_] [] pos) (tMakeStar X.K i C sp E te) := by
  refine ⟨fun pins s σ H Q I h => ?_⟩
  obtain ⟨hs, ht⟩ := h
  refine wpAny_Call_Name_kw (thn ((pe_var (pos := p) hN hv hdb hcd).run pins s σ H (fun v H1 => v = .ref C ∧ H1 = H) I ⟨.ref C, hs, rfl, rfl⟩) fun u s1 ⟨v, H1, I1, r1, q1⟩ => ?_)
  obtain ⟨rfl, rfl⟩ := q1
  cases r1
  refine PySem.W.callWith_S (h₀ := X.base) I.ok.mod.kin M.kp (thn (he.run pins s1 σ _ _ I1 ht) fun v s2 ⟨y, H2, I2, ry, a, xs, ey, hxs, q⟩ => ?_) hst
  subst ey
  obtain rfl : v = Value.ref a := ry
  exact StX.star_any I2 hxs fun us s3 I3 rv => ⟨I3.kIn, StX.run_makeR M F hr hx I3 rv q⟩
end
theorem meets_enumerate_newT (l : Addr) (items : Array Value) (n : Nat) (dct : Option Addr) (sl : Array (Option Value)) :
    Meets (Builtin.«enumerate.__new__» ⟨[.type "enumerate", .ref l], []⟩) (fun _ R s => s.heap.get? l = some { cls := .type "tuple", dict := dct, data := .seq items n, slots := sl } ∧
      R (.ok (.ret (.ref (s.heap.push { cls := .type "tuple_iterator", data := .fields #[.ref l, .int 0 0] }).objs.size)))
        { s with heap := (s.heap.push { cls := .type "tuple_iterator", data := .fields #[.ref l, .int 0 0] }).push { cls := .type "enumerate", data := .fields #[.none, .bool false, .ref s.heap.objs.size, rawInt 0, .none, .none] } }) :=
  .of_wp fun prog w A R s h => by
    obtain ⟨hp, g, d, tk, os⟩ := s; obtain ⟨hl, h⟩ := h
    have hsub := sub_enumerate
    have hL : Heap.IsTuple (Shared.heap ⟨hp, g, d, tk, os⟩) l items := ⟨_, hl, rfl, n, rfl⟩
    wp_walk using AutoSeq1.wpAny_loadPart' hl
    refine wpAny_stack_any fun st => wpAny_pure ?_
    split
    · rename_i c _ _ _ _ _
      cases (c == Value.type "enumerate")
      · wp_walk using AutoSeq1.wpAny_loadPart' hl, wpAny_pyIter_tuple hL
        exact ⟨_, rfl, h⟩
      · wp_walk using AutoSeq1.wpAny_loadPart' hl, wpAny_pyIter_tuple hL
        exact ⟨_, rfl, h⟩
    · wp_walk using AutoSeq1.wpAny_loadPart' hl, wpAny_pyIter_tuple hL
      exact ⟨_, rfl, h⟩
theorem call_enumerate_tuple {prog : Program} {w : World} {A : Around} {E : Value → Shared → Prop} {s : Shared} {l : Addr} {items : Array Value} {Q : Value → Shared → Prop} (hL : s.heap.IsTuple l items)
    (h : ∀ h', IsEnum h' (s.heap.objs.size + 1) s.heap.objs.size 0 .none → h'.IsTupleIter s.heap.objs.size l 0 → h'.objs.size = s.heap.objs.size + 2 →
      (∀ b o, s.heap.get? b = some o → h'.get? b = some o) → Q (.ref (s.heap.objs.size + 1)) { s with heap := h' }) :
    wpAny (model prog w) A (call (.type "enumerate") [.ref l]) Q E s := by
  obtain ⟨⟨c, dct, dt, sl⟩, hl, hc, n, hd⟩ := hL
  replace hc : c = .type "tuple" := hc
  replace hd : dt = .seq items n := hd
  subst hc hd
  refine callType_new PySem.F.called_enumerate (by decide) (PySem.F.typeCall_enumerate_1 _) (PySem.F.newCall_enumerate_1 _) (fun obj => PySem.F.args_object_init_2 obj _) PySem.F.entry_enumerate_new
    (meets_enumerate_newT l items n dct sl) ⟨hl, ?_⟩
  have hz : (s.heap.push { cls := .type "tuple_iterator", data := .fields #[.ref l, .int 0 0] }).objs.size = s.heap.objs.size + 1 := Heap.size_push ..
  show _ ∧ _
  rw [hz]
  have he : IsEnum ((s.heap.push { cls := .type "tuple_iterator", data := .fields #[.ref l, .int 0 0] }).push
      { cls := .type "enumerate", data := .fields #[.none, .bool false, .ref s.heap.objs.size, rawInt 0, .none, .none] }) (s.heap.objs.size + 1) s.heap.objs.size 0 .none := by
    have := Heap.get?_push_size (s.heap.push { cls := .type "tuple_iterator", data := .fields #[.ref l, .int 0 0] })
      (o := { cls := .type "enumerate", data := .fields #[.none, .bool false, .ref s.heap.objs.size, rawInt 0, .none, .none] }) rfl
    rw [hz] at this; exact this
  refine ⟨⟨_, he, rfl⟩, h _ he ⟨_, Heap.get?_push_of_some _ (Heap.get?_push_size _ rfl), rfl, rfl⟩ (by rw [Heap.size_push, hz]) fun b o x => Heap.get?_push_of_some _ (Heap.get?_push_of_some _ x)⟩
def IteT (K : PySem.W.Frag) (a : Addr) : It :=
  ⟨fun i H => ∃ (xs : List V) (x : V), SqT K H a xs ∧ xs[i]? = some x, fun i H v H' => ∃ T x, v = .ref T ∧ H T = none ∧ H' = upd H T (.tup [.int (i : Nat), x]) ∧ ∀ xs, SqT K H a xs → xs[i]? = some x, fun i H => ∃ xs : List V, SqT K H a xs ∧ xs.length ≤ i⟩
theorem turn_enumT {P : Program} {w : World} {K : PySem.W.Frag} {elts : List Expr} {kk : Nat} {tpos : Pos} (a e it : Addr) :
    Turn P w K (.Tuple elts kk tpos) (IteT K a) [e, it] e (fun i h => (∃ old, IsEnum h e it ((i : Nat) : Int) old) ∧ h.IsTupleIter it a i ∧ e ≠ it) where
  mem := by simp
  obj := fun i h st b hb => by
    obtain ⟨⟨old, he⟩, ⟨o, ho, hc, hd⟩, _⟩ := st
    have e' : b = e ∨ b = it := by simpa using hb
    rcases e' with z | z
    · rw [z]; exact ⟨_, he, fun v q => nomatch q⟩
    · rw [z]; exact ⟨o, ho, fun v q => by rw [hd] at q; cases q⟩
  keep := fun i h h' st k => let ⟨⟨old, he⟩, hi, hne⟩ := st; ⟨⟨old, k e (by simp) _ he⟩, hi.at fun o q => k it (by simp) o q, hne⟩
  item := by
    intro X hP hw hK hc i pins s σ H E I hf st hg
    subst hP hw hK
    obtain ⟨⟨old, he⟩, hit, hne⟩ := st
    obtain ⟨xs, x, hq, hx⟩ := hg
    obtain ⟨its, rv, p, hz⟩ := I.tuple hq
    obtain ⟨u, hu, ru⟩ := rv.get hx
    have hel : e < s.heap.objs.size := Heap.lt_size he
    have hil : it < s.heap.objs.size := by obtain ⟨_, q, _⟩ := hit; exact Heap.lt_size q
    have hT : s.heap.IsTuple a its.toArray := p
    have hai : a ≠ it := fun z => by
      obtain ⟨o1, h1, c1, _⟩ := hT
      obtain ⟨o2, h2, c2, _⟩ := hit
      rw [z, h2] at h1
      cases h1
      rw [c2] at c1
      exact absurd c1 (by decide)
    have hae : e ≠ a := fun z => by
      obtain ⟨o1, h1, c1, _⟩ := hT
      rw [← z, he] at h1
      cases h1
      exact absurd (show Value.type "enumerate" = Value.type "tuple" from c1) (by decide)
    have D := Draws.tuple (prog := X.prog) (w := X.w) (A := X.A.in1) (I.ok.hd hc) it a hai its.toArray
    have hl := rv.length
    have hlt : i < its.toArray.size := by
      have := (List.getElem?_eq_some_iff.mp hu).1
      simpa using this
    refine wpAny_pyNext_enum_itemD D he ⟨hit, hT⟩ hlt hne (by simp [hne, hae]) fun x' h' tk hP ho hit' hT' hsz hk => ?_
    obtain rfl : x' = u := by
      have z : its.toArray[i]? = some u := by simpa using hu
      exact Option.some.inj (hP.symm.trans z)
    refine ⟨_, rfl, wpAny_letOwnedTupleGo_enum (s := { s with heap := h', toks := tk + 1 }) ho fun h'' he' sb => ?_⟩
    have hT2 : h''.get? s.heap.objs.size = some { cls := .type "tuple", data := .seq #[.int i tk, x'] } := (sb.2 _ (Nat.ne_of_gt hel)).trans hT'
    have new : ObjOk X.prog X.w (upd H s.heap.objs.size (.tup [.int (i : Nat), x])) h'' s.heap.objs.size (.tup [.int (i : Nat), x]) :=
      ⟨by show 2 ≤ sizeLine; decide, [.int i tk, x'], .cons ⟨_, rfl⟩ (.cons ru .nil), ⟨_, hT2, rfl, _, rfl⟩⟩
    have I1 : Inv X pins σ (upd H s.heap.objs.size (.tup [.int (i : Nat), x])) { s with heap := h'', toks := tk + 1 } :=
      I.turnedNew (ch := [e, it]) (fun b ob hb q => (sb.2 b (fun z => hb (by simp [z]))).trans (hk b ob (fun z => hb (by simp [z])) (fun z => hb (by simp [z])) q)) hf (Nat.le_refl _) new
    refine ⟨.ref s.heap.objs.size, _, I1, rfl, ⟨_, x, rfl, I.hok.fresh (Nat.le_refl _), rfl, fun ys hy => by rw [I.tuple_inj hy hq]; exact hx⟩, ⟨⟨x', ?_⟩, hit'.1.at fun o q => (sb.2 it (Ne.symm hne)).trans q, hne⟩, fun b hb => ?_⟩
    · have e1 : ((i + 1 : Nat) : Int) = (i : Int) + 1 := by omega
      rw [e1]; exact he'
    · have hb' : b < s.heap.objs.size := by
        have e' : b = e ∨ b = it := by simpa using hb
        rcases e' with z | z
        · rw [z]; exact hel
        · rw [z]; exact hil
      rw [upd_ne (Nat.ne_of_lt hb')]
      exact (hf b hb).1
  done := by
    intro X hP hw hK hc i pins s σ H E I hf st hg
    subst hP hw hK
    obtain ⟨⟨old, he⟩, hit, hne⟩ := st
    obtain ⟨xs, hq, hx⟩ := hg
    obtain ⟨its, rv, p, hz⟩ := I.tuple hq
    have hT : s.heap.IsTuple a its.toArray := p
    obtain ⟨f0, f1, f2, f3, f4, f5⟩ := hf it (by simp)
    have hl := rv.length
    have hT2 : s.TypeIs (.ref e) "enumerate" := ⟨_, he, rfl⟩
    unfold pyNext
    refine wpAny_bind (wpAny_attempt (wpAny_callSpecial?_slot (name := Str.ofString "__next__") hT2 PySem.F.slot_enumerate_next
      (wpAny_call_entry PySem.F.slot_enumerate_next hT2 PySem.F.entry_enumerate_next ?_ (PySem.F.args_enumerate_next_1 _))))
    show wpAny _ _ (field (.ref e) 2 >>= _) _ _ _
    refine wpAny_bind (wpAny_field he rfl (x := .ref it) rfl ?_)
    refine wpAny_bind (wpAny_nextOf_tuple_end (I.ok.hd hc) hit hT (by simp; omega) fun h' x he' hx' => ?_)
    obtain ⟨o, ho, hc⟩ := hx'
    refine wpAny_bind (wpAny_isInstance (T := "StopIteration") (b := true) ⟨o, ho, hc⟩ isSubtype_stop ?_)
    exact wpAny_pure ⟨rfl, I.turned (t' := s.toks) (fun b o hb q => he' b o hb q) f0 f1 f3 f4 f5⟩
  self := fun A i s Q E st h => let ⟨⟨_, he⟩, _⟩ := st; wpAny_pyIter_enum he h
def iEnumT (K : PySem.W.Frag) (ta : TA) : TI := fun σ H R => ta σ H fun vs H1 => ∃ a xs, vs = [.ref a] ∧ SqT K H1 a xs ∧ R (IteT K a) H1
theorem pi_enumT {X : Cx} {e : Expr} {ta : TA} {p pos tpos : Pos} {elts : List Expr} {kk : Nat} (hg : Gl X "enumerate") (hm : X.mg "enumerate" = none) (ha : PA X [e] ta) (hs : starEach [e] X.env = [(false, eval e X.env)] := by rfl) :
    PI X (.Tuple elts kk tpos) (.Call (.Name "enumerate" p) [e] [] pos) (iEnumT X.K ta) := by
  refine ⟨fun pins s σ H R I h => ?_⟩
  refine Call_ (ld_blt I hg hm boot_enumerate (PyProof.Rows.callWith_type1 (thn (ha.run pos pins s σ H _ I h) fun us s1 ⟨vs, H1, I1, r1, q1⟩ => ?_) hs rfl))
  obtain ⟨a, xs, ex, hq, q⟩ := q1
  subst ex
  cases r1 with
  | cons r rr =>
    cases rr
    cases r
    obtain ⟨its, rv, p', hz⟩ := I1.tuple hq
    refine call_enumerate_tuple (show s1.heap.IsTuple a its.toArray from p') fun h' he hit hsz hk => wpAny_pyIter_enum he ?_
    have I2 : Inv X pins σ H1 { s1 with heap := h' } := I1.kept (t' := s1.toks) hk
    refine ⟨s1.heap.objs.size + 1, [s1.heap.objs.size + 1, s1.heap.objs.size], _, _, H1, rfl, I2, turn_enumT a (s1.heap.objs.size + 1) s1.heap.objs.size, ⟨⟨.none, he⟩, hit, Nat.succ_ne_self _⟩, fun b hb => ?_, q⟩
    have e' : b = s1.heap.objs.size + 1 ∨ b = s1.heap.objs.size := by simpa using hb
    have hle : s1.heap.objs.size ≤ b := by
      rcases e' with z | z
      · rw [z]; exact Nat.le_add_right _ _
      · rw [z]; exact Nat.le_refl _
    exact I1.fpOk hle (I1.hok.fresh hle)
/-- for i, x in enumerate(tuple) -/
theorem for_enumT {K : PySem.W.Frag} {a : Addr} {xs : List V} {g : TG} {tb : TS} {D : Ends} {σ : L2.St} {H : Hp} (Pv : Nat → L2.St → Hp → Prop) (h0 : Pv 0 σ H) (hl : ∀ i σ H, i ≤ xs.length → Pv i σ H → SqT K H a xs)
    (hs : ∀ i x σ H T, xs[i]? = some x → Pv i σ H → H T = none → g (.ref T) σ (upd H T (.tup [.int (i : Nat), x])) fun σ2 H2 => tb { D with nx := Pv (i + 1), ct := Pv (i + 1), bk := D.nx } σ2 H2) (hd : ∀ σ H, Pv xs.length σ H → D.nx σ H) :
    ∃ W : Nat → Nat → L2.St → Hp → Prop, (∃ m, W 0 m σ H) ∧ ∀ i m σ H, W i m σ H →
      ((IteT K a).stop i H ∧ D.nx σ H) ∨ ((IteT K a).go i H ∧ ∃ N : L2.St → Hp → Prop, (∀ σ' H', N σ' H' → ∃ m', m' < m ∧ W (i + 1) m' σ' H') ∧ ∀ x H', (IteT K a).yld i H x H' → g x σ H' fun σ2 H2 => tb { D with nx := N, ct := N, bk := D.nx } σ2 H2) := by
  refine ⟨fun i m σ H => m = xs.length - i ∧ i ≤ xs.length ∧ Pv i σ H, ⟨xs.length, by simp, Nat.zero_le _, h0⟩, ?_⟩
  rintro i m σ H ⟨rfl, hi, p⟩
  have q := hl i σ H hi p
  by_cases hlt : i < xs.length
  · refine .inr ⟨⟨xs, xs[i], q, by simp [hlt]⟩, Pv (i + 1), fun σ' H' p' => ⟨xs.length - (i + 1), by omega, rfl, hlt, p'⟩, fun x H' y => ?_⟩
    obtain ⟨T, x, rfl, hT, rfl, y⟩ := y
    exact hs i x σ H T (y xs q) p hT
  · have e : i = xs.length := by omega
    subst e
    exact .inl ⟨⟨xs, q, Nat.le_refl _⟩, hd σ H p⟩
end My
set_option Elab.async false
set_option linter.all false
set_option maxRecDepth 100000
set_option maxHeartbeats 4000000
namespace My
open PySem PySem.Spec PyProof.Rows L2
section
variable {prog : Program} {w : World} {A : Around} {E : Value → Shared → Prop} {s : Shared} {r : Addr} {a b : Int} {t u v : Tok} {n : Nat}
theorem ext_long {R : Result → Shared → Prop} (nh : A.handled = none) (rg : IsRange s.heap r a b 1 t u v) (big : Builtin.Range.small a b 1 = false) (sz : Builtin.Range.rangeSize a b 1 = n) (few : n ≤ 2 ^ 24)
    (L : Addr) (res : Value) (k0 : Nat) (lst : s.heap.get? L = some { cls := .type "list", data := .seq #[] k0 })
    (fin : ∀ h' tk acc k', (∀ x o, x ≠ L → s.heap.get? x = some o → h'.get? x = some o) → h'.get? L = some { cls := .type "list", dict := none, data := .seq acc k', slots := #[] } →
      ItemsOf (fun i z => ∃ t, z = .int (a + i * 1) t) acc n → R (.ok (.ret res)) { s with heap := h', toks := tk }) :
    wpAny (model prog w) A.in1 (Builtin.List.listExtendWith (.ref L) (.ref r) res)
      (fun f s' => match f with | .done z => R (.ok z) s' | .again c => c.quiet = true ∧ codeAny (model prog w) A c R s') (fun e s' => R (.error e) s') s := by
  have nLr : L ≠ r := fun e => by rw [e, rg] at lst; simp at lst
  have lt : L < s.heap.objs.size := Heap.lt_size lst
  have nLi : L ≠ s.heap.objs.size := Nat.ne_of_lt lt
  have nin : L ∉ [s.heap.objs.size] := fun z => nLi (List.mem_singleton.mp z)
  have WK := (Walks.longrange (prog := prog) (w := w) (A := A.in1) nh s.heap.objs.size a 1 n).toS
  have loop : ∀ (h : Heap) (k1 tk : Nat), IsLongIter h s.heap.objs.size (a + ((0 : Nat) : Int) * 1) ((n : Int) - ((0 : Nat) : Int)) 1 → (∀ x o, x ≠ L → s.heap.get? x = some o → h.get? x = some o) →
      h.get? L = some { cls := .type "list", data := .seq #[] k1 } → codeAny (model prog w) A (.builtin "list.extend.loop" ⟨[.ref L, .ref s.heap.objs.size, res], []⟩) R { s with heap := h, toks := tk } := by
    intro h k1 tk it old l1
    refine codeAny_extend_loopS WK (by rw [sizeLine_eq]; omega) L nin res n 0 _ #[] k1 rfl (Nat.zero_le _) it l1 (ItemsOf.nil _) fun s' acc k' mv l2 its => ?_
    rw [Moved.eq_with mv]
    refine fin s'.heap s'.toks acc k' (fun x o nx e => mv.heap x o (fun z => ?_) (old x o nx e)) l2 its
    rcases List.mem_cons.mp z with e' | z
    · exact nx e'
    · exact absurd (Heap.lt_size e) (by rw [List.mem_singleton.mp z]; exact Nat.lt_irrefl _)
  unfold Builtin.List.listExtendWith
  refine wpAny_bind (wpAny_typeOf (T := "range") ⟨_, rg, rfl⟩ ?_)
  have q1 : Builtin.List.listSameRef (.ref L) (.ref r) = false := by simp [Builtin.List.listSameRef, nLr]
  have q2 : (Value.type "range" == Value.type "list") = false := by decide
  have q3 : (Value.type "range" == Value.type "tuple") = false := by decide
  simp only [q1, q2, q3, Bool.or_false, Bool.false_eq_true, if_false]
  refine wpAny_bind (wpAny_pyIter_longrange rg big ?_)
  refine wpAny_bind (wpAny_holding (wpAny_hint_range (n := n) (Heap.get?_push_of_some _ rg) sz few ?_))
  have it1 : IsLongIter (s.heap.push { cls := .type "longrange_iterator", data := .fields #[rawInt a, rawInt (Builtin.Range.rangeSize a b 1), rawInt 1] }) s.heap.objs.size (a + ((0 : Nat) : Int) * 1) ((n : Int) - ((0 : Nat) : Int)) 1 := by
    show IsLongIter _ _ _ _ _
    rw [sz]
    simpa using Heap.get?_push_size _ rfl
  have l1 := Heap.get?_push_of_some { cls := .type "longrange_iterator", data := .fields #[rawInt a, rawInt (Builtin.Range.rangeSize a b 1), rawInt 1] } lst
  refine wpAny_ite_split (fun _ => ?_) (fun _ => wpAny_pure ⟨plainId_quiet F.plain_extend_loop _, loop _ k0 _ it1 (fun x o _ e => Heap.get?_push_of_some _ e) l1⟩)
  refine wpAny_bind (wpAny_rule ?_)
  refine wpAny_bind ?_
  show wpAny _ _ (updateSeq L (·.push .none) >>= fun _ => updateSeq L (·.pop)) _ _ _
  refine wpAny_bind (wpAny_updateSeq l1 rfl ?_)
  have l2 := Heap.get?_update_self (Obj.mapSeq (·.push Value.none)) l1 rfl
  refine wpAny_updateSeq (hz := by seq_fits) l2 rfl ?_
  have l3 := Heap.get?_update_self (Obj.mapSeq (·.pop)) l2 rfl
  refine wpAny_pure ⟨plainId_quiet F.plain_extend_loop _, loop _ _ _ ?_ (fun x o nx e => ?_) l3⟩
  · exact (Heap.get?_update_other _ _ nLi).trans ((Heap.get?_update_other _ _ nLi).trans it1)
  · exact (Heap.get?_update_other _ _ (Ne.symm nx)).trans ((Heap.get?_update_other _ _ (Ne.symm nx)).trans (Heap.get?_push_of_some _ e))
theorem collect_wide {Q : List Value → Shared → Prop} (nh : A.handled = none) (rg : IsRange s.heap r a b 1 t u v) (sz : Builtin.Range.rangeSize a b 1 = n) (few : n ≤ 2 ^ 24)
    (fin : ∀ (h' : Heap) (tk : Nat) (acc : Array Value), (∀ x o, s.heap.get? x = some o → h'.get? x = some o) → ItemsOf (fun i z => ∃ t, z = .int (a + i * 1) t) acc n → Q acc.toList { s with heap := h', toks := tk }) :
    wpAny (model prog w) A (collect (.ref r)) Q E s := by
  cases big : Builtin.Range.small a b 1 with
  | true => exact collect_range nh rg big sz few fin
  | false =>
    unfold collect
    refine wpAny_bind (wpAny_runValue (codeAny_builtin F.entry_proto_collect ?_))
    rw [Around.under_plainId F.plain_proto_collect _]
    show wpAny _ A.in1 (newList [] >>= fun l => again (.builtin "list.__iadd__" ⟨[l, .ref r], []⟩)) _ _ s
    refine wpAny_bind (wpAny_newObj_type ?_)
    refine wpAny_pure ⟨plainId_quiet F.plain_list_iadd _, codeAny_builtin F.entry_list_iadd ?_⟩
    rw [Around.under_plainId F.plain_list_iadd _]
    show wpAny _ A.in1 (Builtin.List.listExtendWith (.ref s.heap.objs.size) (.ref r) (.ref s.heap.objs.size)) _ _ _
    have l0 : (s.heap.push { cls := .type "list", data := .seq ([] : List Value).toArray }).get? s.heap.objs.size = some { cls := .type "list", data := .seq #[] 0 } := Heap.get?_push_size _ rfl
    refine wpAny_mono (ext_long (A := A) (R := fun rr s' => rr = .ok (.ret (.ref s.heap.objs.size)) ∧ ∃ (h' : Heap) (tk : Nat) (acc : Array Value) (c' : Nat), s' = { s with heap := h', toks := tk } ∧
        (∀ x o, s.heap.get? x = some o → h'.get? x = some o) ∧ h'.get? s.heap.objs.size = some { cls := .type "list", dict := none, data := .seq acc c', slots := #[] } ∧ ItemsOf (fun i z => ∃ t, z = .int (a + i * 1) t) acc n)
      (s := { s with heap := s.heap.push { cls := .type "list", data := .seq ([] : List Value).toArray } }) nh (Heap.get?_push_of_some _ rg) big sz few _ _ 0 l0
      (fun h' tk acc c' hk e hi => ⟨rfl, h', tk, acc, c', rfl, fun x o q => hk x o (Nat.ne_of_lt (Heap.lt_size q)) (Heap.get?_push_of_some _ q), e, hi⟩)) (fun z s' h => ?_) (fun e s' h => ?_)
    · cases z with
      | done f =>
        obtain ⟨e, h', tk, acc, c', rfl, hk, l1, hi⟩ := h
        cases e
        show wpAny _ A (load s.heap.objs.size >>= _) _ _ _
        exact wpAny_bind (wpAny_load l1 (wpAny_pure (fin h' tk acc hk hi)))
      | again c' =>
        refine ⟨h.1, codeAny_mono h.2 fun rr s2 q => ?_⟩
        obtain ⟨rfl, h', tk, acc, c', rfl, hk, l1, hi⟩ := q
        show wpAny _ A (load s.heap.objs.size >>= _) _ _ _
        exact wpAny_bind (wpAny_load l1 (wpAny_pure (fin h' tk acc hk hi)))
    · exact absurd h.1 (by simp)
theorem code_tupW {Q1 : Value → Shared → Prop} (nh : A.handled = none) (rg : IsRange s.heap r a b 1 t u v) (sz : Builtin.Range.rangeSize a b 1 = n) (few : n ≤ 2 ^ 24)
    (fin : ∀ (h' : Heap) (tk : Nat) (acc : Array Value), (∀ x o, s.heap.get? x = some o → h'.get? x = some o) → ItemsOf (fun i z => ∃ t, z = .int (a + i * 1) t) acc n →
      Q1 (.ref h'.objs.size) { s with heap := h'.push { cls := .type "tuple", data := .seq acc }, toks := tk }) :
    codeAny (model prog w) A (.call (.builtin "tuple.__new__") ⟨[.type "tuple", .ref r], []⟩) (wants Q1 E) s := by
  refine codeAny_of_tree ?_
  show wpAny _ A.in1 (do checkBuiltinCall "tuple.__new__" ⟨[.type "tuple", .ref r], []⟩; again (.builtin "tuple.__new__" ⟨[.type "tuple", .ref r], []⟩)) _ _ s
  refine wpAny_bind (wpAny_of_eq (F.newCall_tuple_1 _) (wpAny_pure ⟨plainId_quiet F.plain_tuple_new _, codeAny_builtin F.entry_tuple_new ?_⟩))
  rw [Around.under_plainId F.plain_tuple_new _]
  have e1 := sub_tuple_self
  have e2 := init_tuple_lookup
  have e3 := madeHere_tuple
  have ty : s.TypeIs (.ref r) "range" := ⟨_, rg, rfl⟩
  have nh1 : A.in1.handled = none := nh
  wp_walk using wpAny_typeOf ty, collect_wide (A := A.in1) nh1 rg sz few
  intro h' tk acc old its
  show wpAny _ _ (Builtin.Tuple.tupleExact acc.toList.toArray >>= fun v => ret v) _ _ _
  unfold Builtin.Tuple.tupleExact
  refine wpAny_bind (wpAny_newObj_type ?_ (by show acc.toList.toArray.size ≤ sizeLine; simp only [Array.toArray_toList]; rw [its.1, sizeLine_eq]; omega))
  refine wpAny_pure ?_
  have e : acc.toList.toArray = acc := by simp
  rw [e]
  exact fin h' tk acc old its
theorem call_tupW {Q : Value → Shared → Prop} (nh : A.handled = none) (rg : IsRange s.heap r a b 1 t u v) (sz : Builtin.Range.rangeSize a b 1 = n) (few : n ≤ 2 ^ 24)
    (fin : ∀ (h' : Heap) (tk : Nat) (acc : Array Value), (∀ x o, s.heap.get? x = some o → h'.get? x = some o) → ItemsOf (fun i z => ∃ t, z = .int (a + i * 1) t) acc n →
      Q (.ref h'.objs.size) { s with heap := h'.push { cls := .type "tuple", data := .seq acc }, toks := tk }) :
    wpAny (model prog w) A (call (.type "tuple") [.ref r]) Q E s := by
  refine callType_codes (Q₁ := fun obj s1 => s1.TypeIs obj "tuple" ∧ Q obj s1) F.called_tuple (F.typeCall_tuple_1 _) F.entry_object_init
    (code_tupW (A := A.in1) nh rg sz few fun h' tk acc old its => ⟨⟨_, Heap.get?_push_size _ rfl, rfl⟩, fin h' tk acc old its⟩) fun obj s1 h1 => ?_
  exact ⟨h1.1, F.args_object_init_2 obj _, object_init_meets F.called_tuple.init.lookup F.called_tuple.made (by decide) prog w A.in1 _ s1 ⟨h1.1, rfl, h1.2⟩⟩
end
section
variable {X : Cx} {e : Expr} {te : L2.St → Hp → (Int → Int → Hp → Prop) → Prop}
/-- tuple(range(..)): a new tuple of the ints -/
def tTupW (te : L2.St → Hp → (Int → Int → Hp → Prop) → Prop) : TE := fun σ H Q => te σ H fun a b H1 => (b - a).toNat ≤ 2 ^ 24 ∧ ∀ q, H1 q = none → Q (.ref q) (upd H1 q (.tup (rgV a b)))
theorem pe_tupW {p pos : Pos} (hc : X.calm = true) (hg : Gl X "tuple") (hm : X.mg "tuple" = none) (he : PRg X e te) (na : starEach [e] X.env = (false, eval e X.env) :: starEach [] X.env := by rfl) : PE X (.Call (.Name "tuple" p) [e] [] pos) (tTupW te) := by
  refine ⟨fun pins s σ H Q I h => ?_⟩
  refine Call_ (ld_blt I hg hm boot_tuple (PyProof.Rows.callWith_type1 (args_cons (thn (he pins s σ H _ I h) fun x s1 ⟨r, a, b, t, u, v, H1, ex, hr, I1, few, q⟩ => args_nil ?_) na) na))
  subst ex
  refine call_tupW (n := (b - a).toNat) (I1.ok.hd hc) hr (rangeSize_nat a b) few fun h' tk acc hk hi => ?_
  have I2 : Inv X pins σ H1 { s1 with heap := h', toks := tk } := I1.kept hk
  refine ⟨.ref h'.objs.size, upd H1 h'.objs.size (.tup (rgV a b)), I2.laid (t' := tk) (fun c o e => Heap.get?_push_of_some _ e) (Nat.le_refl _) (show ObjOk X.prog X.w _ _ _ (.tup (rgV a b)) from ⟨?_, acc.toList, vals_rg hi, ?_⟩), rfl, q _ (I2.hok.fresh (Nat.le_refl _))⟩
  · rw [rgV_length, sizeLine_eq]; omega
  · rw [Array.toArray_toList]; exact IsTup.new _ _
end
section
variable {X : Cx} {CX : CXT} {k : Nat} {f C : Addr} {fd : FuncData} {ps ks : List Str} {sp : Sp} {E : XK} {m : Str} {p pos apos : Pos} {e o fe : Expr} {es : List Expr} {kws : List Keyword} {te ta tf : TE} {t tk : TA}
variable {g : List Value → List Value → List Value} {gV : List V → List V → List V} {pl : Sem Bool} {mc : Value}
/-- C.m is a def of the class (or of one above it) -/
structure CFn (K : PySem.W.Frag) (C : Addr) (mc : Value) (m : Str) (f : Addr) : Prop where
  at_ : PySem.W.findCls K (.ref C) mc m = some (.val (.ref f))
  kp : PySem.W.keepIn K (.ref f) = true
def tCFn (C : Addr) (sp : Sp) (E : XK) (ta : TE) (t : TA) : TE := fun σ H Q => ta σ H fun x H1 => x = .ref C ∧ t σ H1 fun vs H2 => sp vs H2 Q E
theorem pe_cfn (he : PE X o ta) (r : ClX.CRead X.K C mc) (c : CFn X.K C mc m f) (F : FnR X.prog X.w X.K X.mg X.base CX k f sp) (hr : Room k X.A) (hx : Passes CX X E) (ha : PA X (e :: es) t)
    (hst : starEach (e :: es) X.env = (false, eval e X.env) :: starEach es X.env := by rfl) (hpl : (backTo pos (starEach es X.env)).any (·.1) = false := by rfl)
    (ht : eval (.Call (.Attribute o m apos) (e :: es) [] pos) X.env = (do
      let z ← eval o X.env
      standAt apos.atName
      let (fn, fst) ← holding [z] (getMethod z m pl)
      callWith pos fn fst (backTo pos (starEach (e :: es) X.env)) (backToKw pos (keywordEach [] X.env))) := by rfl) :
    PE X (.Call (.Attribute o m apos) (e :: es) [] pos) (tCFn C sp E ta t) := by
  refine ⟨fun pins s σ H Q I h => ?_⟩
  refine PySem.W.methodCall_KW (pl := pl) (thn (he.run pins s σ H _ I h) fun u s1 ⟨x, H1, I1, rx, ex, q⟩ => ?_) ht
  subst ex
  obtain rfl : u = Value.ref C := rx
  refine PySem.W.method_cls I1.kIn r.ga (PySem.W.cls_value I1.kIn r.rd c.at_ rfl ?_)
  refine PySem.W.callWith_K (first := []) (h₀ := X.base) I.ok.mod.kin c.kp (thn (ha.run pos pins _ σ H1 _ (I1.tok _) q) fun us s2 ⟨vs, H2, I2, rv, q2⟩ => ⟨I2.kIn, ?_⟩) hst hpl
  exact wpAny_call (run_fnR (us := us) (vs := vs) F hr hx I2 rv q2)
end
end My
set_option Elab.async false
set_option linter.all false
set_option maxRecDepth 100000
set_option maxHeartbeats 4000000
namespace My
open PySem PySem.Spec PyProof.Rows L2
structure FnG (P : Program) (w : World) (K : PySem.W.Frag) (mg : Str → Option Value) (base : Heap) (CX : CXT) (k : Nat) (f : Addr) (fd : FuncData) (ps : List Str) (sp : Sp) : Prop where
  len : ∀ vs H Q E, sp vs H Q E → vs.length = ps.length
  run : ∀ (A : Around) (outer : List Env) (s : Shared) (H : Hp) (args : Args) (us : List Value) (vs : List V) (Q : VK) (E : XK), A.guards = some [] → Room k A → Env0 P w K mg base A outer s H → BindsTo s fd args (ps.zip us) → Vals vs us → sp vs H Q E →
    codeAny (model P w) A (.call (.ref f) args) (CR CX outer P w H s Q E) s
theorem okG {P : Program} {w : World} {K : PySem.W.Frag} {mg : Str → Option Value} {base : Heap} {x qual : Str} {st : Stmt} {f : Addr} {fd : FuncData} {N ps : List Str} {k : Nat} {sp : Sp} (F : Fun K x qual st f fd) (S : FnScope N ps (defScope st)) (len : ∀ vs H Q E, sp vs H Q E → vs.length = ps.length)
    (body : ∀ (cdv : Value) (A : Around) (outer : List Env) (s : Shared) (H : Hp) (vs : List V) (Q : VK) (E : XK), A.guards = some [] → Room k (A.deeper (envOfC qual (defScope st) s.heap.objs.size f cdv)) → sp vs H Q E →
      ∃ t, PSs (cxOf CX0 P w K mg base N qual (defScope st) f cdv A outer s H E).nox (defBody st) t ∧ t { nx := fun _ H' => Q .non H', rt := Q } (start N vs) H) : FnG P w K mg base CX0 (k + 1) f fd ps sp := by
  obtain ⟨oc, od, kV, doc, pm, an, cdv, ct, osl, rfl, lk, hcd⟩ := F.ex
  refine ⟨len, fun A outer s H args us vs Q E gd room e0 bnd rv hs => ?_⟩
  have n := len _ _ _ _ hs
  have inK : K.In s.heap := e0.mod.kin.keeps fun b o e => (e0.bs b o e).1
  have nol : s.heap.NoLimit := e0.mod.nolimit.keeps fun b o e => (e0.bs b o e).1
  have kinds : ∀ y ∈ ps.zip us, (defScope st).names.lookup y.1 = some .local ∨ ((defScope st).names.lookup y.1 = some .cell ∧ ((cellsFrom (s.heap.objs.size + 1) (defScope st).names []).lookup y.1).isSome = true) := by
    rintro ⟨y, v⟩ hy
    exact (S.par y (List.of_mem_zip hy).1).elim .inl fun q => .inr ⟨q, PySem.W.cellsFrom_some _ _ _ (.inl q)⟩
  refine codeAny_call_function room.depth (inK _ _ lk) rfl S.co S.gen rfl (PySem.W.codeRec_of inK hcd) (bnd _ _ _ _ (wpAny_newFunctionEnv_cells S.kind kinds fun env he s1 x => ?_))
  subst he
  refine ⟨nol.keeps x.toInCall.keep, codeAny_func ?_⟩
  obtain ⟨t, ht, hq⟩ := body cdv A outer s H vs Q E gd (room.deeper _) hs
  refine wpAny_mono (ht.nox.run [] s1 (start N vs) H _ (inv_start S room.hd e0 n rv x) hq) (fun fl s' z => ?_) fun e s' z => z
  match fl, z with
  | .ret u, ⟨v, σ', H', J, ru, q⟩ => exact ⟨v, H', J.os, J.bare, J.base, J.hok, ru, q⟩
  | .next, ⟨σ', H', J, q⟩ => exact ⟨V.non, H', J.os, J.bare, J.base, J.hok, rfl, q⟩
  | .brk, ⟨_, _, _, q⟩ => exact q.elim
  | .cont, ⟨_, _, _, q⟩ => exact q.elim
/-- the law's own call, its promise told of such calls -/
theorem callG {P : Program} {w : World} {K : PySem.W.Frag} {mg mb : Str → Option Value} {k : Nat} {fa a : Addr} {fd : FuncData} {x : Str} {sp : Sp} {s1 : Shared} {us : List Value} {ns : List Int}
    (inK : K.In s1.heap) (gl : s1.heap.Ns mainGlobals mg) (bi : s1.heap.Ns builtinsNs mb) (bb : ∀ x : Str, x ≠ "__name__" → mb x = bootBuiltins x) (nol : s1.heap.NoLimit) (gens : s1.gens = #[])
    (scr : s1.heap.get? a = some { cls := .type "list", data := .seq us.toArray }) (iv : IntsAre us ns) (few : ns.length ≤ sizeLine) (room : Room k callerA)
    (F : ∀ base : Heap, K.In base → base.Ns mainGlobals mg → FnG P w K mg base CX0 k fa fd [x] sp) (bnd : ∀ (s : Shared) (u : Value), BindsTo s fd ⟨[u], []⟩ [(x, u)])
    (hsp : ∀ H : Hp, Only H → SqL K H a (ns.map V.int) → sp [.ref a] H (fun v _ => v = .bl true) fun _ _ _ => False) :
    codeAny (model P w) callerA (.call (.ref fa) ⟨[.ref a], []⟩) (fun r s' => r = .ok (.ret (.bool true)) ∧ OldK s1.heap s'.heap ∧ s'.os = s1.os ∧ AllBare s'.gens) s1 := by
  have rv := vals_ints iv
  have cnt := iv.length
  have main : ∀ H : Hp, Only H → SqL K H a (ns.map V.int) → HOk P w H s1.heap → (∀ b, H b ≠ none → b = a) → (H a ≠ none → K.lookup a = none) →
      codeAny (model P w) callerA (.call (.ref fa) ⟨[.ref a], []⟩) (fun r s' => r = .ok (.ret (.bool true)) ∧ OldK s1.heap s'.heap ∧ s'.os = s1.os ∧ AllBare s'.gens) s1 := by
    intro H only seq ok one off
    -- of an object of the module's own nothing is tracked
    have free : ∀ {b : Addr}, (b = a → H b = none) → H b = none := fun {b} h => Classical.byContradiction fun z => z (h (one b z))
    have get : ∀ {b : Addr} {o : Obj}, s1.heap.get? b = some o → H b = none → (hidT s1.heap H).get? b = some o := fun e z => hidT_get e z
    have dict : ∀ {b : Addr} {o : Obj} {es : Array DictEntry} {ep : Nat}, s1.heap.get? b = some o → o.data = .dict es ep → H b = none := fun {b o es ep} e d => by
      refine free fun z => absurd ?_ (fun y : Data.seq us.toArray 0 = Data.dict es ep => by cases y)
      subst z
      rw [scr] at e
      cases e
      exact d
    have names : ∀ {b : Addr} {m : Str → Option Value}, s1.heap.Ns b m → (hidT s1.heap H).Ns b m := fun ⟨o, es, ep, e, d, q⟩ => ⟨o, es, ep, get e (dict e d), d, q⟩
    have inB : K.In (hidT s1.heap H) := fun b o e => get (inK b o e) (free fun z => by
      subst z
      refine Classical.byContradiction fun y => ?_
      rw [off y] at e
      cases e)
    have md : Mod K mg (hidT s1.heap H) := ⟨inB, names gl, ⟨mb, names bi, bb⟩, let ⟨mc, q1, q2⟩ := nol; ⟨mc, names q1, q2⟩⟩
    have env : Env0 P w K mg (hidT s1.heap H) callerA [] s1 H := ⟨rfl, md, fun b o e => of_hidT e, Nat.le_of_eq (hidT_size _ _), trivial, fun b hb => absurd (show b ∈ ([] : List Addr) from hb) (by simp), ok, .of_eq gens⟩
    have run := (F _ inB (names gl)).run callerA [] s1 H ⟨[.ref a], []⟩ [.ref a] [.ref a] _ _ rfl room env (bnd s1 (.ref a)) (.cons rfl .nil) (hsp H only seq)
    refine codeAny_mono run fun r s' h => ?_
    match r, h with
    | .error e, h => exact h.elim
    | .ok .next, h => exact h.elim
    | .ok .brk, h => exact h.elim
    | .ok .cont, h => exact h.elim
    | .ok (.ret u), ⟨v, H', os, bare, un, ok', ru, q⟩ =>
      cases (show v = V.bl true from q)
      cases (show u = Value.bool true from ru)
      refine ⟨rfl, OldK.of_keep fun b o e => ?_, os, bare⟩
      rcases only b with z | ⟨ob, xs, z⟩
      · exact un.keep b o e z (by intro y; exact absurd (show b ∈ ([] : List Addr) from y) (by simp)) (by simp)
      · obtain ⟨g1, _⟩ := ok b _ z
        obtain ⟨g2, _⟩ := ok' b _ (un.frzs b ob _ z)
        rw [e] at g1
        cases g1
        exact g2
  cases own : K.lookup a with
  | some o =>
    have e := inK a o own
    rw [scr] at e
    cases e
    exact main (fun _ => none) (fun _ => .inl rfl) (.inr ⟨_, us.toArray, _, own, rfl, rfl, rfl, by rw [List.size_toArray, cnt]; exact few, by simpa using rv⟩) (fun b u z => nomatch (show (none : Option HO) = some u from z)) (fun b z => absurd rfl z) fun z => absurd rfl z
  | none =>
    have at_ : ∀ b, (fun b => if b = a then some (HO.frz { cls := .type "list", data := .seq us.toArray } (.lst (ns.map V.int))) else none) b ≠ none → b = a := fun b z => Classical.byContradiction fun y => z (if_neg y)
    refine main (fun b => if b = a then some (.frz { cls := .type "list", data := .seq us.toArray } (.lst (ns.map V.int))) else none) (fun b => ?_) (.inl (.inr ⟨_, if_pos rfl⟩)) (fun b u z => ?_) at_ fun _ => own
    · by_cases y : b = a
      · exact .inr ⟨_, _, if_pos y⟩
      · exact .inl (if_neg y)
    · have y : b = a := at_ b (by rw [z]; simp)
      cases (if_pos y).symm.trans z
      subst y
      exact ⟨scr, by rw [List.length_map]; exact few, us, _, rv, scr⟩
theorem walkG {l : PySem.W.OpenLaw} {n k : Nat} {q : Program} {loose : List Str} {XP : (Str → Option Value) → Heap → Prop} {YP : World → Heap → Prop} {d : DefRec} {K : Params → PySem.W.Frag} {sp : World → Sp} {x : Str}
    (hn : l.most = some n) (few : n ≤ sizeLine) (hdf : d.params.defaults = []) (room : Room k callerA) (hY : ∀ (w : World) (h : Heap), YP w h → (K w.params).In h)
    (F : ∀ (w : World) (mg : Str → Option Value) (fa : Addr) (h : Heap), (K w.params).In h → h.Ns mainGlobals mg → mg d.name = some (.ref fa) →
      ∃ fd : FuncData, (∀ (s : Shared) (u : Value), BindsTo s fd ⟨[u], []⟩ [(x, u)]) ∧ ∀ base : Heap, (K w.params).In base → base.Ns mainGlobals mg → FnG l.prog w (K w.params) mg base CX0 k fa fd [x] (sp w))
    (hsp : ∀ (w : World) (H : Hp) (a : Addr) (ns : List Int), ns.length ≤ n → Only H → SqL (K w.params) H a (ns.map V.int) → sp w [.ref a] H (fun v _ => v = .bl true) fun _ _ _ => False) :
    PySem.W.WalkO q loose XP YP l.row.toRowW d [] (fun f vs => PySem.call f vs) := by
  refine Att.attach_call hn hdf fun w s0 s1 mg mb fa o pm cd doc a us ns G Y ho hd hcd hmg obj iv len gens => ?_
  obtain ⟨fd, bnd, hF⟩ := F w mg fa _ (hY w _ Y) G.T.g hmg
  exact callG (hY w _ Y) G.T.g G.T.b G.T.builtins G.T.nolimit gens obj iv (Nat.le_trans len few) room hF bnd fun H only seq => hsp w H a ns len only seq
section
variable {X : Cx}
def rRepr (K : PySem.W.Frag) : List V → Hp → VK → Prop := fun xs H Q => ∃ (p : Addr) (d : PyData), xs = [.ref p] ∧ Dp K H (.ref p) d ∧ d.showable = true ∧ d.hasDict = false ∧ d.depth ≤ 64 ∧ d.shown.length ≤ sizeLine ∧ Q (.str d.shown) H
theorem cr_repr (gd : X.A.guards = some []) (hu : X.A.units + 70 < cLine) : CallR X (.builtin "repr") (rRepr X.K) := by
  intro pins s σ H xs us Q I r h
  obtain ⟨p, d, rfl, dp, sh, nd, dep, sz, q⟩ := h
  obtain ⟨as, rd⟩ := Dp.reads I d (.ref p) (.ref p) dp rfl
  rw [Vals.ref1 r]
  exact repr_of_reads' rd sh (PyData.noDict_hsm nd) gd (by omega) (fun _ _ e => e) (fun h' u tk hk => ⟨.str _, H, I.kept hk, ⟨_, rfl⟩, q⟩) sz
end
theorem int_shown {i : Int} (h : i.natAbs < 10 ^ 70) : (PyData.shown (.int i)).length ≤ 71 := by
  show (Str.ofString (toString i)).length ≤ 71
  rw [PySem.ofString_length]
  exact int_text_length_le10 (k := 70) (by decide) h
theorem piled_le {B : Nat} : ∀ ts : List Str, (∀ t ∈ ts, t.length ≤ B) → piled ts ≤ ts.length * (B + 2)
  | [], _ => by simp [piled]
  | t :: r, h => by
    have h1 := h t (by simp)
    have h2 := piled_le r fun u hu => h u (by simp [hu])
    rw [piled_cons, List.length_cons, Nat.add_mul]
    omega
theorem from_le {B : Nat} : ∀ (ts : List Str) (k : Nat) (acc : Str), (∀ t ∈ ts, t.length ≤ B) → (textFrom k acc ts).length ≤ acc.length + ts.length * (B + 2)
  | [], k, acc, _ => by simp [textFrom]
  | t :: r, k, acc, h => by
    have h1 := h t (by simp)
    have h2 := from_le r (k + 1) (acc ++ (if k > 0 then ", " else "" : String) ++ t) fun u hu => h u (by simp [hu])
    have h3 : (Str.ofString (if k > 0 then ", " else "" : String)).length ≤ 2 := by split <;> decide
    rw [strLen_append, strLen_append] at h2
    rw [List.length_cons, Nat.add_mul]
    show (textFrom (k + 1) _ r).length ≤ _
    omega
theorem shownAll_map : ∀ xs : List Int, PyData.shownAll (xs.map PyData.int) = xs.map fun i => PyData.shown (.int i)
  | [] => by simp [PyData.shownAll]
  | x :: r => by simp [PyData.shownAll, shownAll_map r]
theorem tup_shown {xs : List Int} (h : ∀ i ∈ xs, i.natAbs < 10 ^ 70) (n : xs.length ≤ 1000) : (PyData.shown (.tuple (xs.map PyData.int))).length ≤ 94000 := by
  have e : PyData.shown (.tuple (xs.map PyData.int)) = tupleText (xs.map fun i => PyData.shown (.int i)) := by simp only [PyData.shown, shownAll_map]
  rw [e]
  unfold tupleText
  have hp := piled_le (B := 71) (xs.map fun i => PyData.shown (.int i)) fun t ht => by
    obtain ⟨i, hi, rfl⟩ := List.mem_map.mp ht
    exact int_shown (h i hi)
  rw [List.length_map] at hp
  have h3 : (Str.ofString (if (xs.map fun i => PyData.shown (.int i)).length == 1 then ",)" else ")" : String)).length ≤ 2 := by split <;> decide
  have hj : (Str.join ", " (xs.map fun i => PyData.shown (.int i))).length ≤ 93000 := by
    by_cases z : xs = []
    · subst z
      exact Nat.le_trans (Nat.le_of_eq (by rfl)) (Nat.zero_le _)
    · have := join_length_add (xs.map fun i => PyData.shown (.int i)) (by simpa using z)
      omega
  rw [strLen_append, strLen_append]
  have h1 : (Str.ofString "(").length = 1 := by decide
  have : (("(" : Str)).length = 1 := h1
  omega
theorem showAll_ints : ∀ xs : List Int, (∀ i ∈ xs, i.natAbs < 10 ^ 70) → PyData.showableAll (xs.map PyData.int) = true
  | [], _ => by simp [PyData.showableAll]
  | x :: r, h => by
    have e : (10 : Nat) ^ 70 ≤ 2 ^ 240 := by decide
    have h1 := Nat.lt_of_lt_of_le (h x (by simp)) e
    have h2 : x.natAbs.log2 < 1920 := Nat.lt_trans (PySem.Flt.log2_lt_of (k := 240) (by decide) h1) (by decide)
    simp only [List.map_cons, PyData.showableAll, PyData.showable, Bool.and_eq_true, decide_eq_true_eq]
    exact ⟨h2, showAll_ints r fun i hi => h i (by simp [hi])⟩
theorem noDict_ints : ∀ xs : List Int, PyData.hasDictAll (xs.map PyData.int) = false
  | [] => by simp [PyData.hasDictAll]
  | x :: r => by simp [PyData.hasDictAll, PyData.hasDict, noDict_ints r]
/-- repr([t, u]) of two tuples of iv -/
theorem repr_two {K : PySem.W.Frag} {H : Hp} {p a b : Addr} {xs ys : List Int} {Q : VK} (hp : H p = some (.lst [.ref a, .ref b])) (ha : H a = some (.tup (xs.map V.int))) (hb : H b = some (.tup (ys.map V.int))) (dp : ∀ zs : List Int, DpAll K H (zs.map V.int) (zs.map PyData.int))
    (h1 : ∀ i ∈ xs, i.natAbs < 10 ^ 70) (h2 : ∀ i ∈ ys, i.natAbs < 10 ^ 70) (n1 : xs.length ≤ 1000) (n2 : ys.length ≤ 1000) (q : Q (.str (PyData.shown (.list [.tuple (xs.map PyData.int), .tuple (ys.map PyData.int)]))) H) : rRepr K [.ref p] H Q := by
  refine ⟨p, .list [.tuple (xs.map PyData.int), .tuple (ys.map PyData.int)], rfl, .lst (SqL.of hp) (.cons (.tup (SqT.of ha) (dp xs)) (.cons (.tup (SqT.of hb) (dp ys)) .nil)), ?_, ?_, ?_, ?_, q⟩
  · simp only [PyData.showable, PyData.showableAll, showAll_ints xs h1, showAll_ints ys h2]
    rfl
  · simp only [PyData.hasDict, PyData.hasDictAll, noDict_ints]
    rfl
  · have d1 := PySem.W.depthAll_ints xs
    have d2 := PySem.W.depthAll_ints ys
    simp only [PyData.depth, PyData.depthAll]
    omega
  · have t1 := tup_shown h1 n1
    have t2 := tup_shown h2 n2
    have e : PyData.shown (.list [.tuple (xs.map PyData.int), .tuple (ys.map PyData.int)]) = listText [PyData.shown (.tuple (xs.map PyData.int)), PyData.shown (.tuple (ys.map PyData.int))] := by simp only [PyData.shown, PyData.shownAll]
    rw [e]
    unfold listText
    have hf := from_le (B := 94000) [PyData.shown (.tuple (xs.map PyData.int)), PyData.shown (.tuple (ys.map PyData.int))] 0 "[" fun t ht => by
      simp only [List.mem_cons, List.not_mem_nil, or_false] at ht
      rcases ht with rfl | rfl
      · exact t1
      · exact t2
    rw [strLen_append, sizeLine_eq]
    have k1 : (("[" : Str)).length = 1 := by decide
    have k2 : (("]" : Str)).length = 1 := by decide
    have k3 : ([PyData.shown (.tuple (xs.map PyData.int)), PyData.shown (.tuple (ys.map PyData.int))] : List Str).length = 2 := rfl
    rw [k3, k1] at hf
    omega
section
variable {prog : Program} {w : World} {A : Around} {E : Value → Shared → Prop} {s : Shared} {r : Addr} {a b : Int} {t u v : Tok} {n : Nat}
theorem call_listW {Q : Value → Shared → Prop} (nh : A.handled = none) (rg : IsRange s.heap r a b 1 t u v) (sz : Builtin.Range.rangeSize a b 1 = n) (few : n ≤ 2 ^ 24)
    (fin : ∀ h' tk acc c', (∀ x o, s.heap.get? x = some o → h'.get? x = some o) → h'.get? s.heap.objs.size = some { cls := .type "list", dict := none, data := .seq acc c', slots := #[] } →
      ItemsOf (fun i z => ∃ t, z = .int (a + i * 1) t) acc n → Q (.ref s.heap.objs.size) { s with heap := h', toks := tk }) :
    wpAny (model prog w) A (call (.type "list") [.ref r]) Q E s := by
  cases big : Builtin.Range.small a b 1 with
  | true => exact call_list_range nh rg big sz few fin
  | false =>
    refine callType_codes (Q₁ := fun obj s1 => obj = .ref s.heap.objs.size ∧ s1 = { s with heap := s.heap.push { cls := .type "list", data := .seq #[] } }) F.called_list (F.typeCall_list_1 _) F.entry_list_init
      (code_list_new _ ⟨rfl, rfl⟩) fun obj s1 h1 => ?_
    obtain ⟨rfl, rfl⟩ := h1
    have l0 : (s.heap.push { cls := .type "list", data := .seq #[] }).get? s.heap.objs.size = some { cls := .type "list", data := .seq #[] } := Heap.get?_push_size _ rfl
    have rg1 : IsRange (s.heap.push { cls := .type "list", data := .seq #[] }) r a b 1 t u v := Heap.get?_push_of_some _ rg
    have ne : s.heap.objs.size ≠ r := fun z => by
      have y := Heap.lt_size rg
      rw [← z] at y
      exact Nat.lt_irrefl _ y
    refine ⟨⟨_, l0, rfl⟩, F.args_list_init_2 _ _, ?_⟩
    show wpAny _ _ (do let old ← Builtin.List.listItems (.ref s.heap.objs.size); Builtin.List.listUpdate (.ref s.heap.objs.size) (fun _ => #[]); letGo old.toList.reverse; Builtin.List.listExtendWith (.ref s.heap.objs.size) (.ref r) .none) _ _ _
    refine wpAny_bind ?_
    unfold Builtin.List.listItems
    refine wpAny_bind (wpAny_seqItems l0 rfl (wpAny_pure ?_))
    show wpAny _ _ (updateSeq s.heap.objs.size (fun _ => #[]) >>= fun _ => letGo (#[] : Array Value).toList.reverse >>= fun _ => Builtin.List.listExtendWith (.ref s.heap.objs.size) (.ref r) .none) _ _ _
    refine wpAny_bind (wpAny_updateSeq l0 rfl ?_)
    have l1 := Heap.get?_update_self (Obj.mapSeq (fun _ => (#[] : Array Value))) l0 rfl
    have oth : ∀ x o, x ≠ s.heap.objs.size → (s.heap.push { cls := .type "list", data := .seq #[] }).get? x = some o → ((s.heap.push { cls := .type "list", data := .seq #[] }).update s.heap.objs.size (Obj.mapSeq (fun _ => (#[] : Array Value)))).get? x = some o :=
      fun x o nx e => (Heap.get?_update_other _ _ (Ne.symm nx)).trans e
    refine wpAny_bind (wpAny_letGo ?_)
    exact ext_long (A := A.in1) nh (oth r _ (Ne.symm ne) rg1) big sz few s.heap.objs.size .none _ l1 fun h' tk acc c' old l2 its =>
      ⟨rfl, fin h' tk acc c' (fun x o e => old x o (Nat.ne_of_lt (Heap.lt_size e)) (oth x o (Nat.ne_of_lt (Heap.lt_size e)) (Heap.get?_push_of_some _ e))) l2 its⟩
end
section
variable {X : Cx} {e : Expr} {te : L2.St → Hp → (Int → Int → Hp → Prop) → Prop}
def tLstW (te : L2.St → Hp → (Int → Int → Hp → Prop) → Prop) : TE := fun σ H Q => te σ H fun a b H1 => (b - a).toNat ≤ 2 ^ 24 ∧ ∀ q, H1 q = none → Q (.ref q) (upd H1 q (.lst (rgV a b)))
theorem pe_listW {p pos : Pos} (hc : X.calm = true) (hg : Gl X "list") (hm : X.mg "list" = none) (he : PRg X e te) (na : starEach [e] X.env = (false, eval e X.env) :: starEach [] X.env := by rfl) : PE X (.Call (.Name "list" p) [e] [] pos) (tLstW te) := by
  refine ⟨fun pins s σ H Q I h => ?_⟩
  refine Call_ (ld_blt I hg hm boot_list (PyProof.Rows.callWith_type1 (args_cons (thn (he pins s σ H _ I h) fun x s1 ⟨r, a, b, t, u, v, H1, ex, hr, I1, few, q⟩ => args_nil ?_) na) na))
  subst ex
  refine call_listW (n := (b - a).toNat) (I1.ok.hd hc) hr (rangeSize_nat a b) few fun h' tk acc c' hk e' hi => ?_
  refine ⟨.ref s1.heap.objs.size, upd H1 s1.heap.objs.size (.lst (rgV a b)), I1.laid hk (Nat.le_refl _) (show ObjOk X.prog X.w _ _ _ (.lst (rgV a b)) from ⟨?_, acc.toList, c', vals_rg hi, ?_⟩), rfl, q _ (I1.hok.fresh (Nat.le_refl _))⟩
  · rw [rgV_length, sizeLine_eq]; omega
  · rw [Array.toArray_toList]; exact e'
end
section
variable {prog : Program} {w : World} {A : Around} {E : Value → Shared → Prop} {s : Shared} {K : PySem.W.Frag} {x C f : Addr} {ox : Obj} {od : Option Obj} {b : Value}
theorem ne_entry {Q : Fin → Shared → Prop} (hu : A.units < cLine) (inK : K.In s.heap) (I : PySem.W.InstAt s.heap x ox C od) (hs : PySem.W.findIn K (.ref C) "__eq__" = some (some (.ref f))) (hf : PySem.W.isFn K (.ref f) = true)
    (h : wpAny (model prog w) A (call (.ref f) [.ref x, b]) (fun v s' => ∃ c, v = .bool c ∧ Q (.done (.ret (.bool (!c)))) s') E s) : wpAny (model prog w) A (Builtin.«object.__ne__» ⟨[.ref x, b], []⟩) Q E s := by
  show wpAny _ _ (do cRoomFor "comparison" [.ref x, b]; match ← callSpecialIfBound? (.ref x) "__eq__" [b] with | some .notImplemented | none => ret .notImplemented | some r => ret (.bool (!(← truthy r)))) _ _ s
  refine wpAny_bind (wpAny_cRoomFor hu ?_)
  refine wpAny_bind (PySem.W.ifBound_K inK I hs hf (wpAny_mono h (fun v s' z => ?_) fun _ _ e => e))
  obtain ⟨c, rfl, q⟩ := z
  show wpAny _ _ (truthy (.bool c) >>= fun t => ret (.bool (!t))) _ _ s'
  exact wpAny_bind (wpAny_truthy_bool (wpAny_pure q))
theorem ne_bound {args : List Value} {Q : Option Value → Shared → Prop} {M : Model} (inK : K.In s.heap) (I : PySem.W.InstAt s.heap x ox C od) (hn : PySem.W.findIn K (.ref C) "__ne__" = some (some (.builtin "object.__ne__")))
    (h : wpAny M A (call (.builtin "object.__ne__") (.ref x :: args)) (fun v => Q (some v)) E s) : wpAny M A (callSpecialIfBound? (.ref x) "__ne__" args) Q E s := by
  simp only [callSpecialIfBound?, bindSpecialIfBound?]
  refine wpAny_holding (wpAny_bind (wpAny_bind (wpAny_bind (I.type.here ((PySem.W.looks_findIn inK hn).here ?_)))))
  refine wpAny_bind (wpAny_askSetting (wpAny_ite ?_))
  have last : wpAny M A (call (.builtin "object.__ne__") ([.ref x] ++ args) >>= fun v => pure (some v)) Q E s := wpAny_bind (wpAny_mono h (fun v s' q => wpAny_pure q) fun _ _ q => q)
  split
  · exact wpAny_bind (wpAny_of_eq (F.cmp_object.ne.bind _) (wpAny_pure (by exact last)))
  · exact wpAny_tryCatch (wpAny_bind (wpAny_of_eq (F.cmp_object.ne.bind _) (wpAny_pure (by exact last))))
theorem rc_ne {Q : Value → Shared → Prop} (hu : A.units + 1 < cLine) (inK : K.In s.heap) (I : PySem.W.InstAt s.heap x ox C od) (hb : PySem.W.Looks (model prog w) s.heap (typeOf b) (.ref C)) (hm : PySem.W.mroIn K C (.type "object") = some true)
    (hs : PySem.W.findIn K (.ref C) "__eq__" = some (some (.ref f))) (hf : PySem.W.isFn K (.ref f) = true) (hn : PySem.W.findIn K (.ref C) "__ne__" = some (some (.builtin "object.__ne__")))
    (h : wpAny (model prog w) A.in1 (call (.ref f) [.ref x, b]) (fun v s' => ∃ c, v = .bool c ∧ Q (.bool (!c)) s') E s) : wpAny (model prog w) A (richCompare .NotEq (.ref x) b) Q E s := by
  have one : wpAny (model prog w) A (tryCompare (.ref x) "__ne__" b) (fun r s' => ∃ v, r = some v ∧ Q v s') E s := by
    unfold tryCompare
    refine wpAny_bind (ne_bound inK I hn (wpAny_call (codeAny_call_builtin F.cmp_object.ne.plain F.cmpEntry_ne (PySem.W.check_slot F.cmpKind_ne F.cmpSplit_ne (I.type.andThen (PySem.W.looks_mroIn inK hm)) (F.cmpArgs_ne _ _)
      (ne_entry (A := A.in1) (by show A.units + 1 < cLine; exact hu) inK I hs hf (wpAny_mono h (fun v s' z => ?_) fun e s' z => ?_))))))
    · obtain ⟨c, e, q⟩ := z
      exact ⟨c, e, wpAny_pure ⟨_, rfl, q⟩⟩
    · exact z
  unfold richCompare
  simp only [oneThing_ref]
  refine wpAny_holding (wpAny_bind (wpAny_cRoomFor (by omega) ?_))
  refine wpAny_bind (I.type.here (wpAny_bind (hb.here ?_)))
  split
  · rename_i q
    exact absurd q (by simp)
  · refine wpAny_bind (wpAny_pure ?_)
    simp only [Bool.false_eq_true, if_false]
    refine wpAny_bind (wpAny_mono one (fun r s' z => ?_) fun _ _ e => e)
    obtain ⟨v, rfl, q⟩ := z
    exact wpAny_pure q
end
section
variable {X : Cx} {CX : CXT} {n : Nat} {C g : Addr} {sp : Sp} {E : XK}
structure NeO (K : PySem.W.Frag) (C g : Addr) : Prop where
  eq : PySem.W.findIn K (.ref C) "__eq__" = some (some (.ref g))
  fn : PySem.W.isFn K (.ref g) = true
  ne : PySem.W.findIn K (.ref C) "__ne__" = some (some (.builtin "object.__ne__"))
  ob : PySem.W.mroIn K C (.type "object") = some true
def rNeO (C : Addr) (sp : Sp) (E : XK) : R2 := fun x y H Q => ∃ a b dx dy fs gs, x = .ref a ∧ y = .ref b ∧ H a = some (.ins C dx fs) ∧ H b = some (.ins C dy gs) ∧ sp [x, y] H (fun z H' => ∃ c, z = .bl c ∧ Q (.bl (!c)) H') E
theorem op_neO (R : NeO X.K C g) (F : FnR X.prog X.w X.K X.mg X.base CX n g sp) (hr : Room (n + 1) X.A) (hx : Passes CX X E) : OpR X (compareOp .NotEq) (rNeO C sp E) := by
  intro pins s σ H x y v u Q I rx ry h
  obtain ⟨a, b, dx, dy, fs, gs, rfl, rfl, ha, hb, q⟩ := h
  cases (show v = Value.ref a from rx)
  cases (show u = Value.ref b from ry)
  obtain ⟨mA, O, _⟩ := ins_get I.hok ha
  obtain ⟨od, J, _⟩ := O.look
  obtain ⟨mB, OB, _⟩ := ins_get I.hok hb
  obtain ⟨ob, JB, _⟩ := OB.look
  show wpAny _ _ (richCompare .NotEq (.ref a) (.ref b)) _ _ _
  refine rc_ne (by have := hr.un; omega) I.kIn J JB.type R.ob R.eq R.fn R.ne (wpAny_mono (wpAny_call (SlX.run_at (us := [.ref a, .ref b]) (ws := [.ref a, .ref b]) F hr.in1 I.env0.in1 hx I (.cons rfl (.cons rfl .nil)) q)) (fun z s' k => ?_) fun _ _ e => e)
  obtain ⟨z', H', I', rz, c, ez, qz⟩ := k
  subst ez
  cases (show z = Value.bool c from rz)
  exact ⟨c, rfl, .bl (!c), H', I', rfl, qz⟩
end
end My
set_option linter.all false
namespace My
structure OkL (ls : List Int) : Prop where
  ne : 0 < ls.length
  pos : ∀ l ∈ ls, 1 ≤ l
def spotN : List Int → Int → Nat
  | [], _ => 0
  | l :: r, p => if l ≤ p then spotN r (p - l) + 1 else 0
def ixD (ls : List Int) (d : Int) : Nat := spotN ls (d % ls.sum)
def plcD (ls : List Int) (d : Int) : Int := d % ls.sum - (ls.take (ixD ls d)).sum
def blkD (ls : List Int) (d : Int) : Int := d / ls.sum * ls.length + ixD ls d
def lenD (ls : List Int) (d : Int) : Int := ls.getD (ixD ls d) 0
def fstD (ls : List Int) (d : Int) : Int := d - plcD ls d
/-- the block with the number b, first day f, length l, has the day d -/
def At (ls : List Int) (d b f l : Int) : Prop := f ≤ d ∧ d < f + l ∧ ∃ (k : Int) (i : Nat), b = k * ls.length + i ∧ ls[i]? = some l ∧ f = k * ls.sum + (ls.take i).sum
theorem sum_pos {ls : List Int} (h : ∀ l ∈ ls, 1 ≤ l) : (ls.length : Int) ≤ ls.sum := by
  induction ls with
  | nil => simp
  | cons a r ih =>
    have h1 := h a (by simp)
    have h2 := ih fun l hl => h l (by simp [hl])
    rw [List.sum_cons, List.length_cons]
    omega
theorem OkL.sum {ls : List Int} (o : OkL ls) : 0 < ls.sum := by
  have := sum_pos o.pos
  have := o.ne
  omega
theorem spot_run {ls : List Int} (h : ∀ l ∈ ls, 1 ≤ l) : ∀ p : Int, 0 ≤ p → p < ls.sum → ∃ l, ls[spotN ls p]? = some l ∧ (ls.take (spotN ls p)).sum ≤ p ∧ p < (ls.take (spotN ls p)).sum + l := by
  induction ls with
  | nil => intro p h0 h1; simp at h1; omega
  | cons a r ih =>
    intro p h0 h1
    unfold spotN
    by_cases c : a ≤ p
    · rw [if_pos c]
      rw [List.sum_cons] at h1
      obtain ⟨l, e, q1, q2⟩ := ih (fun l hl => h l (by simp [hl])) (p - a) (by omega) (by omega)
      refine ⟨l, by simpa using e, ?_, ?_⟩
      · rw [List.take_succ_cons, List.sum_cons]; omega
      · rw [List.take_succ_cons, List.sum_cons]; omega
    · rw [if_neg c]
      have := h a (by simp)
      exact ⟨a, by simp, by simp; omega, by simp; omega⟩
theorem take_next {ls : List Int} {i : Nat} {l : Int} (e : ls[i]? = some l) : (ls.take (i + 1)).sum = (ls.take i).sum + l := by
  rw [List.take_add_one, e]
  simp
theorem take_nn {ls : List Int} (h : ∀ l ∈ ls, 1 ≤ l) (i : Nat) : 0 ≤ (ls.take i).sum := by
  have := sum_pos (ls := ls.take i) fun l hl => h l (List.mem_of_mem_take hl)
  omega
theorem take_le {ls : List Int} (h : ∀ l ∈ ls, 1 ≤ l) {i j : Nat} (hij : i ≤ j) : (ls.take i).sum ≤ (ls.take j).sum := by
  have e : ls.take j = ls.take i ++ (ls.drop i).take (j - i) := by
    rw [← List.take_add]
    congr 1
    omega
  rw [e, List.sum_append]
  have := sum_pos (ls := (ls.drop i).take (j - i)) fun l hl => h l (List.mem_of_mem_drop (List.mem_of_mem_take hl))
  omega
theorem take_all {ls : List Int} (h : ∀ l ∈ ls, 1 ≤ l) {i : Nat} {l : Int} (e : ls[i]? = some l) : (ls.take i).sum + l ≤ ls.sum := by
  rw [← take_next e]
  have h1 := take_le h (i := i + 1) (j := ls.length) (by have := (List.getElem?_eq_some_iff.mp e).1; omega)
  rwa [List.take_length] at h1
theorem lt_of_idx {ls : List Int} {i : Nat} {l : Int} (e : ls[i]? = some l) : i < ls.length := (List.getElem?_eq_some_iff.mp e).1
theorem div_of {d k T p : Int} (h : 0 < T) (e : d = k * T + p) (h0 : 0 ≤ p) (h1 : p < T) : d / T = k ∧ d % T = p := by
  subst e
  constructor
  · rw [Int.add_comm, Int.add_mul_ediv_right _ _ (by omega), Int.ediv_eq_zero_of_lt h0 h1]; omega
  · rw [Int.add_comm, Int.add_mul_emod_self_right, Int.emod_eq_of_lt h0 h1]
theorem at_day {ls : List Int} (o : OkL ls) (d : Int) : At ls d (blkD ls d) (fstD ls d) (lenD ls d) := by
  have T := o.sum
  obtain ⟨l, e, q1, q2⟩ := spot_run o.pos (d % ls.sum) (Int.emod_nonneg _ (by omega)) (Int.emod_lt_of_pos _ T)
  have hl : lenD ls d = l := by
    unfold lenD ixD
    rw [List.getD_eq_getElem?_getD, e]
    rfl
  have hd : d = d / ls.sum * ls.sum + d % ls.sum := by
    have := Int.mul_ediv_add_emod d ls.sum
    rw [Int.mul_comm] at this
    omega
  unfold At
  rw [hl]
  unfold fstD plcD ixD
  refine ⟨by omega, by omega, d / ls.sum, spotN ls (d % ls.sum), rfl, e, by omega⟩
theorem at_eq {ls : List Int} (o : OkL ls) {d b f l b' f' l' : Int} (h : At ls d b f l) (h' : At ls d b' f' l') : b = b' ∧ f = f' ∧ l = l' := by
  have T := o.sum
  obtain ⟨h1, h2, k, i, rfl, e, rfl⟩ := h
  obtain ⟨h1', h2', k', i', rfl, e', rfl⟩ := h'
  have n1 := take_nn o.pos i
  have n2 := take_nn o.pos i'
  have a1 := take_all o.pos e
  have a2 := take_all o.pos e'
  have z1 := (div_of (d := d) (k := k) (p := d - k * ls.sum) T (by omega) (by omega) (by omega)).1
  have z2 := (div_of (d := d) (k := k') (p := d - k' * ls.sum) T (by omega) (by omega) (by omega)).1
  obtain rfl : k = k' := z1.symm.trans z2
  have hi : i = i' := by
    rcases Nat.lt_trichotomy i i' with c | c | c
    · have := take_le o.pos (i := i + 1) (j := i') c
      rw [take_next e] at this
      omega
    · exact c
    · have := take_le o.pos (i := i' + 1) (j := i) c
      rw [take_next e'] at this
      omega
  subst hi
  rw [e] at e'
  cases e'
  exact ⟨rfl, rfl, rfl⟩
theorem at_is {ls : List Int} (o : OkL ls) {d b f l : Int} (h : At ls d b f l) : blkD ls d = b ∧ fstD ls d = f ∧ lenD ls d = l := at_eq o (at_day o d) h
theorem day_range {ls : List Int} (o : OkL ls) (d : Int) : fstD ls d ≤ d ∧ d < fstD ls d + lenD ls d := ⟨(at_day o d).1, (at_day o d).2.1⟩
/-- the day ahead of the first day of a block is the last one of the block with the number ahead -/
theorem at_begin {ls : List Int} (o : OkL ls) {d : Int} (h : fstD ls d = d) : blkD ls d = blkD ls (d - 1) + 1 ∧ fstD ls (d - 1) + lenD ls (d - 1) = d := by
  have T := o.sum
  have A := at_day o d
  rw [h] at A
  obtain ⟨h1, h2, k, i, eb, e, ef⟩ := A
  have key : ∃ f l, At ls (d - 1) (blkD ls d - 1) f l ∧ f + l = d := by
    cases i with
    | zero =>
      have hn := o.ne
      obtain ⟨l, el⟩ : ∃ l, ls[ls.length - 1]? = some l := ⟨_, List.getElem?_eq_getElem (by omega)⟩
      have hs : (ls.take (ls.length - 1)).sum + l = ls.sum := by
        rw [← take_next el, Nat.sub_add_cancel hn, List.take_length]
      have hl := o.pos l (List.mem_of_getElem? el)
      have hk : (k - 1) * ls.sum = k * ls.sum - ls.sum := by rw [Int.sub_mul, Int.one_mul]
      have hk2 : (k - 1) * (ls.length : Int) = k * ls.length - ls.length := by rw [Int.sub_mul, Int.one_mul]
      simp at ef
      refine ⟨(k - 1) * ls.sum + (ls.take (ls.length - 1)).sum, l, ⟨by omega, by omega, k - 1, ls.length - 1, by rw [eb, hk2]; push_cast; omega, el, rfl⟩, by omega⟩
    | succ j =>
      obtain ⟨l, el⟩ : ∃ l, ls[j]? = some l := ⟨_, List.getElem?_eq_getElem (by have := lt_of_idx e; omega)⟩
      have hl := o.pos l (List.mem_of_getElem? el)
      rw [take_next el] at ef
      refine ⟨k * ls.sum + (ls.take j).sum, l, ⟨by omega, by omega, k, j, by rw [eb]; push_cast; omega, el, rfl⟩, by omega⟩
  obtain ⟨f, l, A', e'⟩ := key
  obtain ⟨r1, r2, r3⟩ := at_is o A'
  rw [r1, r2, r3]
  exact ⟨by omega, e'⟩
/-- otherwise both are of one block -/
theorem at_within {ls : List Int} (o : OkL ls) {d : Int} (h : fstD ls d ≠ d) : blkD ls d = blkD ls (d - 1) ∧ fstD ls d = fstD ls (d - 1) := by
  have A := at_day o d
  obtain ⟨h1, h2, z⟩ := A
  obtain ⟨r1, r2, r3⟩ := at_is o (d := d - 1) (show At ls (d - 1) _ _ _ from ⟨by omega, by omega, z⟩)
  exact ⟨r1.symm, r2.symm⟩
theorem rest_turns (ls : List Int) (d : Int) : d / ls.sum * ls.sum + d % ls.sum = d := by
  have := Int.mul_ediv_add_emod d ls.sum
  rw [Int.mul_comm] at this
  exact this
/-- the walk through the lengths -/
theorem spot_step {ls : List Int} (o : OkL ls) {d : Int} {i : Nat} {l : Int} (hi : i ≤ ixD ls d) (e : ls[i]? = some l) : (l ≤ d % ls.sum - (ls.take i).sum ↔ i < ixD ls d) := by
  have T := o.sum
  obtain ⟨m, em, q1, q2⟩ := spot_run o.pos (d % ls.sum) (Int.emod_nonneg _ (by omega)) (Int.emod_lt_of_pos _ T)
  constructor
  · intro h
    rcases Nat.lt_or_ge i (ixD ls d) with c | c
    · exact c
    · have z : i = ixD ls d := by omega
      rw [z] at e h
      have em' : ls[ixD ls d]? = some m := em
      rw [e] at em'
      cases em'
      have q2' : d % ls.sum < (ls.take (ixD ls d)).sum + l := q2
      omega
  · intro h
    have h1 := take_le o.pos (i := i + 1) (j := ixD ls d) h
    rw [take_next e] at h1
    have q1' : (ls.take (ixD ls d)).sum ≤ d % ls.sum := q1
    omega
theorem ix_lt {ls : List Int} (o : OkL ls) (d : Int) : ixD ls d < ls.length ∧ ls[ixD ls d]? = some (lenD ls d) := by
  have T := o.sum
  obtain ⟨m, em, q1, q2⟩ := spot_run o.pos (d % ls.sum) (Int.emod_nonneg _ (by omega)) (Int.emod_lt_of_pos _ T)
  have em' : ls[ixD ls d]? = some m := em
  have hl : lenD ls d = m := by
    unfold lenD
    rw [List.getD_eq_getElem?_getD, em']
    rfl
  exact ⟨lt_of_idx em', by rw [hl]; exact em'⟩
end My
set_option linter.all false
namespace My
def lstD (ls : List Int) (d : Int) : Int := fstD ls d + lenD ls d - 1
def rgI (a b : Int) : List Int := (List.range (b - a).toNat).map fun i => a + (i : Nat)
def pickI (a b p : Int) : List Int := if a + p < b then [a + p] else []
inductive Kd where
  | bk | ah | so | wh | la | sm
def srcL (k : Kd) (n : Int) (ls : List Int) (d : Int) : List Int :=
  match k with
  | .bk => [d - n]
  | .ah => [d + n]
  | .so => rgI (fstD ls d) (d + 1)
  | .wh => rgI (fstD ls (fstD ls d - 1)) (fstD ls d - 1 + 1)
  | .la => [fstD ls d - 1]
  | .sm => pickI (fstD ls (fstD ls d - 1)) (fstD ls d - 1 + 1) (d - fstD ls d)
theorem mem_rgI {a b x : Int} : x ∈ rgI a b ↔ a ≤ x ∧ x < b := by
  unfold rgI
  rw [List.mem_map]
  constructor
  · rintro ⟨i, hi, rfl⟩
    have := List.mem_range.mp hi
    omega
  · rintro ⟨h1, h2⟩
    exact ⟨(x - a).toNat, List.mem_range.mpr (by omega), by omega⟩
theorem mem_pickI {a b p x : Int} : x ∈ pickI a b p ↔ x = a + p ∧ a + p < b := by
  unfold pickI
  by_cases c : a + p < b
  · rw [if_pos c]; simp [c]
  · rw [if_neg c]; simp [c]
section
variable {ls : List Int} (o : OkL ls)
include o
theorem day_rng (d : Int) : fstD ls d ≤ d ∧ d ≤ lstD ls d := by
  obtain ⟨h1, h2⟩ := day_range o d
  unfold lstD
  omega
theorem same_blk {d e : Int} (h1 : fstD ls d ≤ e) (h2 : e ≤ lstD ls d) : fstD ls e = fstD ls d ∧ lstD ls e = lstD ls d := by
  obtain ⟨q1, q2, z⟩ := at_day o d
  unfold lstD at h2
  obtain ⟨r1, r2, r3⟩ := at_is o (d := e) (show At ls e _ _ _ from ⟨h1, by omega, z⟩)
  unfold lstD
  rw [r2, r3]
  exact ⟨rfl, rfl⟩
theorem nxt (d : Int) : fstD ls (lstD ls d + 1) = lstD ls d + 1 := by
  refine Classical.byContradiction fun h => ?_
  obtain ⟨h1, h2⟩ := day_rng o d
  have w := (at_within o h).2
  rw [show lstD ls d + 1 - 1 = lstD ls d by omega, (same_blk o (d := d) (e := lstD ls d) (by omega) (by omega)).1] at w
  obtain ⟨h3, h4⟩ := day_rng o (lstD ls d + 1)
  have q := (same_blk o (d := lstD ls d + 1) (e := d) (by omega) (by omega)).2
  omega
theorem prv (d : Int) : lstD ls (fstD ls d - 1) = fstD ls d - 1 := by
  obtain ⟨h1, h2⟩ := day_rng o d
  have q := (same_blk o (d := d) (e := fstD ls d) (by omega) (by omega)).1
  have w := (at_begin o q).2
  unfold lstD
  omega
end
theorem rgI_len (a b : Int) : (rgI a b).length = (b - a).toNat := by unfold rgI; rw [List.length_map, List.length_range]
/-- how many they are -/
theorem len_src {ls : List Int} (o : OkL ls) (hs : ls.sum ≤ 60) (hl : ∀ d, lenD ls d ≤ 60) (k : Kd) (n d : Int) : (srcL k n ls d).length ≤ 60 := by
  obtain ⟨h1, h2⟩ := day_rng o d
  have q1 := hl d
  have p := prv o d
  have q2 := hl (fstD ls d - 1)
  unfold lstD at h2 p
  cases k with
  | bk => exact Nat.le_of_ble_eq_true rfl
  | ah => exact Nat.le_of_ble_eq_true rfl
  | so => show (rgI _ _).length ≤ 60; rw [rgI_len]; omega
  | wh => show (rgI _ _).length ≤ 60; rw [rgI_len]; omega
  | la => exact Nat.le_of_ble_eq_true rfl
  | sm =>
    show (pickI _ _ _).length ≤ 60
    unfold pickI
    split
    · exact Nat.le_of_ble_eq_true rfl
    · exact Nat.zero_le _
end My
set_option Elab.async false
set_option linter.all false
set_option maxRecDepth 100000
set_option maxHeartbeats 4000000
namespace My
open PySem PySem.Spec PyProof.Rows L2
def top (i : Nat) : Stmt := PySem.Challenge.pw_remadedays_k18_days_of_ties.main.body.getD i (.Pass ⟨0, 0, 0, 0⟩)
abbrev sWhole : Stmt := top 11
abbrev sBetw : Stmt := top 12
abbrev sDay : Stmt := top 13
abbrev sChk : Stmt := top 37
abbrev sCyc : Stmt := top 36
abbrev sInit : Stmt := inClass sCyc 0
abbrev sOf : Stmt := inClass sCyc 1
abbrev sLengths : Stmt := inClass sCyc 3
abbrev sSpot : Stmt := inClass sCyc 18
abbrev sEnds : Stmt := inClass sCyc 19
theorem lt_ne : ¬ (("_lengths" : Str) = "_total") := by decide +kernel
def flds (t : Addr) (n : Int) : List (Str × V) := putF "_total" (.int n) (putF "_lengths" (.ref t) [])
theorem flds_l (t : Addr) (n : Int) : (flds t n).lookup ("_lengths" : Str) = some (.ref t) := by
  unfold flds
  rw [lookup_putF, if_neg lt_ne, lookup_putF, if_pos rfl]
theorem flds_t (t : Addr) (n : Int) : (flds t n).lookup ("_total" : Str) = some (.int n) := by
  unfold flds
  rw [lookup_putF, if_pos rfl]
theorem flds_no (t : Addr) (n : Int) {m : Str} (h1 : ¬ m = "_total") (h2 : ¬ m = "_lengths") : (flds t n).lookup m = none := by
  unfold flds
  rw [lookup_putF, if_neg h1, lookup_putF, if_neg h2]
  all_goals rfl
/-- lengths that a cycle may have -/
structure Good (ls : List Int) : Prop where
  pos : ∀ l ∈ ls, 1 ≤ l ∧ l ≤ 60
  ne : 0 < ls.length
  few : ls.length ≤ 12
  sum : ls.sum ≤ 60
theorem Good.ok {ls : List Int} (g : Good ls) : OkL ls := ⟨g.ne, fun l hl => (g.pos l hl).1⟩
/-- a Cycle of these lengths stands at p -/
structure CycAt (C : Addr) (H : Hp) (p : Addr) (ls : List Int) : Prop where
  ob : ∃ dx t, H p = some (.ins C dx (flds t ls.sum)) ∧ H t = some (.tup (ls.map V.int))
  ok : Good ls
theorem CycAt.same {C : Addr} {H H' : Hp} {p : Addr} {ls : List Int} (c : CycAt C H p ls) (s : Same H H') : CycAt C H' p ls :=
  ⟨let ⟨dx, t, h1, h2⟩ := c.ob; ⟨dx, t, s _ _ h1, s _ _ h2⟩, c.ok⟩
/-- all that was tracked but the list at p is as it was -/
def SameBut (p : Addr) (H H' : Hp) : Prop := ∀ b o, b ≠ p → H b = some o → H' b = some o
theorem Same.but {p : Addr} {H H' : Hp} (s : Same H H') : SameBut p H H' := fun b o _ e => s b o e
theorem SameBut.trans {p : Addr} {H H1 H2 : Hp} (a : SameBut p H H1) (b : SameBut p H1 H2) : SameBut p H H2 := fun c o n e => b c o n (a c o n e)
theorem SameBut.refl (p : Addr) (H : Hp) : SameBut p H H := fun _ _ _ e => e
theorem CycAt.but {C : Addr} {H H' : Hp} {p q : Addr} {ls : List Int} (c : CycAt C H p ls) (s : SameBut q H H') {xs : List V} (hq : H q = some (.lst xs)) : CycAt C H' p ls :=
  ⟨let ⟨dx, t, h1, h2⟩ := c.ob; ⟨dx, t, s _ _ (ne_of h1 hq (by intro z; cases z)) h1, s _ _ (ne_of h2 hq (by intro z; cases z)) h2⟩, c.ok⟩
theorem same_new {H : Hp} {p : Addr} {o : HO} (h : H p = none) : Same H (upd H p o) := fun b q e => by
  rw [upd_ne (ne_of_none e h)]
  exact e
structure Txt (K : PySem.W.Frag) (mg : Str → Option Value) (C fWhole fBetw fDay fChk : Addr) : Prop where
  cl : Cls K C
  nL : NoAttr K C "_lengths"
  nT : NoAttr K C "_total"
  gCyc : mg "Cycle" = some (.ref C)
  gWhole : mg "is_whole" = some (.ref fWhole)
  gBetw : mg "is_between" = some (.ref fBetw)
  gDay : mg "is_day" = some (.ref fDay)
  gChk : mg "check_lengths" = some (.ref fChk)
  gBey : ∃ t, mg "BEYOND" = some (.int (10 ^ 60) t)
  gMB : ∃ t, mg "MOST_BLOCKS" = some (.int 12 t)
  gMT : ∃ t, mg "MOST_TOTAL" = some (.int 60 t)
  zIsi : mg "isinstance" = none
  zInt : mg "int" = none
  zBool : mg "bool" = none
  zEnum : mg "enumerate" = none
  zLen : mg "len" = none
  zSum : mg "sum" = none
  zList : mg "list" = none
  zTuple : mg "tuple" = none
  zRange : mg "range" = none
  zAbs : mg "abs" = none
section
variable {P : Program} {w : World} {K : PySem.W.Frag} {mg : Str → Option Value} {base : Heap} {C fWhole fBetw fDay fChk : Addr}
def spWhole (K : PySem.W.Frag) : Sp := fun vs H Q _ => ∃ (x : V) (t : String) (b1 b2 : Bool), vs = [x] ∧ TyX K H x (.type t) ∧ kitB t "int" = some b1 ∧ kitB t "bool" = some b2 ∧ Q (.bl (b1 && !b2)) H
theorem scWhole : FnScope ["value"] ["value"] (defScope sWhole) := ⟨rfl, rfl, rfl, by decide +kernel, rfl, by decide +kernel, by decide +kernel⟩
theorem ok_whole {f : Addr} {fd : FuncData} (F : Fun K "is_whole" "is_whole" sWhole f fd) (T : Txt K mg C fWhole fBetw fDay fChk) : FnOk P w K mg base CX0 1 f fd ["value"] (spWhole K) := by
  refine F.ok scWhole (fun vs H Q E h => ?_) (fun cdv A outer s H vs Q E hr h => ?_)
  · obtain ⟨x, t, b1, b2, rfl, _⟩ := h
    rfl
  · obtain ⟨x, t, b1, b2, rfl, ty, h1, h2, k⟩ := h
    refine ⟨_, pss_one (ps_ret (pe_and (pe_callB call_isi (by rfl) T.zIsi (by decide +kernel) (pa_cons (pv 0) (pa_cons (pe_bltn (v := .ty "int") (by rfl) T.zInt (by decide +kernel) rfl) pa_nil)))
      (pe_one (pe_not (pe_callB call_isi (by rfl) T.zIsi (by decide +kernel) (pa_cons (pv 0) (pa_cons (pe_bltn (v := .ty "bool") (by rfl) T.zBool (by decide +kernel) rfl) pa_nil))))))), ?_⟩
    refine ⟨_, rfl, x, .ty "int", _, _, b1, rfl, .ty "int", ty, kit_ty h1, b1, rfl, ?_⟩
    cases b1 with
    | true => exact iteT ⟨_, rfl, x, .ty "bool", _, _, b2, rfl, .ty "bool", ty, kit_ty h2, b2, rfl, k⟩
    | false => exact iteF k
/-- value, low, high: low and high ints -/
def spBetw (K : PySem.W.Frag) : Sp := fun vs H Q _ => ∃ (x : V) (t : String) (b1 b2 : Bool) (lo hi : Int), vs = [x, .int lo, .int hi] ∧ TyX K H x (.type t) ∧ kitB t "int" = some b1 ∧ kitB t "bool" = some b2 ∧
  ((b1 && !b2) = false → Q (.bl false) H) ∧ ((b1 && !b2) = true → ∃ i, x = .int i ∧ Q (.bl (decide (lo ≤ i) && decide (i ≤ hi))) H)
theorem scBetw : FnScope ["value", "low", "high"] ["value", "low", "high"] (defScope sBetw) := ⟨rfl, rfl, rfl, by decide +kernel, rfl, by decide +kernel, by decide +kernel⟩
theorem ok_betw {f : Addr} {fd fdW : FuncData} (F : Fun K "is_between" "is_between" sBetw f fd) (T : Txt K mg C fWhole fBetw fDay fChk) (FW : Fun K "is_whole" "is_whole" sWhole fWhole fdW) (bW : Binds K fdW ["value"] []) :
    FnOk P w K mg base CX0 2 f fd ["value", "low", "high"] (spBetw K) := by
  have GW : FnOk P w K mg base CX0 1 fWhole fdW ["value"] (spWhole K) := ok_whole FW T
  refine F.ok scBetw (fun vs H Q E h => ?_) (fun cdv A outer s H vs Q E hr h => ?_)
  · obtain ⟨x, t, b1, b2, lo, hi, rfl, _⟩ := h
    rfl
  · obtain ⟨x, t, b1, b2, lo, hi, rfl, ty, h1, h2, k0, k1⟩ := h
    refine ⟨_, pss_one (ps_ret (pe_and (pe_call GW hr rfl T.gWhole FW.kp bW .nil pass0 (pa_cons (pv 0) pa_nil)) (pe_one (pe_chain op_le op_le (pv 1) (pv 0) (pv 2))))), ?_⟩
    refine ⟨_, rfl, x, t, b1, b2, rfl, ty, h1, h2, _, rfl, ?_⟩
    cases e : (b1 && !b2) with
    | false => exact iteF (k0 e)
    | true =>
      obtain ⟨i, rfl, k⟩ := k1 e
      refine iteT ⟨_, rfl, _, rfl, _, _, rfl, rfl, _, rfl, ?_⟩
      by_cases c : lo ≤ i
      · rw [decide_eq_true c] at k ⊢
        exact iteT ⟨_, rfl, _, _, rfl, rfl, k⟩
      · rw [decide_eq_false c] at k ⊢
        exact iteF k
/-- whether an int is a day -/
def dayB (i : Int) : Bool := decide (1 - 10 ^ 60 ≤ i) && decide (i ≤ 10 ^ 60 - 1)
def spDay (K : PySem.W.Frag) : Sp := fun vs H Q _ => ∃ (x : V) (t : String) (b1 b2 : Bool), vs = [x] ∧ TyX K H x (.type t) ∧ kitB t "int" = some b1 ∧ kitB t "bool" = some b2 ∧
  ((b1 && !b2) = false → Q (.bl false) H) ∧ ((b1 && !b2) = true → ∃ i, x = .int i ∧ Q (.bl (dayB i)) H)
theorem scDay : FnScope ["value"] ["value"] (defScope sDay) := ⟨rfl, rfl, rfl, by decide +kernel, rfl, by decide +kernel, by decide +kernel⟩
theorem ok_day {f : Addr} {fd fdW fdB : FuncData} (F : Fun K "is_day" "is_day" sDay f fd) (T : Txt K mg C fWhole fBetw fDay fChk) (FW : Fun K "is_whole" "is_whole" sWhole fWhole fdW) (bW : Binds K fdW ["value"] [])
    (FB : Fun K "is_between" "is_between" sBetw fBetw fdB) (bB : Binds K fdB ["value", "low", "high"] []) : FnOk P w K mg base CX0 3 f fd ["value"] (spDay K) := by
  have GB : FnOk P w K mg base CX0 2 fBetw fdB ["value", "low", "high"] (spBetw K) := ok_betw FB T FW bW
  obtain ⟨tb, gb⟩ := T.gBey
  refine F.ok scDay (fun vs H Q E h => ?_) (fun cdv A outer s H vs Q E hr h => ?_)
  · obtain ⟨x, t, b1, b2, rfl, _⟩ := h
    rfl
  · obtain ⟨x, t, b1, b2, rfl, ty, h1, h2, k0, k1⟩ := h
    refine ⟨_, pss_one (ps_ret (pe_call GB hr rfl T.gBetw FB.kp bB .nil pass0 (pa_cons (pv 0) (pa_cons (pe_op op_sub pe_int (pe_glob (v := .int (10 ^ 60)) rfl gb ⟨_, rfl⟩)) (pa_cons (pe_op op_sub (pe_glob (v := .int (10 ^ 60)) rfl gb ⟨_, rfl⟩) pe_int) pa_nil))))), ?_⟩
    exact ⟨_, rfl, _, _, rfl, rfl, _, _, rfl, rfl, x, t, b1, b2, _, _, rfl, ty, h1, h2, k0, k1⟩
theorem kii : kitB "int" "int" = some true := by decide +kernel
theorem kib : kitB "int" "bool" = some false := by decide +kernel
theorem tnf0 {A : Prop} (h : (true && !false) = false) : A := by cases h
def spChk : Sp := fun vs H Q _ => ∃ (t : Addr) (ls : List Int), vs = [.ref t] ∧ H t = some (.tup (ls.map V.int)) ∧ Good ls ∧ ∀ H', Same H H' → Q .non H'
theorem scChk : FnScope ["lengths", "at", "length"] ["lengths"] (defScope sChk) := ⟨rfl, rfl, rfl, by decide +kernel, rfl, by decide +kernel, by decide +kernel⟩
theorem ok_chk {f : Addr} {fd fdW fdB : FuncData} (F : Fun K "check_lengths" "check_lengths" sChk f fd) (T : Txt K mg C fWhole fBetw fDay fChk) (FW : Fun K "is_whole" "is_whole" sWhole fWhole fdW) (bW : Binds K fdW ["value"] [])
    (FB : Fun K "is_between" "is_between" sBetw fBetw fdB) (bB : Binds K fdB ["value", "low", "high"] []) : FnOk P w K mg base CX0 3 f fd ["lengths"] spChk := by
  have GB : FnOk P w K mg base CX0 2 fBetw fdB ["value", "low", "high"] (spBetw K) := ok_betw FB T FW bW
  obtain ⟨tb, gb⟩ := T.gMB
  obtain ⟨tt, gt⟩ := T.gMT
  refine F.ok scChk (fun vs H Q E h => ?_) (fun cdv A outer s H vs Q E hr h => ?_)
  · obtain ⟨t, ls, rfl, _⟩ := h
    rfl
  · obtain ⟨t, ls, rfl, ht, g, k⟩ := h
    refine ⟨_, pss_cons (ps_for PassesOwn.never rfl (pi_enumT (by rfl) T.zEnum (pa_cons (pv 0) pa_nil)) (pg_tup rfl (pgs_cons (pg_name (i := 1) scChk.nd rfl (.inl rfl)) (pgs_cons (pg_name (i := 2) scChk.nd rfl (.inl rfl)) pgs_nil)))
        (pss_one (ps_if (pt_not (pt_val (pe_call GB hr rfl T.gBetw FB.kp bB .nil pass0 (pa_cons (pv 2) (pa_cons pe_int (pa_cons (pe_glob (v := .int 60) rfl gt ⟨_, rfl⟩) pa_nil)))))) pss_never pss_nil)))
      (pss_cons (ps_if (pt_not (pt_truth (pv 0) (by intro _; rfl))) pss_never pss_nil)
      (pss_cons (ps_if (pt_cmpR op_gt (pe_callB call_len_seq (by rfl) T.zLen PySem.boot_len (pa_cons (pv 0) pa_nil)) (pe_glob (v := .int 12) rfl gb ⟨_, rfl⟩) (nomark _)) pss_never pss_nil)
      (pss_one (ps_if (pt_cmpR op_gt (pe_callB (cr_sumT rfl) (by rfl) T.zSum (by decide +kernel) (pa_cons (pv 0) pa_nil)) (pe_glob (v := .int 60) rfl gt ⟨_, rfl⟩) (nomark _)) pss_never pss_nil)))), ?_⟩
    refine ⟨_, rfl, t, ls.map V.int, rfl, SqT.of ht, for_enumT (K := K) (a := t) (xs := ls.map V.int) (fun i σ H' => ∃ (u v : Option V), σ = [some (.ref t), u, v] ∧ Same H H')
      ⟨none, none, rfl, Same.refl H⟩ (fun i σ H' _ ⟨_, _, _, s1⟩ => SqT.of (s1 _ _ ht)) ?_ ?_⟩
    · rintro i x σ H' Tn hi ⟨u, v, rfl, s1⟩ hT
      obtain ⟨z, hz, rfl⟩ : ∃ z, ls[i]? = some z ∧ x = V.int z := by
        rw [List.getElem?_map] at hi
        cases e : ls[i]? with
        | none => rw [e] at hi; cases hi
        | some z => rw [e] at hi; exact ⟨z, rfl, (Option.some.inj hi).symm⟩
      have hg := g.pos z (List.mem_of_getElem? hz)
      refine ⟨Tn, _, rfl, SqT.of upd_same, rfl, _, _, rfl, _, _, rfl, rfl, ?_⟩
      refine ⟨_, rfl, V.int z, "int", true, false, 1, 60, rfl, .base (.int z), kii, kib, (fun q => tnf0 q), fun _ => ⟨z, rfl, ?_⟩⟩
      refine ⟨_, rfl, ?_⟩
      rw [decide_eq_true hg.1, decide_eq_true hg.2]
      exact iteF ⟨_, _, rfl, s1.trans (same_new hT)⟩
    · rintro σ H' ⟨u, v, rfl, s1⟩
      have ht' := s1 _ _ ht
      refine ⟨_, rfl, _, .inr (.inl ⟨_, SqT.of ht', rfl⟩), ?_⟩
      have e1 : (ls.map V.int).isEmpty = false := by
        have := g.ne
        cases ls with
        | nil => simp at this
        | cons a r => rfl
      rw [e1]
      refine iteF ?_
      refine ⟨_, rfl, t, _, rfl, .inr (SqT.of ht'), _, _, rfl, rfl, _, rfl, ?_⟩
      rw [List.length_map, decide_eq_false (by have := g.few; omega)]
      refine iteF ?_
      refine ⟨_, rfl, t, ls, rfl, SqT.of ht', _, _, rfl, rfl, _, rfl, ?_⟩
      rw [decide_eq_false (by have := g.sum; omega)]
      exact iteF (k _ s1)
end
end My
namespace My
open PySem PySem.Spec PyProof.Rows L2
section
variable {P : Program} {w : World} {K : PySem.W.Frag} {mg : Str → Option Value} {base : Heap} {C fWhole fBetw fDay fChk : Addr}
def spInitB (C : Addr) : Sp := fun vs H Q _ => ∃ (p t dx : Addr) (ls : List Int), vs = [.ref p, .ref t] ∧ H p = some (.ins C dx []) ∧ H t = some (.tup (ls.map V.int)) ∧ Good ls ∧
  ∀ H', (∀ b o, H b = some o → b ≠ p → H' b = some o) → H' p = some (.ins C dx (flds t ls.sum)) → Q .non H'
theorem scInit : FnScope ["self", "lengths"] ((["self"] : List Str) ++ (["lengths"] : List Str)) (defScope sInit) := ⟨rfl, rfl, rfl, by decide +kernel, rfl, by decide +kernel, by decide +kernel⟩
theorem ok_init {f : Addr} {fd fdW fdB fdC : FuncData} (F : Fun K "__init__" "Cycle.__init__" sInit f fd) (T : Txt K mg C fWhole fBetw fDay fChk) (FW : Fun K "is_whole" "is_whole" sWhole fWhole fdW) (bW : Binds K fdW ["value"] [])
    (FB : Fun K "is_between" "is_between" sBetw fBetw fdB) (bB : Binds K fdB ["value", "low", "high"] []) (FC : Fun K "check_lengths" "check_lengths" sChk fChk fdC) (bC : Binds K fdC ["lengths"] []) :
    FnR P w K mg base CX0 4 f (fun vs H Q E => ∃ ws rest, vs = ws ++ rest ∧ ws.length = (["self"] : List Str).length ∧ rest.length ≤ sizeLine ∧ ∀ p, H p = none → spInitB C (ws ++ [V.ref p]) (upd H p (.tup rest)) Q E) := by
  have GC : FnOk P w K mg base CX0 3 fChk fdC ["lengths"] spChk := ok_chk FC T FW bW FB bB
  obtain ⟨oc, od, kV, doc, pm, an, cdv, ct, osl, rfl, lk, hcd⟩ := F.ex
  refine StX.fn_star lk hcd scInit StX.cxUp_none (StX.bind_star1 (B := fun us => bindArgs (PySem.W.fnOf "__init__" "Cycle.__init__" (defArgs sInit) (defBody sInit) (defScope sInit) .none kV doc pm an cdv ct) ⟨us, []⟩) (p1 := "self") (pv := "lengths") (fun a => by rfl) fun a r rs => by rfl) fun A outer s H vs Q E hr h => ?_
  obtain ⟨p, t, dx, ls, rfl, hp, ht, g, k⟩ := h
  have nt : t ≠ p := ne_of ht hp (by intro z; cases z)
  refine ⟨_, PSs.nox (pss_cons (ps_expr (pe_call GC hr rfl T.gChk FC.kp bC .nil pass0 (pa_cons (pv 1) pa_nil))) (pss_cons (ps_fld (pv 0) (pv 1) rfl)
    (pss_one (ps_fld (pv 0) (pe_callB (cr_sumT rfl) (by rfl) T.zSum (by decide +kernel) (pa_cons (pv 1) pa_nil)) rfl)))), ?_⟩
  refine ⟨_, rfl, t, ls, rfl, ht, g, fun H1 s1 => ?_⟩
  refine ⟨_, rfl, _, rfl, p, C, dx, _, rfl, s1 _ _ hp, T.cl, T.nL, (by show 0 < 1000; decide), ?_⟩
  refine ⟨_, rfl, t, ls, rfl, SqT.of (by rw [upd_ne nt]; exact s1 _ _ ht), _, rfl, p, C, dx, _, rfl, upd_same, T.cl, T.nT, (by show 1 < 1000; decide), ?_⟩
  refine k _ (fun b o e hb => ?_) upd_same
  rw [upd_ne hb, upd_ne hb]
  exact s1 _ _ e
theorem ty_list {K : PySem.W.Frag} {H : Hp} {a : Addr} {xs : List V} (h : SqL K H a xs) : TyX K H (.ref a) (.type "list") := by
  rcases h with (h | ⟨o, h⟩) | ⟨o, its, n, hk, hc, _⟩
  · exact .base (.lst h)
  · exact .base (.frz h)
  · exact .kList hk hc
/-- Cycle.of(lengths) -/
def spOf (K : PySem.W.Frag) (C : Addr) : Sp := fun vs H Q _ => ∃ (a : Addr) (ls : List Int), vs = [.ref C, .ref a] ∧ SqL K H a (ls.map V.int) ∧ Good ls ∧ ∀ x H', Same H H' → H x = none → CycAt C H' x ls → Q (.ref x) H'
theorem scOf : FnScope ["cls", "lengths"] ["cls", "lengths"] (defScope sOf) := ⟨rfl, rfl, rfl, by decide +kernel, rfl, by decide +kernel, by decide +kernel⟩
theorem ok_of {f fI : Addr} {fd fdI fdW fdB fdC : FuncData} (F : Fun K "of" "Cycle.of" sOf f fd) (T : Txt K mg C fWhole fBetw fDay fChk) (M : Mk K C fI) (FI : Fun K "__init__" "Cycle.__init__" sInit fI fdI) (FW : Fun K "is_whole" "is_whole" sWhole fWhole fdW) (bW : Binds K fdW ["value"] [])
    (FB : Fun K "is_between" "is_between" sBetw fBetw fdB) (bB : Binds K fdB ["value", "low", "high"] []) (FC : Fun K "check_lengths" "check_lengths" sChk fChk fdC) (bC : Binds K fdC ["lengths"] []) : FnOk P w K mg base CX0 6 f fd ["cls", "lengths"] (spOf K C) := by
  have GI : FnR P w K mg base CX0 4 fI _ := ok_init (C := C) FI T FW bW FB bB FC bC
  refine F.ok scOf (fun vs H Q E h => ?_) (fun cdv A outer s H vs Q E hr h => ?_)
  · obtain ⟨a, ls, rfl, _⟩ := h
    rfl
  · obtain ⟨a, ls, rfl, ha, g, k⟩ := h
    refine ⟨_, pss_cons (ps_if (pt_not (pt_val (pe_callB call_isiT (by rfl) T.zIsi (by decide +kernel) (pa_cons (pv 1) (pa_cons (pe_tup (pa_cons (pe_bltn (v := .ty "list") (by rfl) T.zList (by decide +kernel) rfl) (pa_cons (pe_bltn (v := .ty "tuple") (by rfl) T.zTuple (by decide +kernel) rfl) pa_nil))) pa_nil))))) pss_never pss_nil)
      (pss_one (ps_ret (pe_makeStar (i := 0) M GI hr rfl (.inl rfl) pass0 (pv 1)))), ?_⟩
    refine ⟨_, rfl, (by show 2 ≤ sizeLine; decide), fun tp htp => ?_⟩
    have s0 : Same H (upd H tp (.tup [.ty "list", .ty "tuple"])) := same_new htp
    refine ⟨_, tp, _, _, [.type "list", .type "tuple"], true, rfl, upd_same, .cons (.ty _) (.cons (.ty _) .nil), ty_list (s0.seq ha), kitAny_cons (b := true) (kit_ty (by decide +kernel)) (fun q => nomatch q) (fun _ => rfl), _, rfl, ?_⟩
    refine iteF ?_
    refine ⟨rfl, _, rfl, a, _, rfl, .inr (s0.seq ha), fun x dx nx ndx nex => ?_⟩
    refine ⟨[.ref x], ls.map V.int, rfl, rfl, ?_, fun t nt => ?_⟩
    · rw [List.length_map]
      have := g.few
      exact Nat.le_trans this (by decide)
    have nxt : x ≠ t := fun z => by
      rw [← z, upd_same] at nt
      cases nt
    have ndt : dx ≠ t := fun z => by
      rw [← z, upd_ne nex, upd_same] at nt
      cases nt
    have s1 : Same (upd H tp (.tup [.ty "list", .ty "tuple"])) (upd (upd (upd H tp (.tup [.ty "list", .ty "tuple"])) dx (.own x)) x (.ins C dx [])) := fun b o e => by
      rw [upd_ne (ne_of_none e nx), upd_ne (ne_of_none e ndx)]
      exact e
    have hx : (upd (upd (upd (upd H tp (.tup [.ty "list", .ty "tuple"])) dx (.own x)) x (.ins C dx [])) t (.tup (ls.map V.int))) x = some (.ins C dx []) := by
      rw [upd_ne nxt, upd_same]
    refine ⟨x, t, dx, ls, rfl, hx, upd_same, g, fun H' keep hx' => ⟨rfl, ?_⟩⟩
    refine k x H' (fun b o e => ?_) (s0.free nx) ⟨⟨dx, t, hx', keep _ _ upd_same (Ne.symm nxt)⟩, g⟩
    have e1 := s1 _ _ (s0 _ _ e)
    exact keep _ _ ((same_new nt) _ _ e1) (ne_of_none (s0 _ _ e) nx)
def spGetL (C : Addr) : Sp := fun vs H Q _ => ∃ (p : Addr) (ls : List Int), vs = [.ref p] ∧ CycAt C H p ls ∧ ∀ t, H t = some (.tup (ls.map V.int)) → Q (.ref t) H
theorem scLengths : FnScope ["self"] ["self"] (defScope sLengths) := ⟨rfl, rfl, rfl, by decide +kernel, rfl, by decide +kernel, by decide +kernel⟩
theorem ok_lengths {f : Addr} {fd : FuncData} (F : Fun K "lengths" "Cycle.lengths" sLengths f fd) (T : Txt K mg C fWhole fBetw fDay fChk) : FnOk P w K mg base CX0 1 f fd ["self"] (spGetL C) := by
  refine F.ok scLengths (fun vs H Q E h => ?_) (fun cdv A outer s H vs Q E hr h => ?_)
  · obtain ⟨p, ls, rfl, _⟩ := h
    rfl
  · obtain ⟨p, ls, rfl, ⟨⟨dx, t, h1, h2⟩, g⟩, k⟩ := h
    refine ⟨_, pss_one (ps_ret (pe_fld (pv 0) rfl)), ?_⟩
    exact ⟨_, rfl, p, C, dx, _, _, rfl, h1, T.cl, T.nL, flds_l _ _, k t h2⟩
def spSpot (C : Addr) : Sp := fun vs H Q _ => ∃ (p : Addr) (ls : List Int) (d : Int), vs = [.ref p, .int d] ∧ CycAt C H p ls ∧ ∀ t H', Same H H' → H' t = some (.tup [.int (ixD ls d), .int (plcD ls d)]) → Q (.ref t) H'
theorem scSpot : FnScope ["self", "day", "place", "index"] ["self", "day"] (defScope sSpot) := ⟨rfl, rfl, rfl, by decide +kernel, rfl, by decide +kernel, by decide +kernel⟩
theorem ok_spot {f : Addr} {fd : FuncData} (F : Fun K "spot" "Cycle.spot" sSpot f fd) (T : Txt K mg C fWhole fBetw fDay fChk) : FnOk P w K mg base CX0 1 f fd ["self", "day"] (spSpot C) := by
  refine F.ok scSpot (fun vs H Q E h => ?_) (fun cdv A outer s H vs Q E hr h => ?_)
  · obtain ⟨p, ls, d, rfl, _⟩ := h
    rfl
  · obtain ⟨p, ls, d, rfl, ⟨⟨dx, t, h1, h2⟩, g⟩, k⟩ := h
    have o := g.ok
    refine ⟨_, pss_cons (ps_set (i := 2) scSpot.nd rfl (Or.inl rfl) (pe_op op_mod (pv 1) (pe_fld (pv 0) rfl)))
      (pss_cons (ps_set (i := 3) scSpot.nd rfl (Or.inl rfl) pe_int)
      (pss_cons (ps_while PassesOwn.never (pt_cmpR op_ge (pv 2) (pe_ix ix_tup (pe_fld (pv 0) rfl) (pv 3) (fun _ _ => rfl)) (nomark _))
        (pss_cons (ps_set (i := 2) scSpot.nd rfl (Or.inl rfl) (pe_op op_sub (pv 2) (pe_ix ix_tup (pe_fld (pv 0) rfl) (pv 3) (fun _ _ => rfl))))
        (pss_one (ps_set (i := 3) scSpot.nd rfl (Or.inl rfl) (pe_op op_add (pv 3) pe_int)))))
      (pss_one (ps_ret (pe_tup (pa_cons (pv 3) (pa_cons (pv 2) pa_nil))))))), ?_⟩
    refine ⟨_, rfl, _, rfl, p, C, dx, _, _, rfl, h1, T.cl, T.nT, flds_t _ _, _, _, rfl, rfl, o.sum, ?_⟩
    refine while_by (fun σ H' => H' = H ∧ ∃ i : Nat, i ≤ ixD ls d ∧ σ = [some (.ref p), some (.int d), some (.int (d % ls.sum - (ls.take i).sum)), some (.int i)])
      (fun σ _ => match σ with | [_, _, _, some (.int i)] => (ixD ls d - i.toNat) | _ => 0) ⟨rfl, 0, Nat.zero_le _, by simp; rfl⟩ ?_ ?_
    · rintro σ H' ⟨rfl, i, hi, rfl⟩
      obtain ⟨x1, x2⟩ := ix_lt o d
      obtain ⟨l, e⟩ : ∃ l, ls[i]? = some l := ⟨_, List.getElem?_eq_getElem (by omega)⟩
      have em : (ls.map V.int)[i]? = some (V.int l) := by rw [List.getElem?_map, e]; rfl
      have st := spot_step o hi e
      refine ⟨_, rfl, _, rfl, p, C, dx, _, _, rfl, h1, T.cl, T.nL, flds_l _ _, _, rfl, t, _, _, _, rfl, rfl, SqT.of h2, atI_nat em, _, _, rfl, rfl, _, rfl, ?_⟩
      by_cases c : l ≤ d % ls.sum - (ls.take i).sum
      · have hlt := st.mp c
        rw [decide_eq_true c]
        refine iteT ?_
        refine ⟨_, rfl, _, rfl, p, C, dx, _, _, rfl, h1, T.cl, T.nL, flds_l _ _, _, rfl, t, _, _, _, rfl, rfl, SqT.of h2, atI_nat em, _, _, rfl, rfl, ?_⟩
        refine ⟨_, rfl, _, _, rfl, rfl, ⟨rfl, i + 1, hlt, ?_⟩, ?_⟩
        · rw [take_next e]
          have e1 : d % ls.sum - (ls.take i).sum - l = d % ls.sum - ((ls.take i).sum + l) := by omega
          have e2 : ((i + 1 : Nat) : Int) = (i : Int) + 1 := by omega
          rw [e2, ← e1]
          rfl
        · show ixD ls d - ((i : Int) + 1).toNat < ixD ls d - (i : Int).toNat
          omega
      · have hix : i = ixD ls d := by
          have : ¬ i < ixD ls d := fun z => c (st.mpr z)
          omega
        rw [decide_eq_false c]
        refine iteF ?_
        refine ⟨_, rfl, _, rfl, (by show 2 ≤ sizeLine; decide), fun q hq => ?_⟩
        refine k q _ (same_new hq) ?_
        rw [upd_same, hix]
        rfl
    · rintro σ H' Q1 Q2 m ⟨v2, e2, v0, e0, a, C', dx', fs, v', q1, q2, q3, q4, q5, v3, e3, pp, xs, ii, vv, r1, r2, r3, r4, x, y, z1, z2, kk, z3, z4⟩
      exact ⟨v2, e2, v0, e0, a, C', dx', fs, v', q1, q2, q3, q4, q5, v3, e3, pp, xs, ii, vv, r1, r2, r3, r4, x, y, z1, z2, kk, z3, m _ _ z4⟩
end
end My
namespace My
open PySem PySem.Spec PyProof.Rows L2
section
variable {P : Program} {w : World} {K : PySem.W.Frag} {mg : Str → Option Value} {base : Heap} {C fWhole fBetw fDay fChk fSpot fEnds : Addr} {fdS fdD : FuncData}
def spEnds (C : Addr) : Sp := fun vs H Q _ => ∃ (p : Addr) (ls : List Int) (d : Int), vs = [.ref p, .int d] ∧ CycAt C H p ls ∧ ∀ t H', Same H H' → H' t = some (.tup [.int (fstD ls d), .int (fstD ls d + lenD ls d - 1)]) → Q (.ref t) H'
theorem scEnds : FnScope ["self", "day", "index", "place"] ["self", "day"] (defScope sEnds) := ⟨rfl, rfl, rfl, by decide +kernel, rfl, by decide +kernel, by decide +kernel⟩
/-- what a method of Cycle needs of the others: spot is a method that keeps its promise -/
structure SpotM (P : Program) (w : World) (K : PySem.W.Frag) (mg : Str → Option Value) (base : Heap) (C fSpot : Addr) (fd : FuncData) : Prop where
  F : FnOk P w K mg base CX0 1 fSpot fd ["self", "day"] (spSpot C)
  b : Binds K fd ["self", "day"] []
  m : Meth K C "spot" fSpot
structure EndsM (P : Program) (w : World) (K : PySem.W.Frag) (mg : Str → Option Value) (base : Heap) (C fEnds : Addr) (fd : FuncData) : Prop where
  F : FnOk P w K mg base CX0 2 fEnds fd ["self", "day"] (spEnds C)
  b : Binds K fd ["self", "day"] []
  m : Meth K C "ends" fEnds
structure DayM (P : Program) (w : World) (K : PySem.W.Frag) (mg : Str → Option Value) (base : Heap) (fDay : Addr) (fd : FuncData) : Prop where
  F : FnOk P w K mg base CX0 3 fDay fd ["value"] (spDay K)
  b : Binds K fd ["value"] []
  kp : PySem.W.keepIn K (.ref fDay) = true
theorem ok_ends {f : Addr} {fd : FuncData} (F : Fun K "ends" "Cycle.ends" sEnds f fd) (T : Txt K mg C fWhole fBetw fDay fChk) (S : SpotM P w K mg base C fSpot fdS) : FnOk P w K mg base CX0 2 f fd ["self", "day"] (spEnds C) := by
  refine F.ok scEnds (fun vs H Q E h => ?_) (fun cdv A outer s H vs Q E hr h => ?_)
  · obtain ⟨p, ls, d, rfl, _⟩ := h
    rfl
  · obtain ⟨p, ls, d, rfl, c, k⟩ := h
    obtain ⟨dx, t, h1, h2⟩ := c.ob
    have o := c.ok.ok
    refine ⟨_, pss_cons (ps_asg (pe_meth (pv 0) T.cl S.m S.F hr S.b .nil pass0 (pa_cons (pv 1) pa_nil)) (pg_tup rfl (pgs_cons (pg_name (i := 2) scEnds.nd rfl (.inl rfl)) (pgs_cons (pg_name (i := 3) scEnds.nd rfl (.inl rfl)) pgs_nil))))
      (pss_one (ps_ret (pe_tup (pa_cons (pe_op op_sub (pv 1) (pv 3)) (pa_cons (pe_op op_sub (pe_op op_add (pe_op op_sub (pv 1) (pv 3)) (pe_ix ix_tup (pe_fld (pv 0) rfl) (pv 2) (fun _ _ => rfl))) pe_int) pa_nil))))), ?_⟩
    refine ⟨_, rfl, p, dx, _, rfl, h1, flds_no _ _ (by decide +kernel) (by decide +kernel), _, rfl, p, ls, d, rfl, c, fun q H1 s1 hq => ?_⟩
    refine ⟨q, _, rfl, SqT.of hq, rfl, _, _, rfl, _, _, rfl, rfl, ?_⟩
    obtain ⟨x1, x2⟩ := ix_lt o d
    have em : (ls.map V.int)[ixD ls d]? = some (V.int (lenD ls d)) := by rw [List.getElem?_map, x2]; rfl
    refine ⟨_, rfl, _, rfl, _, _, rfl, rfl, _, rfl, _, rfl, _, _, rfl, rfl, _, rfl, p, C, dx, _, _, rfl, s1 _ _ h1, T.cl, T.nL, flds_l _ _, _, rfl, t, _, _, _, rfl, rfl, SqT.of (s1 _ _ h2), atI_nat em, _, _, rfl, rfl, _, _, rfl, rfl, (by show 2 ≤ sizeLine; decide), fun r hr' => ?_⟩
    refine k r _ (s1.trans (same_new hr')) ?_
    rw [upd_same]
    rfl
end
end My
namespace My
open PySem PySem.Spec PyProof.Rows L2
abbrev sPen : Stmt := top 40
abbrev sDraw : Stmt := top 41
abbrev sPick : Stmt := top 42
structure PenAt (H : Hp) (p l : Addr) (N : Int) : Prop where
  ex : ∃ (ms : List Int) (n c : Int), H p = some (.lst [.ref l, .int n, .int c]) ∧ H l = some (.lst (ms.map V.int)) ∧ ms.length ≤ 63 ∧ 0 ≤ n ∧ n ≤ N ∧ 0 ≤ c
theorem PenAt.lst {H : Hp} {p l : Addr} {N : Int} (h : PenAt H p l N) : ∃ xs, H p = some (.lst xs) := let ⟨_, _, _, e, _⟩ := h.ex; ⟨_, e⟩
theorem PenAt.same {H H' : Hp} {p l : Addr} {N : Int} (h : PenAt H p l N) (s : Same H H') : PenAt H' p l N := by
  obtain ⟨ms, n, c, e1, e2, z⟩ := h.ex
  exact ⟨ms, n, c, s _ _ e1, s _ _ e2, z⟩
theorem PenAt.le {H : Hp} {p l : Addr} {N M : Int} (h : PenAt H p l N) (z : N ≤ M) : PenAt H p l M := by
  obtain ⟨ms, n, c, e1, e2, h1, h2, h3, h4⟩ := h.ex
  exact ⟨ms, n, c, e1, e2, h1, h2, by omega, h4⟩
/-- a store to another list that was not there when the pen stood -/
theorem PenAt.upd {H H0 : Hp} {p l q : Addr} {N M : Int} {o : HO} (h : PenAt H p l N) (h0 : PenAt H0 p l M) (hq : H0 q = none) : PenAt (upd H q o) p l N := by
  obtain ⟨ms, n, c, e1, e2, z⟩ := h.ex
  obtain ⟨_, _, _, f1, f2, _⟩ := h0.ex
  exact ⟨ms, n, c, by rw [upd_ne (ne_of_none f1 hq)]; exact e1, by rw [upd_ne (ne_of_none f2 hq)]; exact e2, z⟩
theorem pen_ne {H : Hp} {p l : Addr} {ms : List Int} {n c : Int} (h1 : H p = some (.lst [.ref l, .int n, .int c])) (h2 : H l = some (.lst (ms.map V.int))) : l ≠ p := fun z => by
  subst z
  rw [h1] at h2
  have e := HO.lst.inj (Option.some.inj h2)
  cases ms with
  | nil => cases e
  | cons a r => cases e
theorem dp_ints {K : PySem.W.Frag} {H : Hp} : ∀ ns : List Int, DpAll K H (ns.map V.int) (ns.map PyData.int)
  | [] => .nil
  | a :: r => .cons (.int a) (dp_ints r)
section
variable {P : Program} {w : World} {K : PySem.W.Frag} {mg : Str → Option Value} {base : Heap} {C fWhole fBetw fDay fChk fDraw : Addr} {fdD : FuncData}
def spPen (K : PySem.W.Frag) : Sp := fun vs H Q _ => ∃ (a : Addr) (ns : List Int), vs = [.ref a] ∧ SqL K H a (ns.map V.int) ∧ ns.length ≤ 63 ∧ ∀ p l H', Same H H' → PenAt H' p l 0 → Q (.ref p) H'
theorem scPen : FnScope ["_law_script"] ["_law_script"] (defScope sPen) := ⟨rfl, rfl, rfl, by decide +kernel, rfl, by decide +kernel, by decide +kernel⟩
theorem ok_pen {f : Addr} {fd : FuncData} (F : Fun K "_law_pen" "_law_pen" sPen f fd) (T : Txt K mg C fWhole fBetw fDay fChk) : FnOk P w K mg base CX0 1 f fd ["_law_script"] (spPen K) := by
  refine F.ok scPen (fun vs H Q E h => ?_) (fun cdv A outer s H vs Q E hr h => ?_)
  · obtain ⟨a, ns, rfl, _⟩ := h
    rfl
  · obtain ⟨a, ns, rfl, ha, hl, k⟩ := h
    refine ⟨_, pss_one (ps_ret (pe_lst (pa_cons (pe_callTy call_list_of (by rfl) T.zList (by decide +kernel) (pa_cons (pe_slice sl_list (pv 0) po_none (po_some pe_int)) pa_nil)) (pa_cons pe_int (pa_cons pe_int pa_nil))))), ?_⟩
    refine ⟨_, rfl, _, rfl, a, _, rfl, ha, fun q hq => ?_⟩
    refine ⟨q, _, rfl, .inl (SqL.of upd_same), fun l hl' => ⟨(by show 3 ≤ sizeLine; decide), fun p hp => ?_⟩⟩
    refine k p l _ ((same_new hq).trans ((same_new hl').trans (same_new hp))) ?_
    obtain ⟨x, y, e⟩ : ∃ x y, cutV (ns.map V.int) none (some 63) = ((ns.drop x).take y).map V.int := ⟨HT.sIx (ns.map V.int).length 0 none, HT.sIx (ns.map V.int).length (ns.map V.int).length (some 63) - HT.sIx (ns.map V.int).length 0 none, by unfold cutV; rw [List.map_take, List.map_drop]⟩
    refine ⟨(ns.drop x).take y, 0, 0, upd_same, ?_, ?_, by omega, by omega, by omega⟩
    · rw [upd_ne (ne_of_none upd_same hp), upd_same, e]
    · rw [List.length_take, List.length_drop]; omega
/-- a draw: an int below many -/
def spDraw : Sp := fun vs H Q _ => ∃ (p l : Addr) (N many : Int), vs = [.ref p, .int many] ∧ PenAt H p l N ∧ 0 < many ∧ many.natAbs.log2 < 9000 ∧ N ≤ 100000 ∧
  ∀ r H', 0 ≤ r → r < many → SameBut p H H' → PenAt H' p l (N + 1) → Q (.int r) H'
theorem scDraw : FnScope ["_law_pen_here", "_law_many", "_law_digit", "_law_at", "_law_cell", "_law_great", "_law_mixed"] ["_law_pen_here", "_law_many"] (defScope sDraw) := ⟨rfl, rfl, rfl, by decide +kernel, rfl, by decide +kernel, by decide +kernel⟩
theorem small_pow {z : Int} (h0 : 0 ≤ z) (h : z < 18446744073709551616) : CPow z 5 ∧ CPow z 3 := by
  have e : (2 : Nat) ^ 64 = 18446744073709551616 := by decide
  have hz : z.natAbs < 2 ^ 64 := by rw [e]; omega
  exact ⟨⟨by decide, by decide, hz⟩, ⟨by decide, by decide, hz⟩⟩
theorem small_mul {i j : Int} (h0 : -18446744073709551616 < i) (h : i < 18446744073709551616) : CMul i j := by
  have e : (2 : Int) ^ 64 = 18446744073709551616 := by decide
  exact .inl ⟨by rw [e]; exact h0, by rw [e]; exact h⟩
set_option maxHeartbeats 8000000 in
theorem ok_draw {f : Addr} {fd : FuncData} (F : Fun K "_law_draw" "_law_draw" sDraw f fd) (T : Txt K mg C fWhole fBetw fDay fChk) : FnOk P w K mg base CX0 1 f fd ["_law_pen_here", "_law_many"] spDraw := by
  refine F.ok scDraw (fun vs H Q E h => ?_) (fun cdv A outer s H vs Q E hr h => ?_)
  · obtain ⟨p, l, N, many, rfl, _⟩ := h
    rfl
  · obtain ⟨p, l, N, many, rfl, pen, hm, hlog, hN, k⟩ := h
    obtain ⟨ms, n, c, h1, h2, hms, hn0, hnN, hc⟩ := pen.ex
    have nlp := pen_ne h1 h2
    have z0 : ([V.ref l, V.int n, V.int c] : List V)[0]? = some (V.ref l) := rfl
    have z1 : ([V.ref l, V.int n, V.int c] : List V)[1]? = some (V.int n) := rfl
    have z2 : ([V.ref l, V.int n, V.int c] : List V)[2]? = some (V.int c) := rfl
    refine ⟨_, pss_cons (ps_if (pt_cmpR op_gt (pe_ix ix_list (pv 0) pe_int (fun _ _ => rfl)) pe_int (nomark _))
        (pss_cons (ps_set (i := 2) scDraw.nd rfl (Or.inl rfl) (pe_op op_mod (pe_callTy call_int1 (by rfl) T.zInt (by decide +kernel) (pa_cons (pe_ix ix_list (pv 0) pe_int (fun _ _ => rfl)) pa_nil)) (pv 1)))
        (pss_cons (ps_asg (pe_op op_fdivW (pe_callTy call_int1 (by rfl) T.zInt (by decide +kernel) (pa_cons (pe_ix ix_list (pv 0) pe_int (fun _ _ => rfl)) pa_nil)) (pv 1)) (pg_sub (pv 0) pe_int set_list))
        (pss_one (ps_ret (pv 2))))) pss_nil)
      (pss_cons (ps_set (i := 3) scDraw.nd rfl (Or.inl rfl) (pe_ix ix_list (pv 0) pe_int (fun _ _ => rfl)))
      (pss_cons (ps_asg (pe_op op_add (pv 3) pe_int) (pg_sub (pv 0) pe_int set_list))
      (pss_cons (ps_set (i := 4) scDraw.nd rfl (Or.inl rfl) (pe_op op_add (pe_op op_mul pe_int (pv 3)) pe_int))
      (pss_cons (ps_if (pt_cmpR (op_neD hr.units) (pe_ix ix_list (pv 0) pe_int (fun _ _ => rfl)) (pe_lst pa_nil) (nomark _))
        (pss_one (ps_set (i := 4) scDraw.nd rfl (Or.inl rfl) (pe_ix ix_list (pe_ix ix_list (pv 0) pe_int (fun _ _ => rfl))
          (pe_op op_mod (pe_callTy call_int1 (by rfl) T.zInt (by decide +kernel) (pa_cons (pv 3) pa_nil)) (pe_callB call_len_seq (by rfl) T.zLen PySem.boot_len (pa_cons (pe_ix ix_list (pv 0) pe_int (fun _ _ => rfl)) pa_nil))) (fun _ _ => rfl)))) pss_nil)
      (pss_cons (ps_if (PW.pt (pw_and (pt_cmpR op_lt (pv 3) (pe_callB call_len_seq (by rfl) T.zLen PySem.boot_len (pa_cons (pe_ix ix_list (pv 0) pe_int (fun _ _ => rfl)) pa_nil)) (nomark _))
          (pw_and1 (pt_cmpR op_ge (pe_callB call_abs (by rfl) T.zAbs (by decide +kernel) (pa_cons (pv 4) pa_nil)) (pe_op op_pow pe_int pe_int) (nomark _)))))
        (pss_cons (ps_set (i := 5) scDraw.nd rfl (Or.inl rfl) (pe_op op_add (pe_op op_mul pe_int (pe_op op_sub (pe_callB call_abs (by rfl) T.zAbs (by decide +kernel) (pa_cons (pv 4) pa_nil)) (pe_op op_pow pe_int pe_int)))
          (pe_callTy call_int1 (by rfl) T.zInt (by decide +kernel) (pa_cons (pe_cmpR op_lt (pv 4) pe_int (nomark _)) pa_nil))))
        (pss_cons (ps_asg (pe_op op_fdivW (pe_callTy call_int1 (by rfl) T.zInt (by decide +kernel) (pa_cons (pv 5) pa_nil)) (pv 1)) (pg_sub (pv 0) pe_int set_list))
        (pss_one (ps_ret (pe_op op_mod (pe_callTy call_int1 (by rfl) T.zInt (by decide +kernel) (pa_cons (pv 5) pa_nil)) (pv 1)))))) pss_nil)
      (pss_cons (ps_set (i := 6) scDraw.nd rfl (Or.inl rfl) (pe_op op_mod (pe_callTy call_int1 (by rfl) T.zInt (by decide +kernel) (pa_cons (pe_op op_pow (pe_op op_add (pe_op op_add (pe_op op_mod (pe_callTy call_int1 (by rfl) T.zInt (by decide +kernel) (pa_cons (pv 4) pa_nil)) pe_int) (pe_op op_mul pe_int (pv 3))) pe_int) pe_int) pa_nil)) pe_int))
      (pss_cons (ps_set (i := 6) scDraw.nd rfl (Or.inl rfl) (pe_op op_mod (pe_callTy call_int1 (by rfl) T.zInt (by decide +kernel) (pa_cons (pe_op op_pow (pe_op op_add (pe_op op_add (pe_op op_mul (pv 6) (pe_op op_add (pe_op op_mul pe_int (pv 3)) pe_int))
        (pe_op op_mul (pe_op op_mul pe_int (pv 3)) (pv 3))) pe_int) pe_int) pa_nil)) pe_int))
      (pss_one (ps_ret (pe_op op_mod (pe_callTy call_int1 (by rfl) T.zInt (by decide +kernel) (pa_cons (pe_op op_fdiv (pv 6) pe_int) pa_nil)) (pv 1)))))))))))
      , ?_⟩
    refine ⟨_, rfl, p, _, _, _, rfl, rfl, SqL.of h1, atI_nat (j := 2) z2, _, _, rfl, rfl, _, rfl, ?_⟩
    by_cases hcp : 0 < c
    · rw [decide_eq_true hcp]
      refine iteT ?_
      refine ⟨_, rfl, p, _, _, _, rfl, rfl, SqL.of h1, atI_nat (j := 2) z2, .inl ⟨_, rfl, _, rfl, _, _, rfl, rfl, hm, ?_⟩⟩
      refine ⟨_, rfl, p, _, _, _, rfl, rfl, SqL.of h1, atI_nat (j := 2) z2, .inl ⟨_, rfl, _, rfl, _, _, rfl, rfl, ⟨hm, hlog⟩, ?_⟩⟩
      refine ⟨_, rfl, p, _, _, 2, rfl, rfl, h1, rfl, _, rfl, ?_⟩
      refine k _ _ (Int.emod_nonneg _ (by omega)) (Int.emod_lt_of_pos _ hm) (fun b o nb e => by rw [upd_ne nb]; exact e) ⟨ms, n, c / many, upd_same, by rw [upd_ne nlp]; exact h2, hms, hn0, by omega, Int.ediv_nonneg hc (by omega)⟩
    · rw [decide_eq_false hcp]
      refine iteF ?_
      have hc0 : c = 0 := by omega
      subst hc0
      refine ⟨_, rfl, p, _, _, _, rfl, rfl, SqL.of h1, atI_nat (j := 1) z1, ?_⟩
      refine ⟨_, rfl, _, _, rfl, rfl, _, rfl, p, _, _, 1, rfl, rfl, h1, rfl, ?_⟩
      have g1 : (upd H p (.lst ([V.ref l, V.int n, V.int 0].set 1 (V.int (n + 1))))) p = some (.lst [V.ref l, V.int (n + 1), V.int 0]) := upd_same
      have g2 : (upd H p (.lst ([V.ref l, V.int n, V.int 0].set 1 (V.int (n + 1))))) l = some (.lst (ms.map V.int)) := by rw [upd_ne nlp]; exact h2
      have sb : SameBut p H (upd H p (.lst ([V.ref l, V.int n, V.int 0].set 1 (V.int (n + 1))))) := fun b o nb e => by rw [upd_ne nb]; exact e
      generalize (upd H p (.lst ([V.ref l, V.int n, V.int 0].set 1 (V.int (n + 1))))) = H1 at g1 g2 sb ⊢
      have y0 : ([V.ref l, V.int (n + 1), V.int 0] : List V)[0]? = some (V.ref l) := rfl
      refine ⟨_, rfl, _, _, rfl, rfl, small_mul (by omega) (by omega), _, _, rfl, rfl, ?_⟩
      refine ⟨_, rfl, p, _, _, _, rfl, rfl, SqL.of g1, atI_nat (j := 0) y0, Nat.zero_le _, fun q hq => ?_⟩
      have s2 : Same H1 (upd H1 q (.lst [])) := same_new hq
      refine ⟨_, _, .lst (SqL.of (s2 _ _ g2)) (dp_ints ms), .lst (SqL.of upd_same) .nil, PySem.W.shaped_ints ms, PySem.W.shaped_ints [], _, rfl, ?_⟩
      have sb2 : SameBut p H (upd H1 q (.lst [])) := sb.trans (Same.but s2)
      have k1 := s2 _ _ g1
      have k2 := s2 _ _ g2
      generalize upd H1 q (.lst []) = H2 at sb2 k1 k2 ⊢
      have dml : ∀ i : Int, 0 ≤ i → i < ms.length → ∃ z : Int, atI (ms.map V.int) i = some (V.int z) := fun i h0 h1 => by
        refine ⟨ms[i.toNat]'(by omega), at_of (j := i.toNat) (by omega) ?_⟩
        rw [List.getElem?_map, List.getElem?_eq_getElem (by omega)]
        rfl
      refine ite2 (fun hk => ?_) (fun hk => ?_)
      have hne : 0 < ms.length := by
        cases ms with
        | nil => exact absurd hk (by decide)
        | cons a r => simp
      have i0 : 0 ≤ n % (ms.length : Int) := Int.emod_nonneg _ (by omega)
      have i1 : n % (ms.length : Int) < ms.length := Int.emod_lt_of_pos _ (by omega)
      obtain ⟨z, hz⟩ := dml _ i0 i1
      have hz' : atI (ms.map V.int) (n % ((ms.map V.int).length : Int)) = some (V.int z) := by rw [List.length_map]; exact hz
      have hp' : (0 : Int) < ((ms.map V.int).length : Int) := by rw [List.length_map]; omega
      refine ⟨_, rfl, p, _, _, _, rfl, rfl, SqL.of k1, atI_nat (j := 0) y0, _, rfl, .inl ⟨_, rfl, _, rfl, p, _, _, _, rfl, rfl, SqL.of k1, atI_nat (j := 0) y0, l, _, rfl, .inl (SqL.of k2), _, _, rfl, rfl, hp', l, _, _, _, rfl, rfl, SqL.of k2, hz', ?_⟩⟩
      clear hz hz'
      rotate_left
      dsimp only
      generalize 93358 * n + 2858 = z
      all_goals
        -- at < len(cells) and abs(cell) >= 10 ** 18
        refine ⟨_, rfl, _, rfl, p, _, _, _, rfl, rfl, SqL.of k1, atI_nat (j := 0) y0, l, _, rfl, .inl (SqL.of k2), _, _, rfl, rfl, _, rfl, ?_⟩
        refine ite2 (fun h6 => ?_) (fun h6 => ?_)
        refine ⟨_, rfl, _, rfl, _, _, rfl, rfl, ⟨by decide, by decide, by decide⟩, _, _, rfl, rfl, _, rfl, ?_⟩
        refine ite2 (fun h7 => ?_) (fun h7 => ?_)
        have h8 := of_decide_eq_true h7
        have e18 : (10 : Int) ^ (18 : Int).toNat = 1000000000000000000 := by decide
        rw [e18] at h8
        refine ⟨_, rfl, _, rfl, _, _, rfl, rfl, ⟨by decide, by decide, by decide⟩, _, _, rfl, rfl, _, _, rfl, rfl, small_mul (by decide) (by decide), _, rfl, _, _, rfl, rfl, .inr ⟨_, rfl, _, _, rfl, rfl, ?_⟩⟩
        rw [e18]
        have hg : 0 ≤ 2 * ((if z < 0 then -z else z) - 1000000000000000000) + (if decide (z < 0) = true then 1 else 0) := by
          split <;> omega
        refine ⟨_, rfl, .inl ⟨_, rfl, _, rfl, _, _, rfl, rfl, ⟨hm, hlog⟩, _, rfl, p, _, _, 2, rfl, rfl, k1, rfl, ?_⟩⟩
        refine ⟨_, rfl, .inl ⟨_, rfl, _, rfl, _, _, rfl, rfl, hm, ?_⟩⟩
        exact k _ _ (Int.emod_nonneg _ (by omega)) (Int.emod_lt_of_pos _ hm) (sb2.trans fun b o nb e => by rw [upd_ne nb]; exact e) ⟨ms, n + 1, _, upd_same, by rw [upd_ne nlp]; exact k2, hms, by omega, by omega, Int.ediv_nonneg hg (by omega)⟩
        all_goals
          have pen2 : PenAt H2 p l (N + 1) := ⟨ms, n + 1, 0, k1, k2, hms, by omega, by omega, by omega⟩
          have q1 : 0 ≤ z % 2147483549 := Int.emod_nonneg _ (by decide)
          have q2 : z % 2147483549 < 2147483549 := Int.emod_lt_of_pos _ (by decide)
          refine ⟨_, rfl, .inl ⟨_, rfl, _, _, rfl, rfl, (by show (0 : Int) < 2147483549; decide), _, rfl, _, _, rfl, rfl, small_mul (by decide) (by decide), _, _, rfl, rfl, _, _, rfl, rfl, _, _, rfl, rfl, (small_pow (by omega) (by omega)).1, .inl ⟨_, rfl, _, _, rfl, rfl, (by show (0 : Int) < 2147483629; decide), ?_⟩⟩⟩
          have q3 : 0 ≤ (z % 2147483549 + 86546 * n + 2858) ^ (5 : Int).toNat % 2147483629 := Int.emod_nonneg _ (by decide)
          have q4 : (z % 2147483549 + 86546 * n + 2858) ^ (5 : Int).toNat % 2147483629 < 2147483629 := Int.emod_lt_of_pos _ (by decide)
          dsimp only
          generalize (z % 2147483549 + 86546 * n + 2858) ^ (5 : Int).toNat % 2147483629 = m1 at q3 q4
          have b1 : m1 * (2 * n + 737) ≤ 2147483648 * (2 * 100000 + 737) := Int.mul_le_mul (by omega) (by omega) (by omega) (by omega)
          have b2 : 0 ≤ m1 * (2 * n + 737) := Int.mul_nonneg q3 (by omega)
          have b3 : 77258 * n * n ≤ 77258 * 100000 * 100000 := Int.mul_le_mul (by omega) (by omega) (by omega) (by omega)
          have b4 : 0 ≤ 77258 * n * n := Int.mul_nonneg (by omega) (by omega)
          refine ⟨_, rfl, _, rfl, _, _, rfl, rfl, small_mul (by decide) (by decide), _, _, rfl, rfl, _, _, rfl, rfl, small_mul (by omega) (by omega), _, rfl, _, _, rfl, rfl, small_mul (by decide) (by decide), _, rfl, _, _, rfl, rfl, small_mul (by omega) (by omega), _, _, rfl, rfl, _, _, rfl, rfl, _, _, rfl, rfl, (small_pow (by omega) (by omega)).2, .inl ⟨_, rfl, _, _, rfl, rfl, (by show (0 : Int) < 2147483587; decide), ?_⟩⟩
          refine ⟨_, rfl, _, _, rfl, rfl, ⟨by decide, by decide⟩, .inl ⟨_, rfl, _, rfl, _, _, rfl, rfl, hm, ?_⟩⟩
          exact k _ _ (Int.emod_nonneg _ (by omega)) (Int.emod_lt_of_pos _ hm) sb2 pen2
end
end My
namespace My
open PySem PySem.Spec PyProof.Rows L2
abbrev sLens : Stmt := top 44
section
variable {P : Program} {w : World} {K : PySem.W.Frag} {mg : Str → Option Value} {base : Heap} {C fWhole fBetw fDay fChk fDraw fPick : Addr} {fdD fdP : FuncData}
/-- a def of the module that keeps its promise -/
structure Df (P : Program) (w : World) (K : PySem.W.Frag) (mg : Str → Option Value) (base : Heap) (x : Str) (k : Nat) (f : Addr) (fd : FuncData) (ps : List Str) (sp : Sp) : Prop where
  F : FnOk P w K mg base CX0 k f fd ps sp
  b : Binds K fd ps []
  kp : PySem.W.keepIn K (.ref f) = true
  g : mg x = some (.ref f)
theorem log_small {n : Int} (h0 : 0 ≤ n) (h : n < 2 ^ 64) : n.natAbs.log2 < 9000 := by
  have e : (2 : Int) ^ 64 = 18446744073709551616 := by decide
  have e2 : (2 : Nat) ^ 64 = 18446744073709551616 := by decide
  exact Nat.lt_trans (PySem.Flt.log2_lt_of (k := 64) (by decide) (by rw [e2]; omega)) (by decide)
/-- one of a list's items -/
def spPick : Sp := fun vs H Q _ => ∃ (p l a : Addr) (N : Int) (xs : List V), vs = [.ref p, .ref a] ∧ PenAt H p l N ∧ N ≤ 100000 ∧ H a = some (.lst xs) ∧ a ≠ p ∧ 0 < xs.length ∧ xs.length ≤ 1000 ∧
  ∀ (i : Nat) (v : V) (H' : Hp), xs[i]? = some v → SameBut p H H' → PenAt H' p l (N + 1) → Q v H'
theorem scPick : FnScope ["_law_pen_here", "_law_some"] ["_law_pen_here", "_law_some"] (defScope sPick) := ⟨rfl, rfl, rfl, by decide +kernel, rfl, by decide +kernel, by decide +kernel⟩
theorem ok_pick {f : Addr} {fd : FuncData} (F : Fun K "_law_pick" "_law_pick" sPick f fd) (T : Txt K mg C fWhole fBetw fDay fChk) (D : Df P w K mg base "_law_draw" 1 fDraw fdD ["_law_pen_here", "_law_many"] spDraw) : FnOk P w K mg base CX0 2 f fd ["_law_pen_here", "_law_some"] spPick := by
  refine F.ok scPick (fun vs H Q E h => ?_) (fun cdv A outer s H vs Q E hr h => ?_)
  · obtain ⟨p, l, a, N, xs, rfl, _⟩ := h
    rfl
  · obtain ⟨p, l, a, N, xs, rfl, pen, hN, ha, nap, h0, h1, k⟩ := h
    refine ⟨_, pss_one (ps_ret (pe_ix ix_list (pv 1) (pe_call D.F hr rfl D.g D.kp D.b .nil pass0 (pa_cons (pv 0) (pa_cons (pe_callB call_len_seq (by rfl) T.zLen PySem.boot_len (pa_cons (pv 1) pa_nil)) pa_nil))) (fun _ _ => rfl))), ?_⟩
    refine ⟨_, rfl, _, rfl, _, rfl, a, _, rfl, .inl (SqL.of ha), p, l, N, _, rfl, pen, by omega, log_small (by omega) (by omega), hN, fun r H' r0 r1 sb pen' => ?_⟩
    have hv : xs[r.toNat]? = some (xs[r.toNat]'(by omega)) := List.getElem?_eq_getElem (by omega)
    exact ⟨a, _, _, _, rfl, rfl, SqL.of (sb _ _ nap ha), at_of (j := r.toNat) (by omega) hv, k _ _ _ hv sb pen'⟩
theorem good_of {ls : List Int} (h : (decide (∀ l ∈ ls, 1 ≤ l ∧ l ≤ 60) && decide (0 < ls.length) && decide (ls.length ≤ 12) && decide (ls.sum ≤ 60)) = true) : Good ls := by
  simp only [Bool.and_eq_true, decide_eq_true_eq] at h
  exact ⟨h.1.1.1, h.1.1.2, h.1.2, h.2⟩
theorem sum_five : ∀ {ls : List Int}, (∀ l ∈ ls, 1 ≤ l ∧ l ≤ 5) → ls.sum ≤ 5 * ls.length
  | [], _ => by simp
  | a :: r, h => by
    have h1 := (h a (by simp)).2
    have h2 := sum_five (ls := r) fun l hl => h l (by simp [hl])
    rw [List.sum_cons, List.length_cons]
    push_cast
    omega
/-- drawn lengths -/
def spLens : Sp := fun vs H Q _ => ∃ (p l : Addr) (N : Int), vs = [.ref p] ∧ PenAt H p l N ∧ N ≤ 50000 ∧ ∀ a ls H', SameBut p H H' → PenAt H' p l (N + 20) → H' a = some (.lst (ls.map V.int)) → a ≠ p → Good ls → Q (.ref a) H'
theorem scLens : FnScope ["_law_pen_here", "_law_some", "_law_k"] ["_law_pen_here"] (defScope sLens) := ⟨rfl, rfl, rfl, by decide +kernel, rfl, by decide +kernel, by decide +kernel⟩
theorem ok_lens {f : Addr} {fd : FuncData} (F : Fun K "_law_lengths" "_law_lengths" sLens f fd) (T : Txt K mg C fWhole fBetw fDay fChk) (D : Df P w K mg base "_law_draw" 1 fDraw fdD ["_law_pen_here", "_law_many"] spDraw)
    (G : Df P w K mg base "_law_pick" 2 fPick fdP ["_law_pen_here", "_law_some"] spPick) : FnOk P w K mg base CX0 3 f fd ["_law_pen_here"] spLens := by
  refine F.ok scLens (fun vs H Q E h => ?_) (fun cdv A outer s H vs Q E hr h => ?_)
  · obtain ⟨p, l, N, rfl, _⟩ := h
    rfl
  · obtain ⟨p, l, N, rfl, pen, hN, k⟩ := h
    have hr1 : Room 1 _ := hr.mono (by decide)
    refine ⟨_, pss_cons (ps_set (i := 1) scLens.nd rfl (Or.inl rfl) (pe_lst (pa_cons (pe_lst (pa_cons pe_int pa_nil)) (pa_cons (pe_lst (pa_cons pe_int (pa_cons pe_int pa_nil))) (pa_cons (pe_lst (pa_cons pe_int pa_nil)) (pa_cons (pe_lst (pa_cons pe_int (pa_cons pe_int (pa_cons pe_int pa_nil))))
        (pa_cons (pe_lst (pa_cons pe_int (pa_cons pe_int pa_nil))) (pa_cons (pe_lst (pa_cons pe_int pa_nil)) (pa_cons (pe_lst (pa_cons pe_int (pa_cons pe_int (pa_cons pe_int pa_nil)))) (pa_cons (pe_lst (pa_cons pe_int (pa_cons pe_int pa_nil)))
        (pa_cons (pe_lst (pa_cons pe_int (pa_cons pe_int (pa_cons pe_int pa_nil)))) (pa_cons (pe_lst (pa_cons pe_int (pa_cons pe_int (pa_cons pe_int (pa_cons pe_int pa_nil))))) pa_nil))))))))))))
      (pss_cons (ps_if (pt_cmpR op_gt (pe_call D.F hr1 rfl D.g D.kp D.b .nil pass0 (pa_cons (pv 0) (pa_cons pe_int pa_nil))) pe_int (nomark _))
        (pss_one (ps_ret (pe_call G.F hr rfl G.g G.kp G.b .nil pass0 (pa_cons (pv 0) (pa_cons (pv 1) pa_nil))))) pss_nil)
      (pss_one (ps_ret (pe_lc (own := [("_law_k", 2)]) (g := gName 2) (tt := tYes) rfl scLens.nd (pi_range1 rfl T.zRange (pa_cons (pe_op op_add pe_int (pe_call D.F hr1 rfl D.g D.kp D.b .nil pass0 (pa_cons (pv 0) (pa_cons pe_int pa_nil)))) pa_nil))
        (blkOk_by (N := ["_law_pen_here", "_law_some", "_law_k"]) (sc := defScope sLens) (by decide +kernel)) (fun _ _ _ _ _ => pg_name (i := 2) scLens.nd rfl (Or.inl rfl)) (fun _ _ _ _ _ => pts_nil)
        (fun _ _ _ _ _ => pe_op op_add pe_int (pe_call D.F hr1 (by rfl) D.g D.kp D.b .nil pass0 (pa_cons (pv 0) (pa_cons pe_int pa_nil)))))))), ?_⟩
    refine ⟨by decide, fun a0 n0 => ⟨by decide, fun a1 n1 => ⟨by decide, fun a2 n2 => ⟨by decide, fun a3 n3 => ⟨by decide, fun a4 n4 => ⟨by decide, fun a5 n5 => ⟨by decide, fun a6 n6 => ⟨by decide, fun a7 n7 => ⟨by decide, fun a8 n8 => ⟨by decide, fun a9 n9 => ⟨by show 10 ≤ sizeLine; decide, fun b nb => ?_⟩⟩⟩⟩⟩⟩⟩⟩⟩⟩⟩
    obtain ⟨px, hp⟩ := pen.lst
    have u0 : Same H H := Same.refl H
    have m0 := ne_of_none (u0 _ _ hp) n0
    have u1 := u0.trans (same_new (o := (HO.lst [V.int 7])) n0)
    have m1 := ne_of_none (u1 _ _ hp) n1
    have u2 := u1.trans (same_new (o := (HO.lst [V.int 2, V.int 3])) n1)
    have m2 := ne_of_none (u2 _ _ hp) n2
    have u3 := u2.trans (same_new (o := (HO.lst [V.int 1])) n2)
    have m3 := ne_of_none (u3 _ _ hp) n3
    have u4 := u3.trans (same_new (o := (HO.lst [V.int 4, V.int 4, V.int 5])) n3)
    have m4 := ne_of_none (u4 _ _ hp) n4
    have u5 := u4.trans (same_new (o := (HO.lst [V.int 1, V.int 2])) n4)
    have m5 := ne_of_none (u5 _ _ hp) n5
    have u6 := u5.trans (same_new (o := (HO.lst [V.int 60])) n5)
    have m6 := ne_of_none (u6 _ _ hp) n6
    have u7 := u6.trans (same_new (o := (HO.lst [V.int 5, V.int 1, V.int 1])) n6)
    have m7 := ne_of_none (u7 _ _ hp) n7
    have u8 := u7.trans (same_new (o := (HO.lst [V.int 3, V.int 3])) n7)
    have m8 := ne_of_none (u8 _ _ hp) n8
    have u9 := u8.trans (same_new (o := (HO.lst [V.int 28, V.int 28, V.int 4])) n8)
    have m9 := ne_of_none (u9 _ _ hp) n9
    have u10 := u9.trans (same_new (o := (HO.lst [V.int 2, V.int 1, V.int 2, V.int 1])) n9)
    have mb := ne_of_none (u10 _ _ hp) nb
    have t10 := same_new (o := (HO.lst [V.ref a0, V.ref a1, V.ref a2, V.ref a3, V.ref a4, V.ref a5, V.ref a6, V.ref a7, V.ref a8, V.ref a9])) nb
    have L9 := t10 _ _ (upd_same (a := a9) (o := (HO.lst [V.int 2, V.int 1, V.int 2, V.int 1])))
    have t9 := (same_new (o := (HO.lst [V.int 2, V.int 1, V.int 2, V.int 1])) n9).trans t10
    have L8 := t9 _ _ (upd_same (a := a8) (o := (HO.lst [V.int 28, V.int 28, V.int 4])))
    have t8 := (same_new (o := (HO.lst [V.int 28, V.int 28, V.int 4])) n8).trans t9
    have L7 := t8 _ _ (upd_same (a := a7) (o := (HO.lst [V.int 3, V.int 3])))
    have t7 := (same_new (o := (HO.lst [V.int 3, V.int 3])) n7).trans t8
    have L6 := t7 _ _ (upd_same (a := a6) (o := (HO.lst [V.int 5, V.int 1, V.int 1])))
    have t6 := (same_new (o := (HO.lst [V.int 5, V.int 1, V.int 1])) n6).trans t7
    have L5 := t6 _ _ (upd_same (a := a5) (o := (HO.lst [V.int 60])))
    have t5 := (same_new (o := (HO.lst [V.int 60])) n5).trans t6
    have L4 := t5 _ _ (upd_same (a := a4) (o := (HO.lst [V.int 1, V.int 2])))
    have t4 := (same_new (o := (HO.lst [V.int 1, V.int 2])) n4).trans t5
    have L3 := t4 _ _ (upd_same (a := a3) (o := (HO.lst [V.int 4, V.int 4, V.int 5])))
    have t3 := (same_new (o := (HO.lst [V.int 4, V.int 4, V.int 5])) n3).trans t4
    have L2 := t3 _ _ (upd_same (a := a2) (o := (HO.lst [V.int 1])))
    have t2 := (same_new (o := (HO.lst [V.int 1])) n2).trans t3
    have L1 := t2 _ _ (upd_same (a := a1) (o := (HO.lst [V.int 2, V.int 3])))
    have t1 := (same_new (o := (HO.lst [V.int 2, V.int 3])) n1).trans t2
    have L0 := t1 _ _ (upd_same (a := a0) (o := (HO.lst [V.int 7])))
    have t0 := (same_new (o := (HO.lst [V.int 7])) n0).trans t1
    have Lb := upd_same (H := upd (upd (upd (upd (upd (upd (upd (upd (upd (upd H a0 (HO.lst [V.int 7])) a1 (HO.lst [V.int 2, V.int 3])) a2 (HO.lst [V.int 1])) a3 (HO.lst [V.int 4, V.int 4, V.int 5])) a4 (HO.lst [V.int 1, V.int 2])) a5 (HO.lst [V.int 60])) a6 (HO.lst [V.int 5, V.int 1, V.int 1])) a7 (HO.lst [V.int 3, V.int 3])) a8 (HO.lst [V.int 28, V.int 28, V.int 4])) a9 (HO.lst [V.int 2, V.int 1, V.int 2, V.int 1])) (a := b) (o := (HO.lst [V.ref a0, V.ref a1, V.ref a2, V.ref a3, V.ref a4, V.ref a5, V.ref a6, V.ref a7, V.ref a8, V.ref a9]))
    generalize upd (upd (upd (upd (upd (upd (upd (upd (upd (upd (upd H a0 (HO.lst [V.int 7])) a1 (HO.lst [V.int 2, V.int 3])) a2 (HO.lst [V.int 1])) a3 (HO.lst [V.int 4, V.int 4, V.int 5])) a4 (HO.lst [V.int 1, V.int 2])) a5 (HO.lst [V.int 60])) a6 (HO.lst [V.int 5, V.int 1, V.int 1])) a7 (HO.lst [V.int 3, V.int 3])) a8 (HO.lst [V.int 28, V.int 28, V.int 4])) a9 (HO.lst [V.int 2, V.int 1, V.int 2, V.int 1])) b (HO.lst [V.ref a0, V.ref a1, V.ref a2, V.ref a3, V.ref a4, V.ref a5, V.ref a6, V.ref a7, V.ref a8, V.ref a9]) = H1 at L0 L1 L2 L3 L4 L5 L6 L7 L8 L9 t0 Lb ⊢
    have all : ∀ v, v ∈ ([V.ref a0, V.ref a1, V.ref a2, V.ref a3, V.ref a4, V.ref a5, V.ref a6, V.ref a7, V.ref a8, V.ref a9] : List V) → ∃ (a : Addr) (ls : List Int), v = .ref a ∧ H1 a = some (.lst (ls.map V.int)) ∧ a ≠ p ∧ Good ls := fun v hv => by
      simp only [List.mem_cons, List.not_mem_nil, or_false] at hv
      rcases hv with rfl | rfl | rfl | rfl | rfl | rfl | rfl | rfl | rfl | rfl
      · exact ⟨a0, [7], rfl, L0, Ne.symm m0, good_of (by decide)⟩
      · exact ⟨a1, [2, 3], rfl, L1, Ne.symm m1, good_of (by decide)⟩
      · exact ⟨a2, [1], rfl, L2, Ne.symm m2, good_of (by decide)⟩
      · exact ⟨a3, [4, 4, 5], rfl, L3, Ne.symm m3, good_of (by decide)⟩
      · exact ⟨a4, [1, 2], rfl, L4, Ne.symm m4, good_of (by decide)⟩
      · exact ⟨a5, [60], rfl, L5, Ne.symm m5, good_of (by decide)⟩
      · exact ⟨a6, [5, 1, 1], rfl, L6, Ne.symm m6, good_of (by decide)⟩
      · exact ⟨a7, [3, 3], rfl, L7, Ne.symm m7, good_of (by decide)⟩
      · exact ⟨a8, [28, 28, 4], rfl, L8, Ne.symm m8, good_of (by decide)⟩
      · exact ⟨a9, [2, 1, 2, 1], rfl, L9, Ne.symm m9, good_of (by decide)⟩
    clear L0 L1 L2 L3 L4 L5 L6 L7 L8 L9 m0 m1 m2 m3 m4 m5 m6 m7 m8 m9 u1 u2 u3 u4 u5 u6 u7 u8 u9 u10 t1 t2 t3 t4 t5 t6 t7 t8 t9 t10
    refine ⟨_, rfl, p, l, N, 3, rfl, pen.same t0, by decide, log_small (by decide) (by decide), by omega, fun r H2 r0 r1 sb pen1 => ⟨_, _, rfl, rfl, _, rfl, ?_⟩⟩
    refine ite2 (fun hk => ?_) (fun hk => ?_)
    · refine ⟨_, rfl, _, rfl, p, l, b, N + 1, _, rfl, pen1, by omega, sb _ _ (Ne.symm mb) Lb, Ne.symm mb, (by show 0 < 10; decide), (by show 10 ≤ 1000; decide), fun i v H3 hi sb2 pen2 => ?_⟩
      obtain ⟨a, ls, rfl, hL, nap, g⟩ := all v (List.mem_of_getElem? hi)
      exact k a ls H3 ((Same.but t0).trans (sb.trans sb2)) (pen2.le (by omega)) (sb2 _ _ nap (sb _ _ nap hL)) nap g
    · refine ⟨_, rfl, p, l, N + 1, 12, rfl, pen1, by decide, log_small (by decide) (by decide), by omega, fun r2 H3 q0 q1 sb2 pen2 => ⟨_, _, rfl, rfl, _, rfl, by omega, by omega, fun Dd hD => ?_⟩⟩
      obtain ⟨py, hpy⟩ := pen2.lst
      have nD : p ≠ Dd := ne_of_none hpy hD
      have sb3 : SameBut p H H3 := (Same.but t0).trans (sb.trans sb2)
      refine lc_range (lo := 0) (n := (1 + r2).toNat) (fun i H' => ∃ acc : List Int, H' Dd = some (.lst (acc.map V.int)) ∧ acc.length = i ∧ (∀ l ∈ acc, 1 ≤ l ∧ l ≤ 5) ∧ SameBut p H3 H' ∧ PenAt H' p l (N + 2 + i)) ?_ ?_ ?_
      · exact ⟨[], upd_same, rfl, (fun l hl => absurd hl (by simp)), Same.but (same_new hD), (pen2.same (same_new hD)).le (by omega)⟩
      · rintro i H4 hi ⟨acc, hA, hlen, hin, sb4, pen4⟩
        refine ⟨rfl, ?_⟩
        unfold tYes
        dsimp only
        rw [if_pos rfl]
        refine ⟨_, rfl, p, l, N + 2 + i, 5, rfl, pen4, by decide, log_small (by decide) (by decide), by omega, fun r3 H5 w0 w1 sb5 pen5 => ⟨_, _, rfl, rfl, acc.map V.int, sb5 _ _ (Ne.symm nD) hA, ?_, ?_⟩⟩
        · rw [List.length_map, hlen]
          exact small1000 (by omega)
        · refine ⟨acc ++ [1 + r3], by rw [upd_same, List.map_append]; rfl, by rw [List.length_append, hlen]; rfl, fun l hl => ?_, fun c o nc e => ?_, (pen5.upd pen2 hD).le (by omega)⟩
          · rcases List.mem_append.mp hl with h | h
            · exact hin l h
            · rw [List.mem_singleton.mp h]; omega
          · rw [upd_ne (ne_of_none e hD)]
            exact sb5 _ _ nc (sb4 _ _ nc e)
      · rintro H4 ⟨acc, hA, hlen, hin, sb4, pen4⟩
        refine k Dd acc H4 (sb3.trans sb4) (pen4.le (by omega)) hA (Ne.symm nD) ⟨fun l hl => ⟨(hin l hl).1, by have := (hin l hl).2; omega⟩, by omega, by omega, ?_⟩
        have := sum_five hin
        omega
end
end My
namespace My
open PySem PySem.Spec PyProof.Rows L2
section
variable {P : Program} {w : World} {K : PySem.W.Frag} {mg : Str → Option Value} {base : Heap} {C fWhole fBetw fDay fChk : Addr}
/-- a property -/
structure CP (P : Program) (w : World) (K : PySem.W.Frag) (mg : Str → Option Value) (base : Heap) (C : Addr) (x : Str) (sp : Sp) (pr f : Addr) (fd : FuncData) : Prop where
  F : FnOk P w K mg base CX0 1 f fd ["self"] sp
  b : Binds K fd ["self"] []
  p : PropOf K C x pr f
variable {fB fF fL fP fN fGl fGt pGl pGt fLn : Addr} {dB dF dL dP dN dGl dGt dLn : FuncData}
end
end My
namespace My
open PySem PySem.Spec PyProof.Rows L2
abbrev sName : Stmt := top 14
abbrev sTieI : Stmt := inClass (top 22) 0
abbrev sNumI : Stmt := inClass (top 23) 0
abbrev sBkI : Stmt := inClass (top 24) 0
abbrev sBkS : Stmt := inClass (top 24) 1
abbrev sBkC : Stmt := inClass (top 24) 3
abbrev sAhI : Stmt := inClass (top 25) 0
abbrev sAhS : Stmt := inClass (top 25) 1
abbrev sAhC : Stmt := inClass (top 25) 3
abbrev sSoI : Stmt := inClass (top 26) 0
abbrev sSoS : Stmt := inClass (top 26) 1
abbrev sSoC : Stmt := inClass (top 26) 3
abbrev sWhI : Stmt := inClass (top 27) 0
abbrev sWhS : Stmt := inClass (top 27) 1
abbrev sWhC : Stmt := inClass (top 27) 3
abbrev sLaI : Stmt := inClass (top 28) 0
abbrev sLaS : Stmt := inClass (top 28) 1
abbrev sLaC : Stmt := inClass (top 28) 3
abbrev sSmI : Stmt := inClass (top 29) 0
abbrev sSmS : Stmt := inClass (top 29) 1
abbrev sSmC : Stmt := inClass (top 29) 3
abbrev sBB : Stmt := top 30
abbrev sAP : Stmt := top 31
theorem num_ne : ¬ (("source" : Str) = "number") := by decide +kernel
def isNum : Kd → Bool
  | .bk => true
  | .ah => true
  | _ => false
def tfl (k : Kd) (x : Str) (n : Int) : List (Str × V) := if isNum k then putF "number" (.int n) (putF "source" (.str x) []) else putF "source" (.str x) []
theorem tfl_num {k : Kd} (h : isNum k = true) (x : Str) (n : Int) : (tfl k x n).lookup ("number" : Str) = some (.int n) := by
  unfold tfl
  rw [if_pos h, lookup_putF, if_pos rfl]
theorem tfl_no (k : Kd) (x : Str) (n : Int) {m : Str} (h1 : ¬ m = "number") (h2 : ¬ m = "source") : (tfl k x n).lookup m = none := by
  unfold tfl
  split
  · rw [lookup_putF, if_neg h1, lookup_putF, if_neg h2]
    all_goals rfl
  · rw [lookup_putF, if_neg h2]
    all_goals rfl
/-- a name of a table -/
structure NameOk (x : Str) : Prop where
  len : x.length ≤ 8
  asc : Txt.isascii x = true
  alp : Txt.isalpha x = true
  low : Txt.islower x = true
structure TieAt (G : Kd → Addr) (H : Hp) (p : Addr) (k : Kd) (n : Int) : Prop where
  ob : ∃ dx x, H p = some (.ins (G k) dx (tfl k x n))
theorem TieAt.same {G : Kd → Addr} {H H' : Hp} {p : Addr} {k : Kd} {n : Int} (c : TieAt G H p k n) (s : Same H H') : TieAt G H' p k n := ⟨let ⟨dx, x, h⟩ := c.ob; ⟨dx, x, s _ _ h⟩⟩
theorem TieAt.but {G : Kd → Addr} {H H' : Hp} {p q : Addr} {k : Kd} {n : Int} (c : TieAt G H p k n) (s : SameBut q H H') {xs : List V} (hq : H q = some (.lst xs)) : TieAt G H' p k n :=
  ⟨let ⟨dx, x, h⟩ := c.ob; ⟨dx, x, s _ _ (ne_of h hq (by intro z; cases z)) h⟩⟩
structure Ty (K : PySem.W.Frag) (mg : Str → Option Value) (G : Kd → Addr) (cT cN fTI fNI fName fBB fBH fAP : Addr) : Prop where
  cl : ∀ k, Cls K (G k)
  nS : ∀ k, NoAttr K (G k) "source"
  nN : ∀ k, NoAttr K (G k) "number"
  gT : mg "Tie" = some (.ref cT)
  gN : mg "Numbered" = some (.ref cN)
  gBk : mg "Back" = some (.ref (G .bk))
  gAh : mg "Ahead" = some (.ref (G .ah))
  gSo : mg "Sofar" = some (.ref (G .so))
  gWh : mg "Whole" = some (.ref (G .wh))
  gLa : mg "Last" = some (.ref (G .la))
  gSm : mg "Same" = some (.ref (G .sm))
  gName : mg "is_name" = some (.ref fName)
  gBB : mg "block_before" = some (.ref fBB)
  gAP : mg "at_place" = some (.ref fAP)
  gMN : ∃ t, mg "MOST_NUMBER" = some (.int 60 t)
  rT : ClX.CRead K cT (.type "type")
  rN : ClX.CRead K cN (.type "type")
  fT : CFn K cT (.type "type") "__init__" fTI
  fN : CFn K cN (.type "type") "__init__" fNI
  zStr : mg "str" = none
  zMax : mg "max" = none
section
variable {P : Program} {w : World} {K : PySem.W.Frag} {mg : Str → Option Value} {base : Heap} {C fWhole fBetw fDay fChk : Addr} {G : Kd → Addr} {cT cN fTI fNI fName fBB fBH fAP : Addr}
theorem kss : kitB "str" "str" = some true := by decide +kernel
def spName : Sp := fun vs H Q _ => ∃ x : Str, vs = [.str x] ∧ NameOk x ∧ Q (.bl true) H
theorem scName : FnScope ["value"] ["value"] (defScope sName) := ⟨rfl, rfl, rfl, by decide +kernel, rfl, by decide +kernel, by decide +kernel⟩
theorem ok_name {f : Addr} {fd : FuncData} (F : Fun K "is_name" "is_name" sName f fd) (T : Txt K mg C fWhole fBetw fDay fChk) (Y : Ty K mg G cT cN fTI fNI fName fBB fBH fAP) : FnOk P w K mg base CX0 1 f fd ["value"] spName := by
  refine F.ok scName (fun vs H Q E h => ?_) (fun cdv A outer s H vs Q E hr h => ?_)
  · obtain ⟨x, rfl, _⟩ := h
    rfl
  · obtain ⟨x, rfl, nm, k⟩ := h
    refine ⟨_, pss_cons (ps_if (PW.pt (pw_or (pt_not (pt_val (pe_callB call_isi (by rfl) T.zIsi (by decide +kernel) (pa_cons (pv 0) (pa_cons (pe_bltn (v := .ty "str") (by rfl) Y.zStr (by decide +kernel) rfl) pa_nil)))))
        (pw_or1 (pt_cmpR op_gt (pe_callB call_len_str (by rfl) T.zLen PySem.boot_len (pa_cons (pv 0) pa_nil)) pe_int (nomark _))))) pss_never pss_nil)
      (pss_one (ps_ret (pe_and (pe_m0 PySem.F.slot_str_isascii PySem.F.type_str_isascii mt_isascii (pv 0)) (pe_and (pe_m0 PySem.F.slot_str_isalpha PySem.F.type_str_isalpha mt_isalpha (pv 0)) (pe_one (pe_m0 PySem.F.slot_str_islower PySem.F.type_str_islower mt_islower (pv 0))))))), ?_⟩
    have hl := nm.len
    refine ⟨_, rfl, .str x, .ty "str", _, _, true, rfl, .ty "str", .base (.str x), kit_ty kss, true, rfl, ?_⟩
    refine iteF ⟨_, rfl, x, rfl, ?_, _, _, rfl, rfl, _, rfl, ?_⟩
    · exact Nat.le_trans hl (by decide)
    · rw [decide_eq_false (by omega)]
      refine iteF ⟨_, rfl, ⟨x, rfl⟩, x, rfl, rfl, trivial, _, rfl, ?_⟩
      rw [nm.asc]
      refine iteT ⟨_, rfl, ⟨x, rfl⟩, x, rfl, rfl, trivial, _, rfl, ?_⟩
      rw [nm.alp]
      refine iteT ⟨_, rfl, ⟨x, rfl⟩, x, rfl, rfl, trivial, ?_⟩
      rw [nm.low]
      exact k
def spTieI (K : PySem.W.Frag) : Sp := fun vs H Q _ => ∃ (p dx D : Addr) (x : Str), vs = [.ref p, .str x] ∧ NameOk x ∧ Cls K D ∧ NoAttr K D "source" ∧ H p = some (.ins D dx []) ∧ Q .non (upd H p (.ins D dx (putF "source" (.str x) [])))
theorem scTieI : FnScope ["self", "source"] ["self", "source"] (defScope sTieI) := ⟨rfl, rfl, rfl, by decide +kernel, rfl, by decide +kernel, by decide +kernel⟩
theorem ok_tieI {f : Addr} {fd fdN : FuncData} (F : Fun K "__init__" "Tie.__init__" sTieI f fd) (T : Txt K mg C fWhole fBetw fDay fChk) (Y : Ty K mg G cT cN fTI fNI fName fBB fBH fAP) (FN : Fun K "is_name" "is_name" sName fName fdN) (bN : Binds K fdN ["value"] []) :
    FnOk P w K mg base CX0 2 f fd ["self", "source"] (spTieI K) := by
  have GN : FnOk P w K mg base CX0 1 fName fdN ["value"] spName := ok_name FN T Y
  refine F.ok scTieI (fun vs H Q E h => ?_) (fun cdv A outer s H vs Q E hr h => ?_)
  · obtain ⟨p, dx, D, x, rfl, _⟩ := h
    rfl
  · obtain ⟨p, dx, D, x, rfl, nm, cl, na, hp, k⟩ := h
    refine ⟨_, pss_cons (ps_if (pt_not (pt_val (pe_call GN hr rfl Y.gName FN.kp bN .nil pass0 (pa_cons (pv 1) pa_nil)))) pss_never pss_nil) (pss_one (ps_fld (pv 0) (pv 1) rfl)), ?_⟩
    refine ⟨_, rfl, x, rfl, nm, _, rfl, iteF ?_⟩
    exact ⟨_, rfl, _, rfl, p, D, dx, _, rfl, hp, cl, na, (by show 0 < 1000; decide), k⟩
def spNumI (K : PySem.W.Frag) : Sp := fun vs H Q _ => ∃ (p dx D : Addr) (fs : List (Str × V)) (n lo : Int), vs = [.ref p, .int n, .int lo] ∧ lo ≤ n ∧ n ≤ 60 ∧ Cls K D ∧ NoAttr K D "number" ∧ H p = some (.ins D dx fs) ∧ fs.length < 1000 ∧ Q .non (upd H p (.ins D dx (putF "number" (.int n) fs)))
theorem scNumI : FnScope ["self", "number", "least"] ["self", "number", "least"] (defScope sNumI) := ⟨rfl, rfl, rfl, by decide +kernel, rfl, by decide +kernel, by decide +kernel⟩
theorem ok_numI {f : Addr} {fd fdW fdB : FuncData} (F : Fun K "__init__" "Numbered.__init__" sNumI f fd) (T : Txt K mg C fWhole fBetw fDay fChk) (Y : Ty K mg G cT cN fTI fNI fName fBB fBH fAP) (FW : Fun K "is_whole" "is_whole" sWhole fWhole fdW) (bW : Binds K fdW ["value"] [])
    (FB : Fun K "is_between" "is_between" sBetw fBetw fdB) (bB : Binds K fdB ["value", "low", "high"] []) : FnOk P w K mg base CX0 3 f fd ["self", "number", "least"] (spNumI K) := by
  have GB : FnOk P w K mg base CX0 2 fBetw fdB ["value", "low", "high"] (spBetw K) := ok_betw FB T FW bW
  obtain ⟨tb, gb⟩ := Y.gMN
  refine F.ok scNumI (fun vs H Q E h => ?_) (fun cdv A outer s H vs Q E hr h => ?_)
  · obtain ⟨p, dx, D, fs, n, lo, rfl, _⟩ := h
    rfl
  · obtain ⟨p, dx, D, fs, n, lo, rfl, h1, h2, cl, na, hp, hl, k⟩ := h
    refine ⟨_, pss_cons (ps_if (pt_not (pt_val (pe_call GB hr rfl T.gBetw FB.kp bB .nil pass0 (pa_cons (pv 1) (pa_cons (pv 2) (pa_cons (pe_glob (v := .int 60) rfl gb ⟨_, rfl⟩) pa_nil)))))) pss_never pss_nil) (pss_one (ps_fld (pv 0) (pv 1) rfl)), ?_⟩
    refine ⟨_, rfl, _, rfl, V.int n, "int", true, false, lo, 60, rfl, .base (.int n), kii, kib, (fun q => tnf0 q), fun _ => ⟨n, rfl, _, rfl, ?_⟩⟩
    rw [decide_eq_true h1, decide_eq_true h2]
    exact iteF ⟨_, rfl, _, rfl, p, D, dx, _, rfl, hp, cl, na, hl, k⟩
/-- the class of a tie with a number: what its __init__ leaves -/
def spInitN (G : Kd → Addr) (k : Kd) : Sp := fun vs H Q _ => ∃ (p dx : Addr) (x : Str) (n : Int), vs = [.ref p, .str x, .int n] ∧ NameOk x ∧ H p = some (.ins (G k) dx []) ∧ 0 ≤ n ∧ (k = .ah → 1 ≤ n) ∧ n ≤ 60 ∧
  ∀ H', (∀ b o, H b = some o → b ≠ p → H' b = some o) → H' p = some (.ins (G k) dx (tfl k x n)) → Q .non H'
def spInitP (G : Kd → Addr) (k : Kd) : Sp := fun vs H Q _ => ∃ (p dx : Addr) (x : Str), vs = [.ref p, .str x] ∧ NameOk x ∧ H p = some (.ins (G k) dx []) ∧
  ∀ H', (∀ b o, H b = some o → b ≠ p → H' b = some o) → H' p = some (.ins (G k) dx (tfl k x 0)) → Q .non H'
theorem scBkI : FnScope ["self", "source", "number"] ["self", "source", "number"] (defScope sBkI) := ⟨rfl, rfl, rfl, by decide +kernel, rfl, by decide +kernel, by decide +kernel⟩
theorem scAhI : FnScope ["self", "source", "number"] ["self", "source", "number"] (defScope sAhI) := ⟨rfl, rfl, rfl, by decide +kernel, rfl, by decide +kernel, by decide +kernel⟩
theorem scSoI : FnScope ["self", "source"] ["self", "source"] (defScope sSoI) := ⟨rfl, rfl, rfl, by decide +kernel, rfl, by decide +kernel, by decide +kernel⟩
theorem scWhI : FnScope ["self", "source"] ["self", "source"] (defScope sWhI) := ⟨rfl, rfl, rfl, by decide +kernel, rfl, by decide +kernel, by decide +kernel⟩
theorem scLaI : FnScope ["self", "source"] ["self", "source"] (defScope sLaI) := ⟨rfl, rfl, rfl, by decide +kernel, rfl, by decide +kernel, by decide +kernel⟩
theorem scSmI : FnScope ["self", "source"] ["self", "source"] (defScope sSmI) := ⟨rfl, rfl, rfl, by decide +kernel, rfl, by decide +kernel, by decide +kernel⟩
/-- what every __init__ needs -/
structure Inits (P : Program) (w : World) (K : PySem.W.Frag) (mg : Str → Option Value) (base : Heap) (fTI fNI : Addr) (dTI dNI : FuncData) : Prop where
  t : FnOk P w K mg base CX0 2 fTI dTI ["self", "source"] (spTieI K)
  bt : Binds K dTI ["self", "source"] []
  n : FnOk P w K mg base CX0 3 fNI dNI ["self", "number", "least"] (spNumI K)
  bn : Binds K dNI ["self", "number", "least"] []
variable {dTI dNI : FuncData}
theorem ok_bkI {f : Addr} {fd : FuncData} (F : Fun K "__init__" "Back.__init__" sBkI f fd) (Y : Ty K mg G cT cN fTI fNI fName fBB fBH fAP) (J : Inits P w K mg base fTI fNI dTI dNI) : FnOk P w K mg base CX0 4 f fd ["self", "source", "number"] (spInitN G .bk) := by
  refine F.ok scBkI (fun vs H Q E h => ?_) (fun cdv A outer s H vs Q E hr h => ?_)
  · obtain ⟨p, dx, x, n, rfl, _⟩ := h
    rfl
  · obtain ⟨p, dx, x, n, rfl, nm, hp, h0, h1, h2, k⟩ := h
    have hr1 : Room 2 _ := hr.mono (by decide)
    refine ⟨_, pss_cons (ps_expr (pe_cfn (pe_glob (v := .ref cT) rfl Y.gT rfl) Y.rT Y.fT (J.t.raw J.bt .nil) hr1 pass0 (pa_cons (pv 0) (pa_cons (pv 1) pa_nil))))
      (pss_one (ps_expr (pe_cfn (pe_glob (v := .ref cN) rfl Y.gN rfl) Y.rN Y.fN (J.n.raw J.bn .nil) hr pass0 (pa_cons (pv 0) (pa_cons (pv 2) (pa_cons pe_int pa_nil)))))), ?_⟩
    refine ⟨rfl, _, rfl, _, rfl, p, dx, G .bk, x, rfl, nm, Y.cl _, Y.nS _, hp, ?_⟩
    refine ⟨rfl, _, rfl, _, rfl, p, dx, G .bk, _, n, 0, rfl, h0, h2, Y.cl _, Y.nN _, upd_same, (by show 1 < 1000; decide), ?_⟩
    refine k _ (fun b o e hb => ?_) upd_same
    rw [upd_ne hb, upd_ne hb]
    exact e
theorem ok_ahI {f : Addr} {fd : FuncData} (F : Fun K "__init__" "Ahead.__init__" sAhI f fd) (Y : Ty K mg G cT cN fTI fNI fName fBB fBH fAP) (J : Inits P w K mg base fTI fNI dTI dNI) : FnOk P w K mg base CX0 4 f fd ["self", "source", "number"] (spInitN G .ah) := by
  refine F.ok scAhI (fun vs H Q E h => ?_) (fun cdv A outer s H vs Q E hr h => ?_)
  · obtain ⟨p, dx, x, n, rfl, _⟩ := h
    rfl
  · obtain ⟨p, dx, x, n, rfl, nm, hp, h0, h1, h2, k⟩ := h
    have hr1 : Room 2 _ := hr.mono (by decide)
    refine ⟨_, pss_cons (ps_expr (pe_cfn (pe_glob (v := .ref cT) rfl Y.gT rfl) Y.rT Y.fT (J.t.raw J.bt .nil) hr1 pass0 (pa_cons (pv 0) (pa_cons (pv 1) pa_nil))))
      (pss_one (ps_expr (pe_cfn (pe_glob (v := .ref cN) rfl Y.gN rfl) Y.rN Y.fN (J.n.raw J.bn .nil) hr pass0 (pa_cons (pv 0) (pa_cons (pv 2) (pa_cons pe_int pa_nil)))))), ?_⟩
    refine ⟨rfl, _, rfl, _, rfl, p, dx, G .ah, x, rfl, nm, Y.cl _, Y.nS _, hp, ?_⟩
    refine ⟨rfl, _, rfl, _, rfl, p, dx, G .ah, _, n, 1, rfl, h1 rfl, h2, Y.cl _, Y.nN _, upd_same, (by show 1 < 1000; decide), ?_⟩
    refine k _ (fun b o e hb => ?_) upd_same
    rw [upd_ne hb, upd_ne hb]
    exact e
theorem ok_soI {f : Addr} {fd : FuncData} (F : Fun K "__init__" "Sofar.__init__" sSoI f fd) (Y : Ty K mg G cT cN fTI fNI fName fBB fBH fAP) (J : Inits P w K mg base fTI fNI dTI dNI) : FnOk P w K mg base CX0 4 f fd ["self", "source"] (spInitP G .so) := by
  refine F.ok scSoI (fun vs H Q E h => ?_) (fun cdv A outer s H vs Q E hr h => ?_)
  · obtain ⟨p, dx, x, rfl, _⟩ := h
    rfl
  · obtain ⟨p, dx, x, rfl, nm, hp, k⟩ := h
    have hr1 : Room 2 _ := hr.mono (by decide)
    refine ⟨_, pss_one (ps_expr (pe_cfn (pe_glob (v := .ref cT) rfl Y.gT rfl) Y.rT Y.fT (J.t.raw J.bt .nil) hr1 pass0 (pa_cons (pv 0) (pa_cons (pv 1) pa_nil)))), ?_⟩
    refine ⟨rfl, _, rfl, _, rfl, p, dx, _, x, rfl, nm, Y.cl _, Y.nS _, hp, ?_⟩
    exact k _ (fun b o e hb => by rw [upd_ne hb]; exact e) upd_same
theorem ok_whI {f : Addr} {fd : FuncData} (F : Fun K "__init__" "Whole.__init__" sWhI f fd) (Y : Ty K mg G cT cN fTI fNI fName fBB fBH fAP) (J : Inits P w K mg base fTI fNI dTI dNI) : FnOk P w K mg base CX0 4 f fd ["self", "source"] (spInitP G .wh) := by
  refine F.ok scWhI (fun vs H Q E h => ?_) (fun cdv A outer s H vs Q E hr h => ?_)
  · obtain ⟨p, dx, x, rfl, _⟩ := h
    rfl
  · obtain ⟨p, dx, x, rfl, nm, hp, k⟩ := h
    have hr1 : Room 2 _ := hr.mono (by decide)
    refine ⟨_, pss_one (ps_expr (pe_cfn (pe_glob (v := .ref cT) rfl Y.gT rfl) Y.rT Y.fT (J.t.raw J.bt .nil) hr1 pass0 (pa_cons (pv 0) (pa_cons (pv 1) pa_nil)))), ?_⟩
    refine ⟨rfl, _, rfl, _, rfl, p, dx, _, x, rfl, nm, Y.cl _, Y.nS _, hp, ?_⟩
    exact k _ (fun b o e hb => by rw [upd_ne hb]; exact e) upd_same
theorem ok_laI {f : Addr} {fd : FuncData} (F : Fun K "__init__" "Last.__init__" sLaI f fd) (Y : Ty K mg G cT cN fTI fNI fName fBB fBH fAP) (J : Inits P w K mg base fTI fNI dTI dNI) : FnOk P w K mg base CX0 4 f fd ["self", "source"] (spInitP G .la) := by
  refine F.ok scLaI (fun vs H Q E h => ?_) (fun cdv A outer s H vs Q E hr h => ?_)
  · obtain ⟨p, dx, x, rfl, _⟩ := h
    rfl
  · obtain ⟨p, dx, x, rfl, nm, hp, k⟩ := h
    have hr1 : Room 2 _ := hr.mono (by decide)
    refine ⟨_, pss_one (ps_expr (pe_cfn (pe_glob (v := .ref cT) rfl Y.gT rfl) Y.rT Y.fT (J.t.raw J.bt .nil) hr1 pass0 (pa_cons (pv 0) (pa_cons (pv 1) pa_nil)))), ?_⟩
    refine ⟨rfl, _, rfl, _, rfl, p, dx, _, x, rfl, nm, Y.cl _, Y.nS _, hp, ?_⟩
    exact k _ (fun b o e hb => by rw [upd_ne hb]; exact e) upd_same
theorem ok_smI {f : Addr} {fd : FuncData} (F : Fun K "__init__" "Same.__init__" sSmI f fd) (Y : Ty K mg G cT cN fTI fNI fName fBB fBH fAP) (J : Inits P w K mg base fTI fNI dTI dNI) : FnOk P w K mg base CX0 4 f fd ["self", "source"] (spInitP G .sm) := by
  refine F.ok scSmI (fun vs H Q E h => ?_) (fun cdv A outer s H vs Q E hr h => ?_)
  · obtain ⟨p, dx, x, rfl, _⟩ := h
    rfl
  · obtain ⟨p, dx, x, rfl, nm, hp, k⟩ := h
    have hr1 : Room 2 _ := hr.mono (by decide)
    refine ⟨_, pss_one (ps_expr (pe_cfn (pe_glob (v := .ref cT) rfl Y.gT rfl) Y.rT Y.fT (J.t.raw J.bt .nil) hr1 pass0 (pa_cons (pv 0) (pa_cons (pv 1) pa_nil)))), ?_⟩
    refine ⟨rfl, _, rfl, _, rfl, p, dx, _, x, rfl, nm, Y.cl _, Y.nS _, hp, ?_⟩
    exact k _ (fun b o e hb => by rw [upd_ne hb]; exact e) upd_same
end
end My
namespace My
open PySem PySem.Spec PyProof.Rows L2
theorem rg_map (a b : Int) : rgV a b = (rgI a b).map V.int := by
  unfold rgV rgI
  rw [List.map_map]
  rfl
theorem full_cut {xs : List V} {lo hi : Option Int} (h : HT.sIx xs.length 0 lo = 0 ∧ HT.sIx xs.length xs.length hi = xs.length) : cutV xs lo hi = xs := by
  unfold cutV
  rw [h.1, h.2]
  simp
theorem cut_pick {a b p : Int} (h : 0 ≤ p) : cutV ((rgI a b).map V.int) (some p) (some (p + 1)) = (pickI a b p).map V.int := by
  obtain ⟨n, rfl⟩ := Int.eq_ofNat_of_zero_le h
  have hl : ((rgI a b).map V.int).length = (b - a).toNat := by rw [List.length_map, rgI_len]
  have e1 : ((n : Int) + 1) = ((n + 1 : Nat) : Int) := rfl
  unfold cutV
  rw [e1, HT.sIx_nat, HT.sIx_nat, hl]
  unfold pickI
  by_cases c : a + (n : Int) < b
  · have c2 : n < (b - a).toNat := by omega
    rw [if_pos c, Nat.min_eq_left (by omega), Nat.min_eq_left (by omega), Nat.add_sub_cancel_left]
    have e : ((rgI a b).map V.int)[n]? = some (V.int (a + n)) := by
      unfold rgI
      rw [List.getElem?_map, List.getElem?_map, List.getElem?_range c2]
      rfl
    have hn : n < ((rgI a b).map V.int).length := by rw [hl]; exact c2
    rw [List.drop_eq_getElem_cons hn]
    have e3 := (List.getElem?_eq_some_iff.mp e).2
    rw [e3]
    rfl
  · rw [if_neg c, Nat.min_eq_right (by omega), Nat.min_eq_right (by omega), Nat.sub_self]
    rfl
theorem len60 {ls : List Int} (g : Good ls) (d : Int) : lenD ls d ≤ 60 := (g.pos _ (List.mem_of_getElem? (ix_lt g.ok d).2)).2
def beforeL (ls : List Int) (d : Int) : List Int := rgI (fstD ls (fstD ls d - 1)) (fstD ls d - 1 + 1)
section
variable {P : Program} {w : World} {K : PySem.W.Frag} {mg : Str → Option Value} {base : Heap} {C fWhole fBetw fDay fChk fEnds : Addr} {dEnds : FuncData} {G : Kd → Addr} {cT cN fTI fNI fName fBB fBH fAP : Addr} {dBB dBH dAP : FuncData}
def spBlk (C : Addr) (L : List Int → Int → List Int) : Sp := fun vs H Q _ => ∃ (c : Addr) (ls : List Int) (d : Int), vs = [.int d, .ref c] ∧ CycAt C H c ls ∧ ∀ t H', Same H H' → H' t = some (.tup ((L ls d).map V.int)) → Q (.ref t) H'
theorem scBB : FnScope ["day", "cycle", "last"] ["day", "cycle"] (defScope sBB) := ⟨rfl, rfl, rfl, by decide +kernel, rfl, by decide +kernel, by decide +kernel⟩
theorem few_block {ls : List Int} (g : Good ls) {d a b : Int} (h1 : fstD ls d ≤ a) (h2 : b ≤ lstD ls d + 1) : (b - a).toNat ≤ 2 ^ 24 := by
  have := len60 g d
  unfold lstD at h2
  have e : (2 : Nat) ^ 24 = 16777216 := by decide
  rw [e]
  omega
theorem ok_BB {f : Addr} {fd : FuncData} (F : Fun K "block_before" "block_before" sBB f fd) (T : Txt K mg C fWhole fBetw fDay fChk) (EE : EndsM P w K mg base C fEnds dEnds) : FnOk P w K mg base CX0 3 f fd ["day", "cycle"] (spBlk C beforeL) := by
  refine F.ok scBB (fun vs H Q E h => ?_) (fun cdv A outer s H vs Q E hr h => ?_)
  · obtain ⟨c, ls, d, rfl, _⟩ := h
    rfl
  · obtain ⟨c, ls, d, rfl, cy, k⟩ := h
    obtain ⟨dx, t, h1, h2⟩ := cy.ob
    have nS := flds_no t ls.sum (m := "ends") (by decide +kernel) (by decide +kernel)
    refine ⟨_, pss_cons (ps_set (i := 2) scBB.nd rfl (Or.inl rfl) (pe_op op_sub (pe_ix ix_tup (pe_meth (pv 1) T.cl EE.m EE.F hr EE.b .nil pass0 (pa_cons (pv 0) pa_nil)) pe_int (fun _ _ => rfl)) pe_int))
      (pss_one (ps_ret (pe_tupW rfl (by rfl) T.zTuple (prg_2 (by rfl) T.zRange (pe_ix ix_tup (pe_meth (pv 1) T.cl EE.m EE.F hr EE.b .nil pass0 (pa_cons (pv 2) pa_nil)) pe_int (fun _ _ => rfl)) (pe_op op_add (pv 2) pe_int))))), ?_⟩
    refine ⟨_, rfl, c, dx, _, rfl, h1, nS, _, rfl, c, ls, d, rfl, cy, fun q H1 s1 hq => ⟨q, _, _, _, rfl, rfl, SqT.of hq, atI_nat (j := 0) rfl, _, _, rfl, rfl, ?_⟩⟩
    refine ⟨_, rfl, c, dx, _, rfl, s1 _ _ h1, nS, _, rfl, c, ls, _, rfl, cy.same s1, fun q2 H2 s2 hq2 => ⟨q2, _, _, _, rfl, rfl, SqT.of hq2, atI_nat (j := 0) rfl, ?_⟩⟩
    refine ⟨_, rfl, _, _, rfl, rfl, _, _, rfl, rfl, few_block cy.ok (d := fstD ls d - 1) (Int.le_refl _) ?_, fun r hr' => ?_⟩
    · rw [prv cy.ok.ok]; exact Int.le_refl _
    · exact k r _ (s1.trans (s2.trans (same_new hr'))) (by rw [upd_same, rg_map]; rfl)
def spAP : Sp := fun vs H Q _ => ∃ (t : Addr) (a b p : Int), vs = [.ref t, .int p] ∧ H t = some (.tup ((rgI a b).map V.int)) ∧ 0 ≤ p ∧ ∀ r H', Same H H' → H' r = some (.tup ((pickI a b p).map V.int)) → Q (.ref r) H'
theorem scAP : FnScope ["days", "place"] ["days", "place"] (defScope sAP) := ⟨rfl, rfl, rfl, by decide +kernel, rfl, by decide +kernel, by decide +kernel⟩
theorem ok_AP {f : Addr} {fd : FuncData} (F : Fun K "at_place" "at_place" sAP f fd) : FnOk P w K mg base CX0 1 f fd ["days", "place"] spAP := by
  refine F.ok scAP (fun vs H Q E h => ?_) (fun cdv A outer s H vs Q E hr h => ?_)
  · obtain ⟨t, a, b, p, rfl, _⟩ := h
    rfl
  · obtain ⟨t, a, b, p, rfl, ht, h0, k⟩ := h
    refine ⟨_, pss_one (ps_ret (pe_slice L2.sl_tupA (pv 0) (po_some (pv 1)) (po_some (pe_op op_add (pv 1) pe_int)))), ?_⟩
    refine ⟨_, rfl, _, rfl, _, rfl, _, rfl, _, _, rfl, rfl, _, rfl, t, _, rfl, SqT.of ht, fun full => ?_, fun _ r hr' => ?_⟩
    · refine k t H (Same.refl H) ?_
      rw [ht, ← cut_pick h0, full_cut full]
    · refine k r _ (same_new hr') ?_
      rw [upd_same, cut_pick h0]
def spTie (G : Kd → Addr) (C : Addr) (k : Kd) (L : Kd → Int → List Int → Int → List Int) : Sp := fun vs H Q _ => ∃ (p c : Addr) (n : Int) (ls : List Int) (d : Int), vs = [.ref p, .int d, .ref c] ∧ TieAt G H p k n ∧ CycAt C H c ls ∧
  ∀ t H', Same H H' → H' t = some (.tup ((L k n ls d).map V.int)) → Q (.ref t) H'
/-- the helpers of ties.py -/
structure Hlp (P : Program) (w : World) (K : PySem.W.Frag) (mg : Str → Option Value) (base : Heap) (C fBB fBH fAP : Addr) (dBB dBH dAP : FuncData) : Prop where
  bb : Df P w K mg base "block_before" 3 fBB dBB ["day", "cycle"] (spBlk C beforeL)
  ap : Df P w K mg base "at_place" 1 fAP dAP ["days", "place"] spAP
theorem scBkS : FnScope ["self", "day", "cycle"] ["self", "day", "cycle"] (defScope sBkS) := ⟨rfl, rfl, rfl, by decide +kernel, rfl, by decide +kernel, by decide +kernel⟩
theorem ok_BkS {f : Addr} {fd : FuncData} (F : Fun K "sources" "Back.sources" sBkS f fd) (T : Txt K mg C fWhole fBetw fDay fChk) (Y : Ty K mg G cT cN fTI fNI fName fBB fBH fAP) (EE : EndsM P w K mg base C fEnds dEnds) (B : Hlp P w K mg base C fBB fBH fAP dBB dBH dAP) :
    FnOk P w K mg base CX0 4 f fd ["self", "day", "cycle"] (spTie G C .bk srcL) := by
  refine F.ok scBkS (fun vs H Q E h => ?_) (fun cdv A outer s H vs Q E hr h => ?_)
  · obtain ⟨p, c, n, ls, d, rfl, _⟩ := h
    rfl
  · obtain ⟨p, c, n, ls, d, rfl, ti, cy, k⟩ := h
    obtain ⟨tx, x, hp⟩ := ti.ob
    obtain ⟨dx, t, h1, h2⟩ := cy.ob
    have g := cy.ok
    have o := g.ok
    have hr2 : Room 2 _ := hr.mono (by decide)
    have hr1 : Room 1 _ := hr.mono (by decide)
    have nS := flds_no t ls.sum (m := "ends") (by decide +kernel) (by decide +kernel)
    obtain ⟨rg1, rg2⟩ := day_rng o d
    refine ⟨_, pss_one (ps_ret (pe_tup (pa_cons (pe_op op_sub (pv 1) (pe_fld (pv 0) rfl)) pa_nil))), ?_⟩
    exact ⟨_, rfl, _, rfl, p, G .bk, tx, _, _, rfl, hp, Y.cl _, Y.nN _, tfl_num rfl _ _, _, _, rfl, rfl, (by show 1 ≤ sizeLine; decide), fun r hr' => k r _ (same_new hr') (by rw [upd_same]; rfl)⟩
theorem scAhS : FnScope ["self", "day", "cycle"] ["self", "day", "cycle"] (defScope sAhS) := ⟨rfl, rfl, rfl, by decide +kernel, rfl, by decide +kernel, by decide +kernel⟩
theorem ok_AhS {f : Addr} {fd : FuncData} (F : Fun K "sources" "Ahead.sources" sAhS f fd) (T : Txt K mg C fWhole fBetw fDay fChk) (Y : Ty K mg G cT cN fTI fNI fName fBB fBH fAP) (EE : EndsM P w K mg base C fEnds dEnds) (B : Hlp P w K mg base C fBB fBH fAP dBB dBH dAP) :
    FnOk P w K mg base CX0 4 f fd ["self", "day", "cycle"] (spTie G C .ah srcL) := by
  refine F.ok scAhS (fun vs H Q E h => ?_) (fun cdv A outer s H vs Q E hr h => ?_)
  · obtain ⟨p, c, n, ls, d, rfl, _⟩ := h
    rfl
  · obtain ⟨p, c, n, ls, d, rfl, ti, cy, k⟩ := h
    obtain ⟨tx, x, hp⟩ := ti.ob
    obtain ⟨dx, t, h1, h2⟩ := cy.ob
    have g := cy.ok
    have o := g.ok
    have hr2 : Room 2 _ := hr.mono (by decide)
    have hr1 : Room 1 _ := hr.mono (by decide)
    have nS := flds_no t ls.sum (m := "ends") (by decide +kernel) (by decide +kernel)
    obtain ⟨rg1, rg2⟩ := day_rng o d
    refine ⟨_, pss_one (ps_ret (pe_tup (pa_cons (pe_op op_add (pv 1) (pe_fld (pv 0) rfl)) pa_nil))), ?_⟩
    exact ⟨_, rfl, _, rfl, p, G .ah, tx, _, _, rfl, hp, Y.cl _, Y.nN _, tfl_num rfl _ _, _, _, rfl, rfl, (by show 1 ≤ sizeLine; decide), fun r hr' => k r _ (same_new hr') (by rw [upd_same]; rfl)⟩
theorem scSoS : FnScope ["self", "day", "cycle"] ["self", "day", "cycle"] (defScope sSoS) := ⟨rfl, rfl, rfl, by decide +kernel, rfl, by decide +kernel, by decide +kernel⟩
theorem ok_SoS {f : Addr} {fd : FuncData} (F : Fun K "sources" "Sofar.sources" sSoS f fd) (T : Txt K mg C fWhole fBetw fDay fChk) (Y : Ty K mg G cT cN fTI fNI fName fBB fBH fAP) (EE : EndsM P w K mg base C fEnds dEnds) (B : Hlp P w K mg base C fBB fBH fAP dBB dBH dAP) :
    FnOk P w K mg base CX0 4 f fd ["self", "day", "cycle"] (spTie G C .so srcL) := by
  refine F.ok scSoS (fun vs H Q E h => ?_) (fun cdv A outer s H vs Q E hr h => ?_)
  · obtain ⟨p, c, n, ls, d, rfl, _⟩ := h
    rfl
  · obtain ⟨p, c, n, ls, d, rfl, ti, cy, k⟩ := h
    obtain ⟨tx, x, hp⟩ := ti.ob
    obtain ⟨dx, t, h1, h2⟩ := cy.ob
    have g := cy.ok
    have o := g.ok
    have hr2 : Room 2 _ := hr.mono (by decide)
    have hr1 : Room 1 _ := hr.mono (by decide)
    have nS := flds_no t ls.sum (m := "ends") (by decide +kernel) (by decide +kernel)
    obtain ⟨rg1, rg2⟩ := day_rng o d
    refine ⟨_, pss_one (ps_ret (pe_tupW rfl (by rfl) T.zTuple (prg_2 (by rfl) T.zRange (pe_ix ix_tup (pe_meth (pv 2) T.cl EE.m EE.F hr2 EE.b .nil pass0 (pa_cons (pv 1) pa_nil)) pe_int (fun _ _ => rfl)) (pe_op op_add (pv 1) pe_int)))), ?_⟩
    exact ⟨_, rfl, c, dx, _, rfl, h1, nS, _, rfl, c, ls, d, rfl, cy, fun q H1 s1 hq => ⟨q, _, _, _, rfl, rfl, SqT.of hq, atI_nat (j := 0) rfl, _, rfl, _, _, rfl, rfl, _, _, rfl, rfl, few_block g (d := d) (Int.le_refl _) (by omega), fun r hr' => k r _ (s1.trans (same_new hr')) (by rw [upd_same, rg_map]; rfl)⟩⟩
theorem scWhS : FnScope ["self", "day", "cycle"] ["self", "day", "cycle"] (defScope sWhS) := ⟨rfl, rfl, rfl, by decide +kernel, rfl, by decide +kernel, by decide +kernel⟩
theorem ok_WhS {f : Addr} {fd : FuncData} (F : Fun K "sources" "Whole.sources" sWhS f fd) (T : Txt K mg C fWhole fBetw fDay fChk) (Y : Ty K mg G cT cN fTI fNI fName fBB fBH fAP) (EE : EndsM P w K mg base C fEnds dEnds) (B : Hlp P w K mg base C fBB fBH fAP dBB dBH dAP) :
    FnOk P w K mg base CX0 4 f fd ["self", "day", "cycle"] (spTie G C .wh srcL) := by
  refine F.ok scWhS (fun vs H Q E h => ?_) (fun cdv A outer s H vs Q E hr h => ?_)
  · obtain ⟨p, c, n, ls, d, rfl, _⟩ := h
    rfl
  · obtain ⟨p, c, n, ls, d, rfl, ti, cy, k⟩ := h
    obtain ⟨tx, x, hp⟩ := ti.ob
    obtain ⟨dx, t, h1, h2⟩ := cy.ob
    have g := cy.ok
    have o := g.ok
    have hr2 : Room 2 _ := hr.mono (by decide)
    have hr3 : Room 3 _ := hr.mono (by decide)
    have hr1 : Room 1 _ := hr.mono (by decide)
    have nS := flds_no t ls.sum (m := "ends") (by decide +kernel) (by decide +kernel)
    obtain ⟨rg1, rg2⟩ := day_rng o d
    refine ⟨_, pss_one (ps_ret (pe_call B.bb.F hr3 rfl B.bb.g B.bb.kp B.bb.b .nil pass0 (pa_cons (pv 1) (pa_cons (pv 2) pa_nil)))), ?_⟩
    exact ⟨_, rfl, _, rfl, c, ls, d, rfl, cy, fun r H' s1 hr' => k r H' s1 hr'⟩
theorem scLaS : FnScope ["self", "day", "cycle"] ["self", "day", "cycle"] (defScope sLaS) := ⟨rfl, rfl, rfl, by decide +kernel, rfl, by decide +kernel, by decide +kernel⟩
theorem ok_LaS {f : Addr} {fd : FuncData} (F : Fun K "sources" "Last.sources" sLaS f fd) (T : Txt K mg C fWhole fBetw fDay fChk) (Y : Ty K mg G cT cN fTI fNI fName fBB fBH fAP) (EE : EndsM P w K mg base C fEnds dEnds) (B : Hlp P w K mg base C fBB fBH fAP dBB dBH dAP) :
    FnOk P w K mg base CX0 4 f fd ["self", "day", "cycle"] (spTie G C .la srcL) := by
  refine F.ok scLaS (fun vs H Q E h => ?_) (fun cdv A outer s H vs Q E hr h => ?_)
  · obtain ⟨p, c, n, ls, d, rfl, _⟩ := h
    rfl
  · obtain ⟨p, c, n, ls, d, rfl, ti, cy, k⟩ := h
    obtain ⟨tx, x, hp⟩ := ti.ob
    obtain ⟨dx, t, h1, h2⟩ := cy.ob
    have g := cy.ok
    have o := g.ok
    have hr2 : Room 2 _ := hr.mono (by decide)
    have hr3 : Room 3 _ := hr.mono (by decide)
    have hr1 : Room 1 _ := hr.mono (by decide)
    have nS := flds_no t ls.sum (m := "ends") (by decide +kernel) (by decide +kernel)
    obtain ⟨rg1, rg2⟩ := day_rng o d
    refine ⟨_, pss_one (ps_ret (pe_tup (pa_cons (pe_op op_sub (pe_ix ix_tup (pe_meth (pv 2) T.cl EE.m EE.F hr2 EE.b .nil pass0 (pa_cons (pv 1) pa_nil)) pe_int (fun _ _ => rfl)) pe_int) pa_nil))), ?_⟩
    exact ⟨_, rfl, c, dx, _, rfl, h1, nS, _, rfl, c, ls, d, rfl, cy, fun q H1 s1 hq => ⟨q, _, _, _, rfl, rfl, SqT.of hq, atI_nat (j := 0) rfl, _, _, rfl, rfl, (by show 1 ≤ sizeLine; decide), fun r hr' => k r _ (s1.trans (same_new hr')) (by rw [upd_same]; rfl)⟩⟩
theorem scSmS : FnScope ["self", "day", "cycle"] ["self", "day", "cycle"] (defScope sSmS) := ⟨rfl, rfl, rfl, by decide +kernel, rfl, by decide +kernel, by decide +kernel⟩
theorem ok_SmS {f : Addr} {fd : FuncData} (F : Fun K "sources" "Same.sources" sSmS f fd) (T : Txt K mg C fWhole fBetw fDay fChk) (Y : Ty K mg G cT cN fTI fNI fName fBB fBH fAP) (EE : EndsM P w K mg base C fEnds dEnds) (B : Hlp P w K mg base C fBB fBH fAP dBB dBH dAP) :
    FnOk P w K mg base CX0 4 f fd ["self", "day", "cycle"] (spTie G C .sm srcL) := by
  refine F.ok scSmS (fun vs H Q E h => ?_) (fun cdv A outer s H vs Q E hr h => ?_)
  · obtain ⟨p, c, n, ls, d, rfl, _⟩ := h
    rfl
  · obtain ⟨p, c, n, ls, d, rfl, ti, cy, k⟩ := h
    obtain ⟨tx, x, hp⟩ := ti.ob
    obtain ⟨dx, t, h1, h2⟩ := cy.ob
    have g := cy.ok
    have o := g.ok
    have hr2 : Room 2 _ := hr.mono (by decide)
    have hr3 : Room 3 _ := hr.mono (by decide)
    have hr1 : Room 1 _ := hr.mono (by decide)
    have nS := flds_no t ls.sum (m := "ends") (by decide +kernel) (by decide +kernel)
    obtain ⟨rg1, rg2⟩ := day_rng o d
    refine ⟨_, pss_one (ps_ret (pe_call B.ap.F hr1 rfl B.ap.g B.ap.kp B.ap.b .nil pass0 (pa_cons (pe_call B.bb.F hr3 rfl B.bb.g B.bb.kp B.bb.b .nil pass0 (pa_cons (pv 1) (pa_cons (pv 2) pa_nil))) (pa_cons (pe_op op_sub (pv 1) (pe_ix ix_tup (pe_meth (pv 2) T.cl EE.m EE.F hr2 EE.b .nil pass0 (pa_cons (pv 1) pa_nil)) pe_int (fun _ _ => rfl))) pa_nil)))), ?_⟩
    refine ⟨_, rfl, _, rfl, c, ls, d, rfl, cy, fun r H0 s0 hr0 => ⟨_, rfl, ?_⟩⟩
    refine ⟨_, rfl, c, dx, _, rfl, s0 _ _ h1, nS, _, rfl, c, ls, d, rfl, cy.same s0, fun q H1 s1 hq => ⟨q, _, _, _, rfl, rfl, SqT.of hq, atI_nat (j := 0) rfl, _, _, rfl, rfl, r, _, _, _, rfl, s1 _ _ hr0, (by omega), fun r2 H' s2 hr2 => k r2 H' (s0.trans (s1.trans s2)) hr2⟩⟩
/-- a method of all six classes -/
structure TieM (P : Program) (w : World) (K : PySem.W.Frag) (mg : Str → Option Value) (base : Heap) (G : Kd → Addr) (C : Addr) (m : Str) (lv : Nat) (L : Kd → Int → List Int → Int → List Int) (fS : Kd → Addr) (dS : Kd → FuncData) : Prop where
  F : ∀ k, FnOk P w K mg base CX0 lv (fS k) (dS k) ["self", "day", "cycle"] (spTie G C k L)
  b : ∀ k, Binds K (dS k) ["self", "day", "cycle"] []
  m : ∀ k, Meth K (G k) m (fS k)
variable {fS : Kd → Addr} {dS : Kd → FuncData}
theorem scBkC : FnScope ["self", "day", "cycle"] ["self", "day", "cycle"] (defScope sBkC) := ⟨rfl, rfl, rfl, by decide +kernel, rfl, by decide +kernel, by decide +kernel⟩
theorem ok_BkC {f : Addr} {fd : FuncData} (F : Fun K "__call__" "Back.__call__" sBkC f fd) (Y : Ty K mg G cT cN fTI fNI fName fBB fBH fAP) (M : TieM P w K mg base G C "sources" 4 srcL fS dS) :
    FnOk P w K mg base CX0 5 f fd ["self", "day", "cycle"] (spTie G C .bk srcL) := by
  refine F.ok scBkC (fun vs H Q E h => ?_) (fun cdv A outer s H vs Q E hr h => ?_)
  · obtain ⟨p, c, n, ls, d, rfl, _⟩ := h
    rfl
  · obtain ⟨p, c, n, ls, d, rfl, ti, cy, k⟩ := h
    obtain ⟨tx, x, hp⟩ := ti.ob
    refine ⟨_, pss_one (ps_ret (pe_meth (pv 0) (Y.cl .bk) (M.m .bk) (M.F .bk) hr (M.b .bk) .nil pass0 (pa_cons (pv 1) (pa_cons (pv 2) pa_nil)))), ?_⟩
    exact ⟨_, rfl, p, tx, _, rfl, hp, tfl_no _ _ _ (by decide +kernel) (by decide +kernel), _, rfl, _, rfl, p, c, n, ls, d, rfl, ti, cy, k⟩
theorem scAhC : FnScope ["self", "day", "cycle"] ["self", "day", "cycle"] (defScope sAhC) := ⟨rfl, rfl, rfl, by decide +kernel, rfl, by decide +kernel, by decide +kernel⟩
theorem ok_AhC {f : Addr} {fd : FuncData} (F : Fun K "__call__" "Ahead.__call__" sAhC f fd) (Y : Ty K mg G cT cN fTI fNI fName fBB fBH fAP) (M : TieM P w K mg base G C "sources" 4 srcL fS dS) :
    FnOk P w K mg base CX0 5 f fd ["self", "day", "cycle"] (spTie G C .ah srcL) := by
  refine F.ok scAhC (fun vs H Q E h => ?_) (fun cdv A outer s H vs Q E hr h => ?_)
  · obtain ⟨p, c, n, ls, d, rfl, _⟩ := h
    rfl
  · obtain ⟨p, c, n, ls, d, rfl, ti, cy, k⟩ := h
    obtain ⟨tx, x, hp⟩ := ti.ob
    refine ⟨_, pss_one (ps_ret (pe_meth (pv 0) (Y.cl .ah) (M.m .ah) (M.F .ah) hr (M.b .ah) .nil pass0 (pa_cons (pv 1) (pa_cons (pv 2) pa_nil)))), ?_⟩
    exact ⟨_, rfl, p, tx, _, rfl, hp, tfl_no _ _ _ (by decide +kernel) (by decide +kernel), _, rfl, _, rfl, p, c, n, ls, d, rfl, ti, cy, k⟩
theorem scSoC : FnScope ["self", "day", "cycle"] ["self", "day", "cycle"] (defScope sSoC) := ⟨rfl, rfl, rfl, by decide +kernel, rfl, by decide +kernel, by decide +kernel⟩
theorem ok_SoC {f : Addr} {fd : FuncData} (F : Fun K "__call__" "Sofar.__call__" sSoC f fd) (Y : Ty K mg G cT cN fTI fNI fName fBB fBH fAP) (M : TieM P w K mg base G C "sources" 4 srcL fS dS) :
    FnOk P w K mg base CX0 5 f fd ["self", "day", "cycle"] (spTie G C .so srcL) := by
  refine F.ok scSoC (fun vs H Q E h => ?_) (fun cdv A outer s H vs Q E hr h => ?_)
  · obtain ⟨p, c, n, ls, d, rfl, _⟩ := h
    rfl
  · obtain ⟨p, c, n, ls, d, rfl, ti, cy, k⟩ := h
    obtain ⟨tx, x, hp⟩ := ti.ob
    refine ⟨_, pss_one (ps_ret (pe_meth (pv 0) (Y.cl .so) (M.m .so) (M.F .so) hr (M.b .so) .nil pass0 (pa_cons (pv 1) (pa_cons (pv 2) pa_nil)))), ?_⟩
    exact ⟨_, rfl, p, tx, _, rfl, hp, tfl_no _ _ _ (by decide +kernel) (by decide +kernel), _, rfl, _, rfl, p, c, n, ls, d, rfl, ti, cy, k⟩
theorem scWhC : FnScope ["self", "day", "cycle"] ["self", "day", "cycle"] (defScope sWhC) := ⟨rfl, rfl, rfl, by decide +kernel, rfl, by decide +kernel, by decide +kernel⟩
theorem ok_WhC {f : Addr} {fd : FuncData} (F : Fun K "__call__" "Whole.__call__" sWhC f fd) (Y : Ty K mg G cT cN fTI fNI fName fBB fBH fAP) (M : TieM P w K mg base G C "sources" 4 srcL fS dS) :
    FnOk P w K mg base CX0 5 f fd ["self", "day", "cycle"] (spTie G C .wh srcL) := by
  refine F.ok scWhC (fun vs H Q E h => ?_) (fun cdv A outer s H vs Q E hr h => ?_)
  · obtain ⟨p, c, n, ls, d, rfl, _⟩ := h
    rfl
  · obtain ⟨p, c, n, ls, d, rfl, ti, cy, k⟩ := h
    obtain ⟨tx, x, hp⟩ := ti.ob
    refine ⟨_, pss_one (ps_ret (pe_meth (pv 0) (Y.cl .wh) (M.m .wh) (M.F .wh) hr (M.b .wh) .nil pass0 (pa_cons (pv 1) (pa_cons (pv 2) pa_nil)))), ?_⟩
    exact ⟨_, rfl, p, tx, _, rfl, hp, tfl_no _ _ _ (by decide +kernel) (by decide +kernel), _, rfl, _, rfl, p, c, n, ls, d, rfl, ti, cy, k⟩
theorem scLaC : FnScope ["self", "day", "cycle"] ["self", "day", "cycle"] (defScope sLaC) := ⟨rfl, rfl, rfl, by decide +kernel, rfl, by decide +kernel, by decide +kernel⟩
theorem ok_LaC {f : Addr} {fd : FuncData} (F : Fun K "__call__" "Last.__call__" sLaC f fd) (Y : Ty K mg G cT cN fTI fNI fName fBB fBH fAP) (M : TieM P w K mg base G C "sources" 4 srcL fS dS) :
    FnOk P w K mg base CX0 5 f fd ["self", "day", "cycle"] (spTie G C .la srcL) := by
  refine F.ok scLaC (fun vs H Q E h => ?_) (fun cdv A outer s H vs Q E hr h => ?_)
  · obtain ⟨p, c, n, ls, d, rfl, _⟩ := h
    rfl
  · obtain ⟨p, c, n, ls, d, rfl, ti, cy, k⟩ := h
    obtain ⟨tx, x, hp⟩ := ti.ob
    refine ⟨_, pss_one (ps_ret (pe_meth (pv 0) (Y.cl .la) (M.m .la) (M.F .la) hr (M.b .la) .nil pass0 (pa_cons (pv 1) (pa_cons (pv 2) pa_nil)))), ?_⟩
    exact ⟨_, rfl, p, tx, _, rfl, hp, tfl_no _ _ _ (by decide +kernel) (by decide +kernel), _, rfl, _, rfl, p, c, n, ls, d, rfl, ti, cy, k⟩
theorem scSmC : FnScope ["self", "day", "cycle"] ["self", "day", "cycle"] (defScope sSmC) := ⟨rfl, rfl, rfl, by decide +kernel, rfl, by decide +kernel, by decide +kernel⟩
theorem ok_SmC {f : Addr} {fd : FuncData} (F : Fun K "__call__" "Same.__call__" sSmC f fd) (Y : Ty K mg G cT cN fTI fNI fName fBB fBH fAP) (M : TieM P w K mg base G C "sources" 4 srcL fS dS) :
    FnOk P w K mg base CX0 5 f fd ["self", "day", "cycle"] (spTie G C .sm srcL) := by
  refine F.ok scSmC (fun vs H Q E h => ?_) (fun cdv A outer s H vs Q E hr h => ?_)
  · obtain ⟨p, c, n, ls, d, rfl, _⟩ := h
    rfl
  · obtain ⟨p, c, n, ls, d, rfl, ti, cy, k⟩ := h
    obtain ⟨tx, x, hp⟩ := ti.ob
    refine ⟨_, pss_one (ps_ret (pe_meth (pv 0) (Y.cl .sm) (M.m .sm) (M.F .sm) hr (M.b .sm) .nil pass0 (pa_cons (pv 1) (pa_cons (pv 2) pa_nil)))), ?_⟩
    exact ⟨_, rfl, p, tx, _, rfl, hp, tfl_no _ _ _ (by decide +kernel) (by decide +kernel), _, rfl, _, rfl, p, c, n, ls, d, rfl, ti, cy, k⟩
end
end My
namespace My
open PySem PySem.Spec PyProof.Rows L2
abbrev sTieOf : Stmt := top 45
abbrev sPlain : Stmt := top 47
theorem pe_exK {X : Cx} {e : Expr} {t : Kd → TE} (h : ∀ k, PE X e (t k)) : PE X e (fun σ H Q => ∃ k, t k σ H Q) := ⟨fun pins s σ H Q I ⟨k, q⟩ => (h k).run pins s σ H Q I q⟩
theorem ite_ne {A B : Prop} {a b : Str} (h : ¬ a = b) (k : B) : if decide (V.str a = V.str b) = true then A else B := by
  rw [decide_eq_false (fun z => h (V.str.inj z))]
  exact iteF k
theorem ite_eq {A B : Prop} {a : Str} (k : A) : if decide (V.str a = V.str a) = true then A else B := by
  rw [decide_eq_true rfl]
  exact iteT k
def wordOf : Kd → Str
  | .bk => "back"
  | .ah => "ahead"
  | .so => "sofar"
  | .wh => "whole"
  | .la => "last"
  | .sm => "same"
def numV (k : Kd) (n : Int) : V := if isNum k then .int n else .non
/-- a number that a tie of the kind may have; 0 where it has none -/
structure NumOk (k : Kd) (n : Int) : Prop where
  lo : 0 ≤ n
  ah : k = .ah → 1 ≤ n
  hi : n ≤ 60
  no : isNum k = false → n = 0
section
variable {P : Program} {w : World} {K : PySem.W.Frag} {mg : Str → Option Value} {base : Heap} {C fWhole fBetw fDay fChk : Addr} {G : Kd → Addr} {cT cN fTI fNI fName fBB fBH fAP : Addr}
/-- the six classes, made -/
structure MkT (P : Program) (w : World) (K : PySem.W.Frag) (mg : Str → Option Value) (base : Heap) (G : Kd → Addr) (fI : Kd → Addr) (dI : Kd → FuncData) : Prop where
  fn : ∀ k, isNum k = true → FnOk P w K mg base CX0 4 (fI k) (dI k) ["self", "source", "number"] (spInitN G k)
  bn : ∀ k, isNum k = true → Binds K (dI k) ["self", "source", "number"] []
  fp : ∀ k, isNum k = false → FnOk P w K mg base CX0 4 (fI k) (dI k) ["self", "source"] (spInitP G k)
  bp : ∀ k, isNum k = false → Binds K (dI k) ["self", "source"] []
  m : ∀ k, Mk K (G k) (fI k)
variable {fI : Kd → Addr} {dI : Kd → FuncData}
structure TieX (G : Kd → Addr) (H : Hp) (p : Addr) (k : Kd) (n : Int) (x : Str) : Prop where
  ob : ∃ dx, H p = some (.ins (G k) dx (tfl k x n))
theorem TieX.at_ {G : Kd → Addr} {H : Hp} {p : Addr} {k : Kd} {n : Int} {x : Str} (c : TieX G H p k n x) : TieAt G H p k n := ⟨let ⟨dx, h⟩ := c.ob; ⟨dx, x, h⟩⟩
theorem TieX.same {G : Kd → Addr} {H H' : Hp} {p : Addr} {k : Kd} {n : Int} {x : Str} (c : TieX G H p k n x) (s : Same H H') : TieX G H' p k n x := ⟨let ⟨dx, h⟩ := c.ob; ⟨dx, s _ _ h⟩⟩
theorem TieX.but {G : Kd → Addr} {H H' : Hp} {p q : Addr} {k : Kd} {n : Int} {x : Str} (c : TieX G H p k n x) (s : SameBut q H H') {xs : List V} (hq : H q = some (.lst xs)) : TieX G H' p k n x :=
  ⟨let ⟨dx, h⟩ := c.ob; ⟨dx, s _ _ (ne_of h hq (by intro z; cases z)) h⟩⟩
theorem made_num {k : Kd} {H : Hp} {x : Str} {n : Int} {Q : VK} {E : XK} (nm : NameOk x) (ok : NumOk k n) (kk : ∀ p H', Same H H' → H p = none → TieX G H' p k n x → Q (.ref p) H') :
    ∀ p dx, H p = none → H dx = none → dx ≠ p → spInitN G k (.ref p :: ([.str x, .int n] ++ [])) (upd (upd H dx (.own p)) p (.ins (G k) dx [])) (fun v H2 => v = .non ∧ Q (.ref p) H2) E := fun p dx np nd ne =>
  ⟨p, dx, x, n, rfl, nm, upd_same, ok.lo, ok.ah, ok.hi, fun H' keep hp => ⟨rfl, kk p H' (fun b o e => keep b o (by rw [upd_ne (ne_of_none e np), upd_ne (ne_of_none e nd)]; exact e) (ne_of_none e np)) np ⟨dx, hp⟩⟩⟩
theorem made_pl {k : Kd} {H : Hp} {x : Str} {Q : VK} {E : XK} (nm : NameOk x) (kk : ∀ p H', Same H H' → H p = none → TieX G H' p k 0 x → Q (.ref p) H') :
    ∀ p dx, H p = none → H dx = none → dx ≠ p → spInitP G k (.ref p :: ([.str x] ++ [])) (upd (upd H dx (.own p)) p (.ins (G k) dx [])) (fun v H2 => v = .non ∧ Q (.ref p) H2) E := fun p dx np nd ne =>
  ⟨p, dx, x, rfl, nm, upd_same, fun H' keep hp => ⟨rfl, kk p H' (fun b o e => keep b o (by rw [upd_ne (ne_of_none e np), upd_ne (ne_of_none e nd)]; exact e) (ne_of_none e np)) np ⟨dx, hp⟩⟩⟩
def spTieOf (G : Kd → Addr) : Sp := fun vs H Q _ => ∃ (t : Addr) (k : Kd) (n : Int) (x : Str), vs = [.ref t] ∧ H t = some (.tup [.str (wordOf k), numV k n, .str x]) ∧ NameOk x ∧ NumOk k n ∧ ∀ p H', Same H H' → H p = none → TieX G H' p k n x → Q (.ref p) H'
theorem scTieOf : FnScope ["_law_plain_here", "_law_word", "_law_number_so", "_law_label"] ["_law_plain_here"] (defScope sTieOf) := ⟨rfl, rfl, rfl, by decide +kernel, rfl, by decide +kernel, by decide +kernel⟩
theorem ok_tieOf {f : Addr} {fd : FuncData} (F : Fun K "_law_tie" "_law_tie" sTieOf f fd) (Y : Ty K mg G cT cN fTI fNI fName fBB fBH fAP) (M : MkT P w K mg base G fI dI) : FnOk P w K mg base CX0 6 f fd ["_law_plain_here"] (spTieOf G) := by
  refine F.ok scTieOf (fun vs H Q E h => ?_) (fun cdv A outer s H vs Q E hr h => ?_)
  · obtain ⟨t, k, n, x, rfl, _⟩ := h
    rfl
  · obtain ⟨t, k, n, x, rfl, ht, nm, ok, kk⟩ := h
    refine ⟨_, pss_cons (ps_asg (pv 0) (pg_tup rfl (pgs_cons (pg_name (i := 1) scTieOf.nd rfl (.inl rfl)) (pgs_cons (pg_name (i := 2) scTieOf.nd rfl (.inl rfl)) (pgs_cons (pg_name (i := 3) scTieOf.nd rfl (.inl rfl)) pgs_nil)))))
      (pss_cons (ps_if (pt_cmpR op_eq (pv 1) pe_str (nomark _)) (pss_one (ps_ret (pe_make (M.m .bk) (M.fn .bk rfl) hr rfl Y.gBk (M.bn .bk rfl) .nil pass0 (pa_cons (pv 3) (pa_cons (pv 2) pa_nil))))) pss_nil)
      (pss_cons (ps_if (pt_cmpR op_eq (pv 1) pe_str (nomark _)) (pss_one (ps_ret (pe_make (M.m .ah) (M.fn .ah rfl) hr rfl Y.gAh (M.bn .ah rfl) .nil pass0 (pa_cons (pv 3) (pa_cons (pv 2) pa_nil))))) pss_nil)
      (pss_cons (ps_if (pt_cmpR op_eq (pv 1) pe_str (nomark _)) (pss_one (ps_ret (pe_make (M.m .so) (M.fp .so rfl) hr rfl Y.gSo (M.bp .so rfl) .nil pass0 (pa_cons (pv 3) pa_nil)))) pss_nil)
      (pss_cons (ps_if (pt_cmpR op_eq (pv 1) pe_str (nomark _)) (pss_one (ps_ret (pe_make (M.m .wh) (M.fp .wh rfl) hr rfl Y.gWh (M.bp .wh rfl) .nil pass0 (pa_cons (pv 3) pa_nil)))) pss_nil)
      (pss_one (ps_ret (pe_ifExp (pt_cmpR op_eq (pv 1) pe_str (nomark _)) (pe_make (M.m .la) (M.fp .la rfl) hr rfl Y.gLa (M.bp .la rfl) .nil pass0 (pa_cons (pv 3) pa_nil)) (pe_make (M.m .sm) (M.fp .sm rfl) hr rfl Y.gSm (M.bp .sm rfl) .nil pass0 (pa_cons (pv 3) pa_nil)))))))))
      , ?_⟩
    refine ⟨_, rfl, t, _, rfl, SqT.of ht, rfl, _, _, rfl, _, _, rfl, _, _, rfl, rfl, ?_⟩
    refine ⟨_, rfl, rfl, _, rfl, ?_⟩
    cases k with
    | bk => exact ite_eq ⟨_, rfl, _, rfl, made_num nm ok kk⟩
    | ah => exact ite_ne (by decide +kernel) ⟨_, rfl, rfl, _, rfl, ite_eq ⟨_, rfl, _, rfl, made_num nm ok kk⟩⟩
    | so =>
      obtain rfl := ok.no rfl
      exact ite_ne (by decide +kernel) ⟨_, rfl, rfl, _, rfl, ite_ne (by decide +kernel) ⟨_, rfl, rfl, _, rfl, ite_eq ⟨_, rfl, made_pl nm kk⟩⟩⟩
    | wh =>
      obtain rfl := ok.no rfl
      exact ite_ne (by decide +kernel) ⟨_, rfl, rfl, _, rfl, ite_ne (by decide +kernel) ⟨_, rfl, rfl, _, rfl, ite_ne (by decide +kernel) ⟨_, rfl, rfl, _, rfl, ite_eq ⟨_, rfl, made_pl nm kk⟩⟩⟩⟩
    | la =>
      obtain rfl := ok.no rfl
      exact ite_ne (by decide +kernel) ⟨_, rfl, rfl, _, rfl, ite_ne (by decide +kernel) ⟨_, rfl, rfl, _, rfl, ite_ne (by decide +kernel) ⟨_, rfl, rfl, _, rfl, ite_ne (by decide +kernel) ⟨_, rfl, rfl, _, rfl, ite_eq ⟨_, rfl, made_pl nm kk⟩⟩⟩⟩⟩
    | sm =>
      obtain rfl := ok.no rfl
      exact ite_ne (by decide +kernel) ⟨_, rfl, rfl, _, rfl, ite_ne (by decide +kernel) ⟨_, rfl, rfl, _, rfl, ite_ne (by decide +kernel) ⟨_, rfl, rfl, _, rfl, ite_ne (by decide +kernel) ⟨_, rfl, rfl, _, rfl, ite_ne (by decide +kernel) ⟨_, rfl, made_pl nm kk⟩⟩⟩⟩⟩
variable {fDraw fPick : Addr} {fdD fdP : FuncData}
def spPlain : Sp := fun vs H Q _ => ∃ (p l a : Addr) (N : Int) (xs : List Str), vs = [.ref p, .ref a] ∧ PenAt H p l N ∧ N ≤ 50000 ∧ H a = some (.lst (xs.map V.str)) ∧ a ≠ p ∧ 0 < xs.length ∧ xs.length ≤ 100 ∧ (∀ x ∈ xs, NameOk x) ∧
  ∀ t k n x H', SameBut p H H' → PenAt H' p l (N + 4) → H' t = some (.tup [.str (wordOf k), numV k n, .str x]) → NameOk x → NumOk k n → Q (.ref t) H'
theorem scPlain : FnScope ["_law_pen_here", "_law_labels", "_law_word", "_law_number_so"] ["_law_pen_here", "_law_labels"] (defScope sPlain) := ⟨rfl, rfl, rfl, by decide +kernel, rfl, by decide +kernel, by decide +kernel⟩
theorem in_two (k : Kd) : inV (.str (wordOf k)) [.str "back", .str "ahead"] = isNum k := by cases k <;> decide +kernel
theorem inV_two {k : Kd} {A B : Prop} (h1 : isNum k = true → A) (h0 : isNum k = false → B) : if (if false = true then !inV (.str (wordOf k)) [.str "back", .str "ahead"] else inV (.str (wordOf k)) [.str "back", .str "ahead"]) = true then A else B := by
  rw [in_two k]
  cases e : isNum k with
  | true => exact iteT (h1 e)
  | false => exact iteF (h0 e)
set_option maxHeartbeats 8000000 in
theorem ok_plain {f : Addr} {fd : FuncData} (F : Fun K "_law_plain" "_law_plain" sPlain f fd) (T : Txt K mg C fWhole fBetw fDay fChk) (Y : Ty K mg G cT cN fTI fNI fName fBB fBH fAP) (D : Df P w K mg base "_law_draw" 1 fDraw fdD ["_law_pen_here", "_law_many"] spDraw)
    (I : Df P w K mg base "_law_pick" 2 fPick fdP ["_law_pen_here", "_law_some"] spPick) : FnOk P w K mg base CX0 3 f fd ["_law_pen_here", "_law_labels"] spPlain := by
  refine F.ok scPlain (fun vs H Q E h => ?_) (fun cdv A outer s H vs Q E hr h => ?_)
  · obtain ⟨p, l, a, N, xs, rfl, _⟩ := h
    rfl
  · obtain ⟨p, l, a, N, xs, rfl, pen, hN, ha, nap, z0, z1, nms, kk⟩ := h
    have hr1 : Room 1 _ := hr.mono (by decide)
    refine ⟨_, pss_cons (ps_set (i := 2) scPlain.nd rfl (Or.inl rfl) (pe_call I.F hr rfl I.g I.kp I.b .nil pass0 (pa_cons (pv 0) (pa_cons (pe_lst (pa_cons pe_str (pa_cons pe_str (pa_cons pe_str (pa_cons pe_str (pa_cons pe_str (pa_cons pe_str (pa_cons pe_str pa_nil)))))))) pa_nil))))
      (pss_cons (ps_set (i := 3) scPlain.nd rfl (Or.inl rfl) pe_non)
      (pss_cons (ps_if (pt_cmpR op_in_seq (pv 2) (pe_tup (pa_cons pe_str (pa_cons pe_str pa_nil))) (by rfl))
        (pss_one (ps_set (i := 3) scPlain.nd rfl (Or.inl rfl) (pe_callB (call_max2 rfl) (by rfl) Y.zMax (by decide +kernel) (pa_cons (pe_callTy call_int1 (by rfl) T.zInt (by decide +kernel) (pa_cons (pe_cmpR op_eq (pv 2) pe_str (nomark _)) pa_nil))
          (pa_cons (pe_call I.F hr rfl I.g I.kp I.b .nil pass0 (pa_cons (pv 0) (pa_cons (pe_lst (pa_cons pe_int (pa_cons pe_int (pa_cons pe_int (pa_cons pe_int (pa_cons pe_int (pa_cons (pe_call D.F hr1 rfl D.g D.kp D.b .nil pass0 (pa_cons (pv 0) (pa_cons pe_int pa_nil))) pa_nil))))))) pa_nil))) pa_nil))))) pss_nil)
      (pss_one (ps_ret (pe_tup (pa_cons (pv 2) (pa_cons (pv 3) (pa_cons (pe_call I.F hr rfl I.g I.kp I.b .nil pass0 (pa_cons (pv 0) (pa_cons (pv 1) pa_nil))) pa_nil)))))))), ?_⟩
    obtain ⟨px, hp⟩ := pen.lst
    refine ⟨_, rfl, by show 7 ≤ sizeLine; decide, fun q nq => ?_⟩
    have nqp : q ≠ p := Ne.symm (ne_of_none hp nq)
    have naq : a ≠ q := ne_of_none ha nq
    refine ⟨p, l, q, N, _, rfl, pen.same (same_new nq), by omega, upd_same, nqp, by show 0 < 7; decide, by show 7 ≤ 1000; decide, fun i v H1 hi sb1 pen1 => ?_⟩
    obtain ⟨k, rfl⟩ : ∃ k, v = .str (wordOf k) := by
      have hv := List.mem_of_getElem? hi
      simp only [List.mem_cons, List.not_mem_nil, or_false] at hv
      rcases hv with rfl | rfl | rfl | rfl | rfl | rfl | rfl
      · exact ⟨.bk, rfl⟩
      · exact ⟨.bk, rfl⟩
      · exact ⟨.ah, rfl⟩
      · exact ⟨.so, rfl⟩
      · exact ⟨.wh, rfl⟩
      · exact ⟨.la, rfl⟩
      · exact ⟨.sm, rfl⟩
    have sb1' : SameBut p H H1 := (Same.but (same_new nq)).trans sb1
    -- the end: the label is drawn, the tuple laid
    have fin : ∀ (n : Int) (H2 : Hp), SameBut p H H2 → PenAt H2 p l (N + 3) → NumOk k n → ∃ (p' l' a' : Addr) (N' : Int) (ys : List V), ([.ref p, .ref a] : List V) = [.ref p', .ref a'] ∧ PenAt H2 p' l' N' ∧ N' ≤ 100000 ∧ H2 a' = some (.lst ys) ∧ a' ≠ p' ∧ 0 < ys.length ∧ ys.length ≤ 1000 ∧
        ∀ (i : Nat) (v : V) (H' : Hp), ys[i]? = some v → SameBut p' H2 H' → PenAt H' p' l' (N' + 1) → 3 ≤ sizeLine ∧ ∀ t, H' t = none → Q (.ref t) (upd H' t (.tup [.str (wordOf k), numV k n, v])) := by
      intro n H2 sb2 pen2 ok
      refine ⟨p, l, a, N + 3, xs.map V.str, rfl, pen2, by omega, sb2 _ _ nap ha, nap, by rw [List.length_map]; exact z0, by rw [List.length_map]; omega, fun j v H3 hj sb3 pen3 => ⟨by decide, fun t nt => ?_⟩⟩
      rw [List.getElem?_map] at hj
      obtain ⟨x, hx, rfl⟩ := Option.map_eq_some_iff.mp hj
      exact kk t k n x _ (sb2.trans (sb3.trans (Same.but (same_new nt)))) ((pen3.same (same_new nt)).le (by omega)) upd_same (nms x (List.mem_of_getElem? hx)) ok
    refine ⟨_, rfl, by show 2 ≤ sizeLine; decide, fun T2 nT2 => ?_⟩
    have s2 := same_new (o := .tup [.str "back", .str "ahead"]) nT2
    refine ⟨T2, _, rfl, .inr (SqT.of upd_same), rfl, by rfl, _, rfl, ?_⟩
    refine inV_two (fun hk => ?_) (fun hk => ?_)
    · refine ⟨_, rfl, rfl, .inr ⟨_, rfl, ?_⟩⟩
      refine ⟨_, rfl, _, rfl, p, l, N + 1, 61, rfl, pen1.same s2, by decide, log_small (by decide) (by decide), by omega, fun r H3 r0 r1 sb3 pen3 => ⟨by show 6 ≤ sizeLine; decide, fun q3 nq3 => ?_⟩⟩
      obtain ⟨px3, hp3⟩ := pen3.lst
      refine ⟨p, l, q3, N + 2, _, rfl, (pen3.same (same_new nq3)).le (by omega), by omega, upd_same, Ne.symm (ne_of_none hp3 nq3), by show 0 < 6; decide, by show 6 ≤ 1000; decide, fun j v H4 hj sb4 pen4 => ?_⟩
      obtain ⟨m, rfl, m0, m1⟩ : ∃ m : Int, v = .int m ∧ 0 ≤ m ∧ m ≤ 60 := by
        have hv := List.mem_of_getElem? hj
        simp only [List.mem_cons, List.not_mem_nil, or_false] at hv
        rcases hv with rfl | rfl | rfl | rfl | rfl | rfl
        · exact ⟨_, rfl, by decide, by decide⟩
        · exact ⟨_, rfl, by decide, by decide⟩
        · exact ⟨_, rfl, by decide, by decide⟩
        · exact ⟨_, rfl, by decide, by decide⟩
        · exact ⟨_, rfl, by decide, by decide⟩
        · exact ⟨_, rfl, by omega, by omega⟩
      refine ⟨_, _, rfl, ?_⟩
      have sb4' : SameBut p H H4 := sb1'.trans ((Same.but s2).trans (sb3.trans ((Same.but (same_new nq3)).trans sb4)))
      have num : ∀ n : Int, NumOk k n → numV k n = .int n := fun n _ => by unfold numV; rw [if_pos hk]
      generalize hz : (if m > (if decide (V.str (wordOf k) = V.str "ahead") = true then (1 : Int) else 0) then m else (if decide (V.str (wordOf k) = V.str "ahead") = true then (1 : Int) else 0)) = z
      have ok : NumOk k z := by
        cases k with
        | bk =>
          have e : decide (V.str (wordOf .bk) = V.str "ahead") = false := decide_eq_false (fun q => absurd (V.str.inj q) (by decide +kernel))
          rw [e] at hz
          simp only [Bool.false_eq_true, if_false] at hz
          exact ⟨by split at hz <;> omega, (fun q => nomatch q), by split at hz <;> omega, (fun q => nomatch q)⟩
        | ah =>
          have e : decide (V.str (wordOf .ah) = V.str "ahead") = true := decide_eq_true rfl
          rw [e] at hz
          simp only [if_true] at hz
          exact ⟨by split at hz <;> omega, (fun _ => by split at hz <;> omega), by split at hz <;> omega, (fun q => nomatch q)⟩
        | so => cases hk
        | wh => cases hk
        | la => cases hk
        | sm => cases hk
      have h := fin z H4 sb4' (pen4.le (by omega)) ok
      rw [num z ok] at h
      exact ⟨_, rfl, _, rfl, _, rfl, _, rfl, h⟩
    · have h := fin 0 (upd H1 T2 (.tup [.str "back", .str "ahead"])) (sb1'.trans (Same.but s2)) ((pen1.same s2).le (by omega)) ⟨by decide, (fun q => by rw [q] at hk; cases hk), by decide, fun _ => rfl⟩
      have e : numV k 0 = .non := by unfold numV; rw [hk]; rfl
      rw [e] at h
      exact ⟨_, rfl, _, rfl, _, rfl, _, rfl, h⟩
theorem shaped_tints (ns : List Int) : SeqAt.shaped (.tuple (ns.map PyData.int)) = true := by
  have h1 := PySem.W.depthAll_ints ns
  have h2 : PyData.depth (.tuple (ns.map PyData.int)) ≤ 64 := by simp only [PyData.depth]; omega
  show (PyData.canLay0 (.tuple (ns.map PyData.int)) && decide (PyData.depth (.tuple (ns.map PyData.int)) ≤ 64)) = true
  rw [Bool.and_eq_true]
  exact ⟨by simp only [PyData.canLay0]; exact PySem.W.canLayAll0_ints ns, decide_eq_true h2⟩
theorem eqvAll_ints : ∀ ns : List Int, PyData.eqvAll (ns.map PyData.int) (ns.map PyData.int) = true
  | [] => by simp [PyData.eqvAll]
  | n :: r => by simp [PyData.eqvAll, PyData.eqv, eqvAll_ints r]
theorem eqv_tints {xs ys : List Int} (h : xs = ys) : PyData.eqv (.tuple (xs.map PyData.int)) (.tuple (ys.map PyData.int)) = true := by
  subst h
  show PyData.eqvAll _ _ = true
  exact eqvAll_ints xs
theorem ne_tups {H : Hp} {a b : Addr} {xs ys : List Int} {Q : VK} (ha : H a = some (.tup (xs.map V.int))) (hb : H b = some (.tup (ys.map V.int))) (h : xs = ys) (k : Q (.bl false) H) : rNeD K (.ref a) (.ref b) H Q := by
  refine ⟨_, _, .tup (SqT.of ha) (dp_ints xs), .tup (SqT.of hb) (dp_ints ys), shaped_tints xs, shaped_tints ys, ?_⟩
  rw [eqv_tints h]
  exact k
theorem eq_tups {H : Hp} {a b : Addr} {xs ys : List Int} {Q : VK} (ha : H a = some (.tup (xs.map V.int))) (hb : H b = some (.tup (ys.map V.int))) (h : xs = ys) (k : Q (.bl true) H) : rEqD K (.ref a) (.ref b) H Q := by
  refine ⟨_, _, .tup (SqT.of ha) (dp_ints xs), .tup (SqT.of hb) (dp_ints ys), shaped_tints xs, shaped_tints ys, ?_⟩
  rw [eqv_tints h]
  exact k
end
end My
namespace My
open PySem PySem.Spec PyProof.Rows L2
abbrev sBkE : Stmt := inClass (top 24) 4
abbrev sAhE : Stmt := inClass (top 25) 4
abbrev sSoE : Stmt := inClass (top 26) 4
abbrev sWhE : Stmt := inClass (top 27) 4
abbrev sLaE : Stmt := inClass (top 28) 4
abbrev sSmE : Stmt := inClass (top 29) 4
abbrev sBlk : Stmt := top 43
abbrev sDays : Stmt := top 46
section
variable {P : Program} {w : World} {K : PySem.W.Frag} {mg : Str → Option Value} {base : Heap} {C fWhole fBetw fDay fChk : Addr} {G : Kd → Addr} {cT cN fTI fNI fName fBB fBH fAP : Addr}
variable {fS fU fC fI : Kd → Addr} {dS dU dC dI : Kd → FuncData}
theorem tie_call {σ : L2.St} {H : Hp} {p c : Addr} {ls : List Int} {d n : Int} {k : Kd} {m : Str} {L : Kd → Int → List Int → Int → List Int} {te : TE} {i j : Nat} {Q : VK} (h0 : σ[i]? = some (some (.ref p))) (ti : TieAt G H p k n) (hm1 : ¬ m = "number") (hm2 : ¬ m = "source")
    (hte : ∀ Q' : VK, Q' (.int d) H → te σ H Q') (h1 : σ[j]? = some (some (.ref c))) (cy : CycAt C H c ls) (kk : ∀ r H', Same H H' → H' r = some (.tup ((L k n ls d).map V.int)) → Q (.ref r) H') :
    ∃ k, tMeth (G k) m (spTie G C k L) [] E0 (tVar i) (tCons te (tCons (tVar j) tNil)) σ H Q := by
  obtain ⟨dx, x, hp⟩ := ti.ob
  exact ⟨k, _, h0, p, dx, _, rfl, hp, tfl_no _ _ _ hm1 hm2, hte _ ⟨_, h1, p, c, n, ls, d, rfl, ti, cy, kk⟩⟩
theorem o_call {X : Cx} {σ : L2.St} {H : Hp} {p c : Addr} {ls : List Int} {d n : Int} {k : Kd} {te : TE} {i j : Nat} {Q : VK} (h0 : σ[i]? = some (some (.ref p))) (ti : TieAt G H p k n) (hte : ∀ Q' : VK, Q' (.int d) H → te σ H Q') (h1 : σ[j]? = some (some (.ref c))) (cy : CycAt C H c ls)
    (kk : ∀ r H', Same H H' → H' r = some (.tup ((srcL k n ls d).map V.int)) → Q (.ref r) H') : StX.tCallO X (G k) (fun vs H Q E => spTie G C k srcL (vs ++ []) H Q E) E0 (tVar i) (tCons te (tCons (tVar j) tNil)) σ H Q := by
  obtain ⟨dx, x, hp⟩ := ti.ob
  exact ⟨_, h0, p, rfl, hte _ ⟨_, h1, .inr ⟨dx, _, hp⟩, p, c, n, ls, d, rfl, ti, cy, kk⟩⟩
theorem sl_call {H : Hp} {a : Addr} {xs : List V} {lo hi : Option Int} {Q : VK} (ha : H a = some (.tup xs)) (kk : ∀ r H', Same H H' → H' r = some (.tup (cutV xs lo hi)) → Q (.ref r) H') : rSlA K (.ref a) lo hi H Q :=
  ⟨a, xs, rfl, SqT.of ha, fun full => kk a H (Same.refl H) (by rw [ha, full_cut full]), fun _ r nr => kk r _ (same_new nr) upd_same⟩
theorem opr_ex {X : Cx} {c : Value → Value → Sem Value} {r : Kd → R2} (h : ∀ k, OpR X c (r k)) : OpR X c (fun x y H Q => ∃ k, r k x y H Q) := fun pins s σ H x y v u Q I rx ry ⟨k, q⟩ => h k pins s σ H x y v u Q I rx ry q
def spEq (G : Kd → Addr) (k : Kd) : Sp := fun vs H Q _ => ∃ (p q : Addr) (n : Int) (x : Str), vs = [.ref p, .ref q] ∧ TieX G H p k n x ∧ TieX G H q k n x ∧ Q (.bl true) H
theorem tfl_src (k : Kd) (x : Str) (n : Int) : (tfl k x n).lookup ("source" : Str) = some (.str x) := by
  unfold tfl
  split
  · rw [lookup_putF, if_neg num_ne, lookup_putF, if_pos rfl]
  · rw [lookup_putF, if_pos rfl]
theorem scBkE : FnScope ["self", "other"] ["self", "other"] (defScope sBkE) := ⟨rfl, rfl, rfl, by decide +kernel, rfl, by decide +kernel, by decide +kernel⟩
theorem ok_BkE {f : Addr} {fd : FuncData} (F : Fun K "__eq__" "Back.__eq__" sBkE f fd) (T : Txt K mg C fWhole fBetw fDay fChk) (Y : Ty K mg G cT cN fTI fNI fName fBB fBH fAP) (is : C8.InsC K (G .bk)) : FnOk P w K mg base CX0 1 f fd ["self", "other"] (spEq G .bk) := by
  refine F.ok scBkE (fun vs H Q E h => ?_) (fun cdv A outer s H vs Q E hr h => ?_)
  · obtain ⟨p, q, n, x, rfl, _⟩ := h
    rfl
  · obtain ⟨p, q, n, x, rfl, ⟨dx, hp⟩, ⟨dy, hq⟩, k⟩ := h
    refine ⟨_, pss_one (ps_ret (pe_and (pe_callB (C8.call_isC is) (by rfl) T.zIsi (by decide +kernel) (pa_cons (pv 1) (pa_cons (pe_glob (v := .ref (G .bk)) rfl Y.gBk rfl) pa_nil))) (pe_and (pe_cmpR op_eq (pe_fld (pv 0) rfl) (pe_fld (pv 1) rfl) (nomark _)) (pe_one (pe_cmpR op_eq (pe_fld (pv 0) rfl) (pe_fld (pv 1) rfl) (nomark _)))))), ?_⟩
    refine ⟨_, rfl, q, dy, _, rfl, hq, _, rfl, iteT ⟨_, rfl, p, G .bk, dx, _, _, rfl, hp, Y.cl _, Y.nS _, tfl_src _ _ _, _, rfl, q, G .bk, dy, _, _, rfl, hq, Y.cl _, Y.nS _, tfl_src _ _ _, rfl, _, rfl, ?_⟩⟩
    rw [decide_eq_true rfl]
    refine iteT ⟨_, rfl, p, G .bk, dx, _, _, rfl, hp, Y.cl _, Y.nN _, tfl_num rfl _ _, _, rfl, q, G .bk, dy, _, _, rfl, hq, Y.cl _, Y.nN _, tfl_num rfl _ _, rfl, ?_⟩
    rw [decide_eq_true rfl]
    exact k
theorem scAhE : FnScope ["self", "other"] ["self", "other"] (defScope sAhE) := ⟨rfl, rfl, rfl, by decide +kernel, rfl, by decide +kernel, by decide +kernel⟩
theorem ok_AhE {f : Addr} {fd : FuncData} (F : Fun K "__eq__" "Ahead.__eq__" sAhE f fd) (T : Txt K mg C fWhole fBetw fDay fChk) (Y : Ty K mg G cT cN fTI fNI fName fBB fBH fAP) (is : C8.InsC K (G .ah)) : FnOk P w K mg base CX0 1 f fd ["self", "other"] (spEq G .ah) := by
  refine F.ok scAhE (fun vs H Q E h => ?_) (fun cdv A outer s H vs Q E hr h => ?_)
  · obtain ⟨p, q, n, x, rfl, _⟩ := h
    rfl
  · obtain ⟨p, q, n, x, rfl, ⟨dx, hp⟩, ⟨dy, hq⟩, k⟩ := h
    refine ⟨_, pss_one (ps_ret (pe_and (pe_callB (C8.call_isC is) (by rfl) T.zIsi (by decide +kernel) (pa_cons (pv 1) (pa_cons (pe_glob (v := .ref (G .ah)) rfl Y.gAh rfl) pa_nil))) (pe_and (pe_cmpR op_eq (pe_fld (pv 0) rfl) (pe_fld (pv 1) rfl) (nomark _)) (pe_one (pe_cmpR op_eq (pe_fld (pv 0) rfl) (pe_fld (pv 1) rfl) (nomark _)))))), ?_⟩
    refine ⟨_, rfl, q, dy, _, rfl, hq, _, rfl, iteT ⟨_, rfl, p, G .ah, dx, _, _, rfl, hp, Y.cl _, Y.nS _, tfl_src _ _ _, _, rfl, q, G .ah, dy, _, _, rfl, hq, Y.cl _, Y.nS _, tfl_src _ _ _, rfl, _, rfl, ?_⟩⟩
    rw [decide_eq_true rfl]
    refine iteT ⟨_, rfl, p, G .ah, dx, _, _, rfl, hp, Y.cl _, Y.nN _, tfl_num rfl _ _, _, rfl, q, G .ah, dy, _, _, rfl, hq, Y.cl _, Y.nN _, tfl_num rfl _ _, rfl, ?_⟩
    rw [decide_eq_true rfl]
    exact k
theorem scSoE : FnScope ["self", "other"] ["self", "other"] (defScope sSoE) := ⟨rfl, rfl, rfl, by decide +kernel, rfl, by decide +kernel, by decide +kernel⟩
theorem ok_SoE {f : Addr} {fd : FuncData} (F : Fun K "__eq__" "Sofar.__eq__" sSoE f fd) (T : Txt K mg C fWhole fBetw fDay fChk) (Y : Ty K mg G cT cN fTI fNI fName fBB fBH fAP) (is : C8.InsC K (G .so)) : FnOk P w K mg base CX0 1 f fd ["self", "other"] (spEq G .so) := by
  refine F.ok scSoE (fun vs H Q E h => ?_) (fun cdv A outer s H vs Q E hr h => ?_)
  · obtain ⟨p, q, n, x, rfl, _⟩ := h
    rfl
  · obtain ⟨p, q, n, x, rfl, ⟨dx, hp⟩, ⟨dy, hq⟩, k⟩ := h
    refine ⟨_, pss_one (ps_ret (pe_and (pe_callB (C8.call_isC is) (by rfl) T.zIsi (by decide +kernel) (pa_cons (pv 1) (pa_cons (pe_glob (v := .ref (G .so)) rfl Y.gSo rfl) pa_nil))) (pe_one (pe_cmpR op_eq (pe_fld (pv 0) rfl) (pe_fld (pv 1) rfl) (nomark _))))), ?_⟩
    refine ⟨_, rfl, q, dy, _, rfl, hq, _, rfl, iteT ⟨_, rfl, p, G .so, dx, _, _, rfl, hp, Y.cl _, Y.nS _, tfl_src _ _ _, _, rfl, q, G .so, dy, _, _, rfl, hq, Y.cl _, Y.nS _, tfl_src _ _ _, rfl, ?_⟩⟩
    rw [decide_eq_true rfl]
    exact k
theorem scWhE : FnScope ["self", "other"] ["self", "other"] (defScope sWhE) := ⟨rfl, rfl, rfl, by decide +kernel, rfl, by decide +kernel, by decide +kernel⟩
theorem ok_WhE {f : Addr} {fd : FuncData} (F : Fun K "__eq__" "Whole.__eq__" sWhE f fd) (T : Txt K mg C fWhole fBetw fDay fChk) (Y : Ty K mg G cT cN fTI fNI fName fBB fBH fAP) (is : C8.InsC K (G .wh)) : FnOk P w K mg base CX0 1 f fd ["self", "other"] (spEq G .wh) := by
  refine F.ok scWhE (fun vs H Q E h => ?_) (fun cdv A outer s H vs Q E hr h => ?_)
  · obtain ⟨p, q, n, x, rfl, _⟩ := h
    rfl
  · obtain ⟨p, q, n, x, rfl, ⟨dx, hp⟩, ⟨dy, hq⟩, k⟩ := h
    refine ⟨_, pss_one (ps_ret (pe_and (pe_callB (C8.call_isC is) (by rfl) T.zIsi (by decide +kernel) (pa_cons (pv 1) (pa_cons (pe_glob (v := .ref (G .wh)) rfl Y.gWh rfl) pa_nil))) (pe_one (pe_cmpR op_eq (pe_fld (pv 0) rfl) (pe_fld (pv 1) rfl) (nomark _))))), ?_⟩
    refine ⟨_, rfl, q, dy, _, rfl, hq, _, rfl, iteT ⟨_, rfl, p, G .wh, dx, _, _, rfl, hp, Y.cl _, Y.nS _, tfl_src _ _ _, _, rfl, q, G .wh, dy, _, _, rfl, hq, Y.cl _, Y.nS _, tfl_src _ _ _, rfl, ?_⟩⟩
    rw [decide_eq_true rfl]
    exact k
theorem scLaE : FnScope ["self", "other"] ["self", "other"] (defScope sLaE) := ⟨rfl, rfl, rfl, by decide +kernel, rfl, by decide +kernel, by decide +kernel⟩
theorem ok_LaE {f : Addr} {fd : FuncData} (F : Fun K "__eq__" "Last.__eq__" sLaE f fd) (T : Txt K mg C fWhole fBetw fDay fChk) (Y : Ty K mg G cT cN fTI fNI fName fBB fBH fAP) (is : C8.InsC K (G .la)) : FnOk P w K mg base CX0 1 f fd ["self", "other"] (spEq G .la) := by
  refine F.ok scLaE (fun vs H Q E h => ?_) (fun cdv A outer s H vs Q E hr h => ?_)
  · obtain ⟨p, q, n, x, rfl, _⟩ := h
    rfl
  · obtain ⟨p, q, n, x, rfl, ⟨dx, hp⟩, ⟨dy, hq⟩, k⟩ := h
    refine ⟨_, pss_one (ps_ret (pe_and (pe_callB (C8.call_isC is) (by rfl) T.zIsi (by decide +kernel) (pa_cons (pv 1) (pa_cons (pe_glob (v := .ref (G .la)) rfl Y.gLa rfl) pa_nil))) (pe_one (pe_cmpR op_eq (pe_fld (pv 0) rfl) (pe_fld (pv 1) rfl) (nomark _))))), ?_⟩
    refine ⟨_, rfl, q, dy, _, rfl, hq, _, rfl, iteT ⟨_, rfl, p, G .la, dx, _, _, rfl, hp, Y.cl _, Y.nS _, tfl_src _ _ _, _, rfl, q, G .la, dy, _, _, rfl, hq, Y.cl _, Y.nS _, tfl_src _ _ _, rfl, ?_⟩⟩
    rw [decide_eq_true rfl]
    exact k
theorem scSmE : FnScope ["self", "other"] ["self", "other"] (defScope sSmE) := ⟨rfl, rfl, rfl, by decide +kernel, rfl, by decide +kernel, by decide +kernel⟩
theorem ok_SmE {f : Addr} {fd : FuncData} (F : Fun K "__eq__" "Same.__eq__" sSmE f fd) (T : Txt K mg C fWhole fBetw fDay fChk) (Y : Ty K mg G cT cN fTI fNI fName fBB fBH fAP) (is : C8.InsC K (G .sm)) : FnOk P w K mg base CX0 1 f fd ["self", "other"] (spEq G .sm) := by
  refine F.ok scSmE (fun vs H Q E h => ?_) (fun cdv A outer s H vs Q E hr h => ?_)
  · obtain ⟨p, q, n, x, rfl, _⟩ := h
    rfl
  · obtain ⟨p, q, n, x, rfl, ⟨dx, hp⟩, ⟨dy, hq⟩, k⟩ := h
    refine ⟨_, pss_one (ps_ret (pe_and (pe_callB (C8.call_isC is) (by rfl) T.zIsi (by decide +kernel) (pa_cons (pv 1) (pa_cons (pe_glob (v := .ref (G .sm)) rfl Y.gSm rfl) pa_nil))) (pe_one (pe_cmpR op_eq (pe_fld (pv 0) rfl) (pe_fld (pv 1) rfl) (nomark _))))), ?_⟩
    refine ⟨_, rfl, q, dy, _, rfl, hq, _, rfl, iteT ⟨_, rfl, p, G .sm, dx, _, _, rfl, hp, Y.cl _, Y.nS _, tfl_src _ _ _, _, rfl, q, G .sm, dy, _, _, rfl, hq, Y.cl _, Y.nS _, tfl_src _ _ _, rfl, ?_⟩⟩
    rw [decide_eq_true rfl]
    exact k
def spBlock (K : PySem.W.Frag) : Sp := fun vs H Q _ => ∃ (a : Addr) (ls : List Int) (d : Int), vs = [.ref a, .int d] ∧ H a = some (.lst (ls.map V.int)) ∧ Good ls ∧ ∀ t H', Same H H' → H' t = some (.tup [.int (fstD ls d), .int (lstD ls d), .int (blkD ls d)]) → Q (.ref t) H'
theorem scBlk : FnScope ["_law_lengths_so", "_law_day", "_law_total", "_law_turn", "_law_begin", "_law_number", "_law_length"] ["_law_lengths_so", "_law_day"] (defScope sBlk) := ⟨rfl, rfl, rfl, by decide +kernel, rfl, by decide +kernel, by decide +kernel⟩
theorem mul_r {i j : Int} (h0 : 0 ≤ j) (h : j ≤ 1000) : CMul i j := by
  have e : (2 : Int) ^ 64 = 18446744073709551616 := by decide
  exact .inr ⟨by rw [e]; omega, by rw [e]; omega⟩
set_option maxHeartbeats 8000000 in
theorem ok_blk {f : Addr} {fd : FuncData} (F : Fun K "_law_block" "_law_block" sBlk f fd) (T : Txt K mg C fWhole fBetw fDay fChk) : FnOk P w K mg base CX0 1 f fd ["_law_lengths_so", "_law_day"] (spBlock K) := by
  refine F.ok scBlk (fun vs H Q E h => ?_) (fun cdv A outer s H vs Q E hr h => ?_)
  · obtain ⟨a, ls, d, rfl, _⟩ := h
    rfl
  · obtain ⟨a, ls, d, rfl, ha, g, k⟩ := h
    have o := g.ok
    have T0 := o.sum
    have T1 := g.sum
    have N0 := g.ne
    have N1 := g.few
    refine ⟨_, pss_cons (ps_set (i := 2) scBlk.nd rfl (Or.inl rfl) (pe_callB (cr_sum rfl) (by rfl) T.zSum (by decide +kernel) (pa_cons (pv 0) pa_nil)))
      (pss_cons (ps_set (i := 3) scBlk.nd rfl (Or.inl rfl) (pe_op op_fdiv (pe_callTy call_int1 (by rfl) T.zInt (by decide +kernel) (pa_cons (pv 1) pa_nil)) (pv 2)))
      (pss_cons (ps_par (i := 4) (j := 5) (by rfl) scBlk.nd rfl rfl (by decide) rfl rfl (pa_cons (pe_op op_mul (pv 3) (pv 2)) (pa_cons (pe_op op_mul (pv 3) (pe_callB call_len_seq (by rfl) T.zLen PySem.boot_len (pa_cons (pv 0) pa_nil))) pa_nil)) (by rfl))
      (pss_cons (ps_for PassesOwn.never rfl (pi_list (pv 0)) (pg_name (i := 6) scBlk.nd rfl (.inl rfl))
        (pss_cons (ps_if (pt_cmpR op_gt (pe_op op_add (pv 4) (pv 6)) (pv 1) (nomark _)) (pss_one (ps_ret (pe_tup (pa_cons (pv 4) (pa_cons (pe_op op_sub (pe_op op_add (pv 4) (pv 6)) pe_int) (pa_cons (pv 5) pa_nil)))))) pss_nil)
        (pss_one (ps_par (i := 4) (j := 5) (by rfl) scBlk.nd rfl rfl (by decide) rfl rfl (pa_cons (pe_op op_add (pv 4) (pv 6)) (pa_cons (pe_op op_add (pv 5) pe_int) pa_nil)) (by rfl)))))
      (pss_one (ps_ret pe_non))))), ?_⟩
    refine ⟨_, rfl, a, ls, rfl, SqL.of ha, ?_⟩
    refine ⟨_, rfl, .inl ⟨_, rfl, _, rfl, _, _, rfl, rfl, ⟨T0, by omega⟩, ?_⟩⟩
    refine ⟨_, rfl, _, rfl, _, _, rfl, rfl, mul_r (by omega) (by omega), _, rfl, _, rfl, a, _, rfl, .inl (SqL.of ha), _, _, rfl, rfl, mul_r (by omega) (by rw [List.length_map]; omega), _, _, rfl, ?_⟩
    rw [List.length_map]
    refine ⟨_, rfl, a, rfl, ⟨_, SqL.of ha⟩, for_list (a := a) (xs := ls.map V.int) (fun i σ H' => H' = H ∧ i ≤ ixD ls d ∧ ∃ v6 : Option V, σ = [some (.ref a), some (.int d), some (.int ls.sum), some (.int (d / ls.sum)), some (.int (d / ls.sum * ls.sum + (ls.take i).sum)), some (.int (d / ls.sum * ls.length + i)), v6])
      ⟨rfl, Nat.zero_le _, none, ?_⟩ (fun i σ H' _ ⟨e, _⟩ => by rw [e]; exact SqL.of ha) ?_ ?_⟩
    · simp
      rfl
    · rintro i x σ H' hx ⟨rfl, hi, v6, rfl⟩
      rw [List.getElem?_map] at hx
      obtain ⟨l, hl, rfl⟩ := Option.map_eq_some_iff.mp hx
      have st := spot_step o hi hl
      have dv : d = d / ls.sum * ls.sum + d % ls.sum := by have := rest_turns ls d; omega
      refine ⟨_, rfl, _, rfl, _, _, rfl, rfl, _, rfl, _, _, rfl, rfl, _, rfl, ?_⟩
      by_cases c : l ≤ d % ls.sum - (ls.take i).sum
      · have hlt := st.mp c
        rw [decide_eq_false (by omega)]
        refine iteF ⟨_, rfl, _, rfl, _, _, rfl, rfl, _, rfl, _, _, rfl, rfl, _, _, rfl, rfl, hlt, some (.int l), ?_⟩
        rw [take_next hl]
        have e1 : d / ls.sum * ls.sum + ((ls.take i).sum + l) = d / ls.sum * ls.sum + (ls.take i).sum + l := by omega
        have e2 : d / ls.sum * (ls.length : Int) + ((i + 1 : Nat) : Int) = d / ls.sum * ls.length + i + 1 := by omega
        rw [e1, e2]
        rfl
      · have hix : i = ixD ls d := by
          have : ¬ i < ixD ls d := fun z => c (st.mpr z)
          omega
        have hle : lenD ls d = l := by
          have := (ix_lt o d).2
          rw [← hix, hl] at this
          exact (Option.some.inj this).symm
        have hf : fstD ls d = d / ls.sum * ls.sum + (ls.take i).sum := by
          show d - plcD ls d = _
          unfold plcD
          rw [← hix]
          omega
        rw [decide_eq_true (by omega)]
        refine iteT ⟨_, rfl, _, rfl, _, rfl, _, _, rfl, rfl, _, _, rfl, rfl, _, rfl, (by show 3 ≤ sizeLine; decide), fun t nt => k t _ (same_new nt) ?_⟩
        rw [upd_same]
        have eb : blkD ls d = d / ls.sum * ls.length + i := by show d / ls.sum * ls.length + ((ixD ls d : Nat) : Int) = _; rw [hix]
        have el : lstD ls d = d / ls.sum * ls.sum + (ls.take i).sum + l - 1 := by unfold lstD; rw [hf, hle]
        rw [hf, eb, el]
    · rintro σ H' ⟨rfl, hi, v6, rfl⟩
      have := (ix_lt o d).1
      rw [List.length_map] at hi
      omega
def spDays : Sp := fun vs H Q _ => ∃ (t a : Addr) (k : Kd) (n : Int) (x : Str) (ls : List Int) (d : Int), vs = [.ref t, .int d, .ref a] ∧ H t = some (.tup [.str (wordOf k), numV k n, .str x]) ∧ H a = some (.lst (ls.map V.int)) ∧ Good ls ∧
  ∀ l H', Same H H' → H' l = some (.lst ((srcL k n ls d).map V.int)) → Q (.ref l) H'
theorem scDays : FnScope ["_law_plain_here", "_law_day", "_law_lengths_so", "_law_begin", "_law_behind", "_law_early"] ["_law_plain_here", "_law_day", "_law_lengths_so"] (defScope sDays) := ⟨rfl, rfl, rfl, by decide +kernel, rfl, by decide +kernel, by decide +kernel⟩
variable {fBlk : Addr} {dBlk : FuncData}
set_option maxHeartbeats 16000000 in
theorem ok_days {f : Addr} {fd : FuncData} (F : Fun K "_law_days" "_law_days" sDays f fd) (T : Txt K mg C fWhole fBetw fDay fChk) (B : Df P w K mg base "_law_block" 1 fBlk dBlk ["_law_lengths_so", "_law_day"] (spBlock K)) : FnOk P w K mg base CX0 2 f fd ["_law_plain_here", "_law_day", "_law_lengths_so"] spDays := by
  refine F.ok scDays (fun vs H Q E h => ?_) (fun cdv A outer s H vs Q E hr h => ?_)
  · obtain ⟨t, a, k, n, x, ls, d, rfl, _⟩ := h
    rfl
  · obtain ⟨t, a, k, n, x, ls, d, rfl, ht, ha, g, kk⟩ := h
    have o := g.ok
    refine ⟨_, pss_cons (ps_asg (pe_slice sl_tupA (pe_call B.F hr rfl B.g B.kp B.b .nil pass0 (pa_cons (pv 2) (pa_cons (pv 1) pa_nil))) po_none (po_some pe_int)) (pg_tup rfl (pgs_cons (pg_name (i := 3) scDays.nd rfl (.inl rfl)) (pgs_cons (pg_name (i := 4) scDays.nd rfl (.inl rfl)) pgs_nil))))
      (pss_cons (ps_set (i := 5) scDays.nd rfl (Or.inl rfl) (pe_ix ix_tup (pe_call B.F hr rfl B.g B.kp B.b .nil pass0 (pa_cons (pv 2) (pa_cons (pe_op op_sub (pv 3) pe_int) pa_nil))) pe_int (fun _ _ => rfl)))
      (pss_cons (ps_if (pt_cmpR op_in_seq (pe_ix ix_tup (pv 0) pe_int (fun _ _ => rfl)) (pe_tup (pa_cons pe_str (pa_cons pe_str pa_nil))) (by rfl))
        (pss_one (ps_ret (pe_lst (pa_cons (pe_ifExp (pt_cmpR op_eq (pe_ix ix_tup (pv 0) pe_int (fun _ _ => rfl)) pe_str (nomark _)) (pe_op op_sub (pv 1) (pe_ix ix_tup (pv 0) pe_int (fun _ _ => rfl))) (pe_op op_add (pv 1) (pe_ix ix_tup (pv 0) pe_int (fun _ _ => rfl)))) pa_nil)))) pss_nil)
      (pss_cons (ps_if (pt_cmpR op_eq (pe_ix ix_tup (pv 0) pe_int (fun _ _ => rfl)) pe_str (nomark _)) (pss_one (ps_ret (pe_listW rfl (by rfl) T.zList (prg_2 (by rfl) T.zRange (pv 3) (pe_op op_add (pv 1) pe_int))))) pss_nil)
      (pss_cons (ps_if (pt_cmpR op_eq (pe_ix ix_tup (pv 0) pe_int (fun _ _ => rfl)) pe_str (nomark _)) (pss_one (ps_ret (pe_listW rfl (by rfl) T.zList (prg_2 (by rfl) T.zRange (pv 5) (pv 3))))) pss_nil)
      (pss_cons (ps_if (pt_cmpR op_eq (pe_ix ix_tup (pv 0) pe_int (fun _ _ => rfl)) pe_str (nomark _)) (pss_one (ps_ret (pe_lst (pa_cons (pe_op op_sub (pv 3) pe_int) pa_nil)))) pss_nil)
      (pss_one (ps_ret (pe_ifExp (pt_cmpR op_lt (pe_op op_sub (pe_op op_add (pv 5) (pv 1)) (pv 3)) (pv 3) (nomark _)) (pe_lst (pa_cons (pe_op op_sub (pe_op op_add (pv 5) (pv 1)) (pv 3)) pa_nil)) (pe_lst pa_nil))))))))), ?_⟩
    obtain ⟨r1, r2⟩ := day_rng o d
    refine ⟨_, rfl, _, rfl, a, ls, d, rfl, ha, g, fun tb H1 s1 hb => ?_⟩
    dsimp only [tNoPart]
    refine ⟨_, rfl, ?_⟩
    dsimp only
    refine sl_call hb (fun r H2 s2 h2 => ?_)
    refine ⟨r, [.int (fstD ls d), .int (lstD ls d)], rfl, SqT.of h2, rfl, _, _, rfl, _, _, rfl, rfl, ?_⟩
    have sA := s1.trans s2
    refine ⟨_, rfl, _, rfl, _, _, rfl, rfl, a, ls, fstD ls d - 1, rfl, sA _ _ ha, g, fun te H3 s3 he => ⟨te, _, _, _, rfl, rfl, SqT.of he, atI_nat (j := 0) rfl, ?_⟩⟩
    have sB := sA.trans s3
    have w0 : ([.str (wordOf k), numV k n, .str x] : List V)[0]? = some (.str (wordOf k)) := rfl
    have w1 : ([.str (wordOf k), numV k n, .str x] : List V)[1]? = some (numV k n) := rfl
    refine ⟨_, rfl, t, _, _, _, rfl, rfl, SqT.of (sB _ _ ht), atI_nat (j := 0) w0, by show 2 ≤ sizeLine; decide, fun q nq => ?_⟩
    have s4 := same_new (o := .tup [.str "back", .str "ahead"]) nq
    have sC := sB.trans s4
    have ht4 := sC _ _ ht
    refine ⟨q, _, rfl, .inr (SqT.of upd_same), rfl, by rfl, _, rfl, ?_⟩
    refine inV_two (fun hk => ?_) (fun hk => ?_)
    · have hn : numV k n = .int n := by unfold numV; rw [if_pos hk]
      rw [hn] at w1 ht4
      refine ⟨_, rfl, t, _, _, _, rfl, rfl, SqT.of ht4, atI_nat (j := 0) w0, rfl, _, rfl, ?_⟩
      cases k with
      | bk => exact ite_eq ⟨_, rfl, _, rfl, t, _, _, _, rfl, rfl, SqT.of ht4, atI_nat (j := 1) w1, _, _, rfl, rfl, by show 1 ≤ sizeLine; decide, fun l nl => kk l _ (sC.trans (same_new nl)) (by rw [upd_same]; rfl)⟩
      | ah => exact ite_ne (by decide +kernel) ⟨_, rfl, _, rfl, t, _, _, _, rfl, rfl, SqT.of ht4, atI_nat (j := 1) w1, _, _, rfl, rfl, by show 1 ≤ sizeLine; decide, fun l nl => kk l _ (sC.trans (same_new nl)) (by rw [upd_same]; rfl)⟩
      | so => cases hk
      | wh => cases hk
      | la => cases hk
      | sm => cases hk
    · refine ⟨_, rfl, t, _, _, _, rfl, rfl, SqT.of ht4, atI_nat (j := 0) w0, rfl, _, rfl, ?_⟩
      cases k with
      | bk => cases hk
      | ah => cases hk
      | so => exact ite_eq ⟨_, rfl, _, rfl, _, _, rfl, rfl, _, _, rfl, rfl, few_block g (d := d) (Int.le_refl _) (by omega), fun l nl => kk l _ (sC.trans (same_new nl)) (by rw [upd_same, rg_map]; rfl)⟩
      | wh =>
        refine ite_ne (by decide +kernel) ⟨_, rfl, t, _, _, _, rfl, rfl, SqT.of ht4, atI_nat (j := 0) w0, rfl, _, rfl, ite_eq ⟨_, rfl, _, rfl, _, _, rfl, rfl, few_block g (d := fstD ls d - 1) (Int.le_refl _) (by rw [prv o]; omega), fun l nl => kk l _ (sC.trans (same_new nl)) ?_⟩⟩
        rw [upd_same, rg_map]
        show _ = some (HO.lst (List.map V.int (rgI (fstD ls (fstD ls d - 1)) (fstD ls d - 1 + 1))))
        rw [show fstD ls d - 1 + 1 = fstD ls d by omega]
      | la =>
        exact ite_ne (by decide +kernel) ⟨_, rfl, t, _, _, _, rfl, rfl, SqT.of ht4, atI_nat (j := 0) w0, rfl, _, rfl, ite_ne (by decide +kernel) ⟨_, rfl, t, _, _, _, rfl, rfl, SqT.of ht4, atI_nat (j := 0) w0, rfl, _, rfl, ite_eq ⟨_, rfl, _, _, rfl, rfl, by show 1 ≤ sizeLine; decide,
          fun l nl => kk l _ (sC.trans (same_new nl)) (by rw [upd_same]; rfl)⟩⟩⟩
      | sm =>
        refine ite_ne (by decide +kernel) ⟨_, rfl, t, _, _, _, rfl, rfl, SqT.of ht4, atI_nat (j := 0) w0, rfl, _, rfl, ite_ne (by decide +kernel) ⟨_, rfl, t, _, _, _, rfl, rfl, SqT.of ht4, atI_nat (j := 0) w0, rfl, _, rfl, ite_ne (by decide +kernel)
          ⟨_, rfl, _, rfl, _, _, rfl, rfl, _, rfl, _, _, rfl, rfl, _, rfl, _, _, rfl, rfl, _, rfl, ?_⟩⟩⟩
        have e1 : fstD ls (fstD ls d - 1) + d - fstD ls d = fstD ls (fstD ls d - 1) + (d - fstD ls d) := by omega
        by_cases c : fstD ls (fstD ls d - 1) + d - fstD ls d < fstD ls d
        · rw [decide_eq_true c]
          refine iteT ⟨_, rfl, _, rfl, _, _, rfl, rfl, _, rfl, _, _, rfl, rfl, by show 1 ≤ sizeLine; decide, fun l nl => kk l _ (sC.trans (same_new nl)) ?_⟩
          rw [upd_same]
          show _ = some (HO.lst (List.map V.int (pickI _ _ _)))
          unfold pickI
          rw [if_pos (by omega), ← e1]
          rfl
        · rw [decide_eq_false c]
          refine iteF ⟨Nat.zero_le _, fun l nl => kk l _ (sC.trans (same_new nl)) ?_⟩
          rw [upd_same]
          show _ = some (HO.lst (List.map V.int (pickI _ _ _)))
          unfold pickI
          rw [if_neg (by omega)]
          rfl
end
end My
namespace My
open PySem PySem.Spec PyProof.Rows L2
abbrev sLaw : Stmt := top 48
theorem name_a : NameOk "a" := ⟨by decide +kernel, by decide +kernel, by decide +kernel, by decide +kernel⟩
theorem name_t : NameOk "total" := ⟨by decide +kernel, by decide +kernel, by decide +kernel, by decide +kernel⟩
theorem pen_new {H : Hp} {p l : Addr} {N : Int} (pen : PenAt H p l N) {q : Addr} (hq : H q = none) : q ≠ p := let ⟨_, e⟩ := pen.lst; Ne.symm (ne_of_none e hq)
/-- the cycle at x, the lengths at a, the pen -/
structure OkS (C x a p l : Addr) (ls : List Int) (H : Hp) (N : Int) : Prop where
  cy : CycAt C H x ls
  li : H a = some (.lst (ls.map V.int))
  na : a ≠ p
  pen : PenAt H p l N
theorem OkS.same {C x a p l : Addr} {ls : List Int} {H H' : Hp} {N : Int} (o : OkS C x a p l ls H N) (s : Same H H') : OkS C x a p l ls H' N := ⟨o.cy.same s, s _ _ o.li, o.na, o.pen.same s⟩
theorem OkS.but {C x a p l : Addr} {ls : List Int} {H H' : Hp} {N M : Int} (o : OkS C x a p l ls H N) (s : SameBut p H H') (q : PenAt H' p l M) : OkS C x a p l ls H' M :=
  ⟨let ⟨_, e⟩ := o.pen.lst; o.cy.but s e, s _ _ o.na o.li, o.na, q⟩
theorem OkS.le {C x a p l : Addr} {ls : List Int} {H : Hp} {N M : Int} (o : OkS C x a p l ls H N) (z : N ≤ M) : OkS C x a p l ls H M := ⟨o.cy, o.li, o.na, o.pen.le z⟩
theorem tup_but {H H' : Hp} {p l q : Addr} {N : Int} {xs : List V} (pen : PenAt H p l N) (s : SameBut p H H') (hq : H q = some (.tup xs)) : H' q = some (.tup xs) :=
  s _ _ (let ⟨_, e⟩ := pen.lst; ne_of hq e (by intro z; cases z)) hq
/-- days of a tie are near -/
theorem src_near {ls : List Int} (g : Good ls) {k : Kd} {n d i : Int} (ok : NumOk k n) (h : i ∈ srcL k n ls d) : d - 200 ≤ i ∧ i ≤ d + 200 := by
  have o := g.ok
  obtain ⟨r1, r2⟩ := day_rng o d
  obtain ⟨r3, r4⟩ := day_rng o (fstD ls d - 1)
  have l1 := len60 g d
  have l2 := len60 g (fstD ls d - 1)
  have p := prv o d
  have n0 := ok.lo
  have n1 := ok.hi
  unfold lstD at r2 r4 p
  cases k with
  | bk => rw [List.mem_singleton.mp h]; omega
  | ah => rw [List.mem_singleton.mp h]; omega
  | so => have := mem_rgI.mp h; omega
  | wh => have := mem_rgI.mp h; omega
  | la => rw [List.mem_singleton.mp h]; omega
  | sm => have := mem_pickI.mp h; omega
def spStar (C : Addr) : Sp := fun vs H Q E => ∃ ws rest, vs = ws ++ rest ∧ ws.length = (["self"] : List Str).length ∧ rest.length ≤ sizeLine ∧ ∀ p, H p = none → spInitB C (ws ++ [V.ref p]) (upd H p (.tup rest)) Q E
theorem cyc_make {C : Addr} {ls : List Int} {us : List V} {H : Hp} {R : Hp → Prop} {E : XK} (g : Good ls) (hu : us = ls.map V.int) {x dx : Addr} (nx : H x = none) (nd : H dx = none) (ne : dx ≠ x) (kk : ∀ H', Same H H' → CycAt C H' x ls → R H') :
    spStar C (V.ref x :: us) (upd (upd H dx (.own x)) x (.ins C dx [])) (fun v H2 => v = .non ∧ R H2) E := by
  subst hu
  refine ⟨[.ref x], ls.map V.int, rfl, rfl, ?_, fun t nt => ?_⟩
  · rw [List.length_map]
    have := g.few
    exact Nat.le_trans this (by decide)
  have nxt : x ≠ t := fun z => by
    rw [← z, upd_same] at nt
    cases nt
  have hx : (upd (upd (upd H dx (.own x)) x (.ins C dx [])) t (.tup (ls.map V.int))) x = some (.ins C dx []) := by
    rw [upd_ne nxt, upd_same]
  refine ⟨x, t, dx, ls, rfl, hx, upd_same, g, fun H' keep hx' => ⟨rfl, ?_⟩⟩
  refine kk H' (fun b o e => ?_) ⟨⟨dx, t, hx', keep _ _ upd_same (Ne.symm nxt)⟩, g⟩
  have e1 : (upd (upd H dx (.own x)) x (.ins C dx [])) b = some o := by
    rw [upd_ne (ne_of_none e nx), upd_ne (ne_of_none e nd)]
    exact e
  exact keep _ _ ((same_new nt) _ _ e1) (ne_of_none e nx)
section
variable {P : Program} {w : World} {K : PySem.W.Frag} {mg : Str → Option Value} {base : Heap} {C fWhole fBetw fDay fChk : Addr} {G : Kd → Addr} {cT cN fTI fNI fName fBB fBH fAP : Addr}
variable {fS fC fI fE : Kd → Addr} {dS dC dI dE : Kd → FuncData} {fGl pGl fPen fDraw fPick fLens fTieOf fPlain fBlk fDys fOf pOf fCI : Addr} {dGl dPen dDraw dPick dLens dTieOf dPlain dBlk dDys dOf : FuncData} {mc : Value}
theorem o_callK {X : Cx} {σ : L2.St} {H : Hp} {p c : Addr} {ls : List Int} {d n : Int} {k : Kd} {te : TE} {i j : Nat} {Q : VK} (h0 : σ[i]? = some (some (.ref p))) (ti : TieAt G H p k n) (hte : ∀ Q' : VK, Q' (.int d) H → te σ H Q') (h1 : σ[j]? = some (some (.ref c))) (cy : CycAt C H c ls)
    (kk : ∀ r H', Same H H' → H' r = some (.tup ((srcL k n ls d).map V.int)) → Q (.ref r) H') : ∃ k, StX.tCallO X (G k) (fun vs H Q E => spTie G C k srcL (vs ++ []) H Q E) E0 (tVar i) (tCons te (tCons (tVar j) tNil)) σ H Q :=
  ⟨k, o_call h0 ti hte h1 cy kk⟩
def spLaw (K : PySem.W.Frag) : Sp := fun vs H Q _ => ∃ (a : Addr) (ns : List Int), vs = [.ref a] ∧ SqL K H a (ns.map V.int) ∧ ns.length ≤ 63 ∧ ∀ H', Q (.bl true) H'
theorem scLaw : FnScope ["_law_script", "_law_pen_here", "_law_turn", "_law_lengths_so", "_law_weeks", "_law_total", "_law_step", "_law_plain_here", "_law_made", "_law_day", "_law_due", "_law_far"] ["_law_script"] (defScope sLaw) := ⟨rfl, rfl, rfl, by decide +kernel, rfl, by decide +kernel, by decide +kernel⟩
set_option maxHeartbeats 32000000 in
theorem ok_law {f : Addr} {fd : FuncData} (F : Fun K "law" "law" sLaw f fd) (T : Txt K mg C fWhole fBetw fDay fChk) (Y : Ty K mg G cT cN fTI fNI fName fBB fBH fAP) (zRepr : mg "repr" = none) (GL : CP P w K mg base C "lengths" (spGetL C) pGl fGl dGl) (DP : Df P w K mg base "_law_pen" 1 fPen dPen ["_law_script"] (spPen K))
    (DD : Df P w K mg base "_law_draw" 1 fDraw dDraw ["_law_pen_here", "_law_many"] spDraw) (DI : Df P w K mg base "_law_pick" 2 fPick dPick ["_law_pen_here", "_law_some"] spPick) (DL : Df P w K mg base "_law_lengths" 3 fLens dLens ["_law_pen_here"] spLens)
    (DT : Df P w K mg base "_law_tie" 6 fTieOf dTieOf ["_law_plain_here"] (spTieOf G)) (DN : Df P w K mg base "_law_plain" 3 fPlain dPlain ["_law_pen_here", "_law_labels"] spPlain) (DB : Df P w K mg base "_law_block" 1 fBlk dBlk ["_law_lengths_so", "_law_day"] (spBlock K))
    (DY : Df P w K mg base "_law_days" 2 fDys dDys ["_law_plain_here", "_law_day", "_law_lengths_so"] spDays) (M : MkT P w K mg base G fI dI) (MS : TieM P w K mg base G C "sources" 4 srcL fS dS) (MC : TieM P w K mg base G C "__call__" 5 srcL fC dC) (cO : ∀ k, StX.CallO K (G k) (fC k))
    (NE : ∀ k, NeO K (G k) (fE k)) (EF : ∀ k, FnOk P w K mg base CX0 1 (fE k) (dE k) ["self", "other"] (spEq G k)) (EB : ∀ k, Binds K (dE k) ["self", "other"] []) (CI : FnR P w K mg base CX0 4 fCI (spStar C)) (MI : Mk K C fCI)
    (OF : FnOk P w K mg base CX0 6 fOf dOf ["cls", "lengths"] (spOf K C)) (bOf : Binds K dOf ["cls", "lengths"] []) (cr : ClX.CRead K C mc) (cm : ClX.CMet K C mc "of" pOf fOf) : FnG P w K mg base CX0 7 f fd ["_law_script"] (spLaw K) := by
  refine okG F scLaw (fun vs H Q E h => ?_) (fun cdv A outer s H vs Q E gd hr h => ?_)
  · obtain ⟨a, ns, rfl, _⟩ := h
    rfl
  · obtain ⟨a, ns, rfl, hS, hlen, kk⟩ := h
    have hr1 : Room 1 _ := hr.mono (by decide)
    have hr2 : Room 2 _ := hr.mono (by decide)
    have hr3 : Room 3 _ := hr.mono (by decide)
    have hr4 : Room 4 _ := hr.mono (by decide)
    have hr5 : Room 5 _ := hr.mono (by decide)
    have hu70 : (A.deeper (envOfC "law" (defScope sLaw) s.heap.objs.size f cdv)).units + 70 < cLine := by have := hr.un; omega
    refine ⟨_, pss_cons (ps_set (i := 1) scLaw.nd rfl (Or.inl rfl) (pe_call DP.F hr1 rfl DP.g DP.kp DP.b .nil pass0 (pa_cons (pv 0) pa_nil)))
      (pss_cons (ps_for PassesOwn.never rfl (pi_range1 rfl T.zRange (pa_cons pe_int pa_nil)) (pg_name (i := 2) scLaw.nd rfl (.inl rfl))
        (pss_cons (ps_set (i := 3) scLaw.nd rfl (Or.inl rfl) (pe_call DL.F hr3 rfl DL.g DL.kp DL.b .nil pass0 (pa_cons (pv 1) pa_nil)))
        (pss_cons (ps_par (i := 4) (j := 5) (by rfl) scLaw.nd rfl rfl (by decide) rfl rfl (pa_cons (ClX.pe_cmeth (pe_glob (v := .ref C) rfl T.gCyc rfl) cr cm (OF.raw bOf .nil) hr pass0 (pa_cons (pv 3) pa_nil)) (pa_cons (pe_callB (cr_sum rfl) (by rfl) T.zSum (by decide +kernel) (pa_cons (pv 3) pa_nil)) pa_nil)) (by rfl))
        (pss_one (ps_for PassesOwn.never rfl (pi_range1 rfl T.zRange (pa_cons pe_int pa_nil)) (pg_name (i := 6) scLaw.nd rfl (.inl rfl))
          (pss_cons (ps_set (i := 7) scLaw.nd rfl (Or.inl rfl) (pe_call DN.F hr3 rfl DN.g DN.kp DN.b .nil pass0 (pa_cons (pv 1) (pa_cons (pe_lst (pa_cons pe_str (pa_cons pe_str pa_nil))) pa_nil))))
          (pss_cons (ps_set (i := 8) scLaw.nd rfl (Or.inl rfl) (pe_call DT.F hr rfl DT.g DT.kp DT.b .nil pass0 (pa_cons (pv 7) pa_nil)))
          (pss_cons (ps_set (i := 9) scLaw.nd rfl (Or.inl rfl) (pe_op op_sub (pe_call DD.F hr1 rfl DD.g DD.kp DD.b .nil pass0 (pa_cons (pv 1) (pa_cons (pe_op op_mul pe_int (pv 5)) pa_nil))) (pv 5)))
          (C8.pss_cut (ps_if (pt_cmpR op_eq (pe_call DD.F hr1 rfl DD.g DD.kp DD.b .nil pass0 (pa_cons (pv 1) (pa_cons pe_int pa_nil))) pe_int (nomark _))
              (pss_one (ps_set (i := 9) scLaw.nd rfl (Or.inl rfl) (pe_ix ix_tup (pe_call DB.F hr1 rfl DB.g DB.kp DB.b .nil pass0 (pa_cons (pv 3) (pa_cons (pv 9) pa_nil))) (pe_call DD.F hr1 rfl DD.g DD.kp DD.b .nil pass0 (pa_cons (pv 1) (pa_cons pe_int pa_nil))) (fun _ _ => rfl)))) pss_nil)
          (pss_cons (ps_set (i := 9) scLaw.nd rfl (Or.inl rfl) (pe_op op_add (pv 9) (pe_op op_mul (pv 5) (pe_call DI.F hr2 rfl DI.g DI.kp DI.b .nil pass0 (pa_cons (pv 1) (pa_cons (pe_lst (pa_cons pe_int (pa_cons pe_int (pa_cons pe_int (pa_cons pe_int (pa_cons (pe_un un_neg pe_int) (pa_cons (pe_op op_pow pe_int pe_int) pa_nil))))))) pa_nil))))))
          (pss_cons (ps_set (i := 10) scLaw.nd rfl (Or.inl rfl) (pe_tupleOf (by rfl) T.zTuple (pe_call DY.F hr2 rfl DY.g DY.kp DY.b .nil pass0 (pa_cons (pv 7) (pa_cons (pv 9) (pa_cons (pv 3) pa_nil))))))
          (pss_cons (ps_if (pt_cmpR op_ne (pe_callB (cr_repr gd hu70) (by rfl) zRepr (by decide +kernel) (pa_cons (pe_lst (pa_cons (pe_exK fun k => pe_meth (pv 8) (Y.cl k) (MS.m k) (MS.F k) hr4 (MS.b k) .nil pass0 (pa_cons (pv 9) (pa_cons (pv 4) pa_nil)))
              (pa_cons (pe_exK fun k => StX.pe_callO (pv 8) (cO k) ((MC.F k).raw (MC.b k) .nil) hr5 pass0 (pa_cons (pv 9) (pa_cons (pv 4) pa_nil))) pa_nil))) pa_nil)) (pe_callB (cr_repr gd hu70) (by rfl) zRepr (by decide +kernel) (pa_cons (pe_lst (pa_cons (pv 10) (pa_cons (pv 10) pa_nil))) pa_nil)) (nomark _)) pss_never pss_nil)
          (pss_one (ps_if (PW.pt (pw_or (pt_cmpR (opr_ex fun k => op_neO (NE k) ((EF k).raw (EB k) .nil) hr2 pass0) (pv 8) (pe_call DT.F hr rfl DT.g DT.kp DT.b .nil pass0 (pa_cons (pv 7) pa_nil)) (nomark _))
            (pw_or1 (pt_cmpR (op_neD hr.units) (pe_prop (pv 4) T.cl GL.p GL.F hr2 GL.b .nil pass0 rfl) (pe_tupleOf (by rfl) T.zTuple (pv 3)) (nomark _))))) pss_never pss_nil))))))))))))))
      (pss_cons (ps_set (i := 11) scLaw.nd rfl (Or.inl rfl) (pe_op op_sub (pe_op op_pow pe_int pe_int) pe_int))
      (pss_cons (ps_if (PW.pt (pw_or (pt_cmpR (op_neD hr.units) (pe_meth (pe_make (M.m .wh) (M.fp .wh rfl) hr5 rfl Y.gWh (M.bp .wh rfl) .nil pass0 (pa_cons pe_str pa_nil)) (Y.cl .wh) (MS.m .wh) (MS.F .wh) hr4 (MS.b .wh) .nil pass0
            (pa_cons (pe_op op_sub pe_int (pv 11)) (pa_cons (StX.pe_makeR MI CI hr5 rfl T.gCyc pass0 (pa_cons pe_int pa_nil)) pa_nil))) (pe_tup (pa_cons (pe_op op_sub (pe_un un_neg pe_int) (pv 11)) pa_nil)) (nomark _))
          (pw_or1 (pt_cmpR (op_neD hr.units) (pe_meth (pe_make (M.m .ah) (M.fn .ah rfl) hr5 rfl Y.gAh (M.bn .ah rfl) .nil pass0 (pa_cons pe_str (pa_cons pe_int pa_nil))) (Y.cl .ah) (MS.m .ah) (MS.F .ah) hr4 (MS.b .ah) .nil pass0
            (pa_cons (pv 11) (pa_cons (StX.pe_makeR MI CI hr5 rfl T.gCyc pass0 (pa_cons pe_int pa_nil)) pa_nil))) (pe_tup (pa_cons (pe_op op_add (pv 11) pe_int) pa_nil)) (nomark _))))) pss_never pss_nil)
      (pss_one (ps_ret (pe_and (pe_cmpR (op_eqD hr.units) (pe_meth (pe_make (M.m .sm) (M.fp .sm rfl) hr5 rfl Y.gSm (M.bp .sm rfl) .nil pass0 (pa_cons pe_str pa_nil)) (Y.cl .sm) (MS.m .sm) (MS.F .sm) hr4 (MS.b .sm) .nil pass0
            (pa_cons pe_int (pa_cons (StX.pe_makeR MI CI hr5 rfl T.gCyc pass0 (pa_cons pe_int (pa_cons pe_int pa_nil))) pa_nil))) (pe_tup pa_nil) (nomark _))
        (pe_one (pe_cmpR (op_eqD hr.units) (pe_meth (pe_make (M.m .la) (M.fp .la rfl) hr5 rfl Y.gLa (M.bp .la rfl) .nil pass0 (pa_cons pe_str pa_nil)) (Y.cl .la) (MS.m .la) (MS.F .la) hr4 (MS.b .la) .nil pass0
            (pa_cons pe_int (pa_cons (StX.pe_makeR MI CI hr5 rfl T.gCyc pass0 (pa_cons pe_int (pa_cons pe_int pa_nil))) pa_nil))) (pe_tup (pa_cons pe_int pa_nil)) (nomark _)))))))))
      , ?_⟩
    refine ⟨_, rfl, a, ns, rfl, hS, hlen, fun p l H1 s1 pen0 => ?_⟩
    refine ⟨9, rfl, by decide, by decide, for_range (lo := 0) (n := 9) (fun i σ H' => ∃ v2 v3 v4 v5 v6 v7 v8 v9 v10 v11 : Option V, σ = [some (.ref a), some (.ref p), v2, v3, v4, v5, v6, v7, v8, v9, v10, v11] ∧ PenAt H' p l (100 * i)) ⟨none, none, none, none, none, none, none, none, none, none, rfl, pen0.le (by omega)⟩ ?_ ?_⟩
    · rintro i σ H2 hi ⟨v2, v3, v4, v5, v6, v7, v8, v9, v10, v11, rfl, pen⟩
      refine ⟨_, rfl, p, l, 100 * i, rfl, pen, by omega, fun a3 ls H3 sb3 pen3 hA3 nA3 g => ?_⟩
      refine ⟨rfl, _, rfl, a3, ls, rfl, SqL.of hA3, g, fun x H4 s4 nx c => ?_⟩
      have o := g.ok
      have o4 : OkS C x a3 p l ls H4 (100 * i + 20) := ⟨c, s4 _ _ hA3, nA3, pen3.same s4⟩
      refine ⟨_, rfl, a3, ls, rfl, SqL.of o4.li, _, _, rfl, ?_⟩
      refine ⟨7, rfl, by decide, by decide, for_range (lo := 0) (n := 7) (fun j σ H' => ∃ v6 v7 v8 v9 v10 v11 : Option V, σ = [some (.ref a), some (.ref p), some (.int (0 + i)), some (.ref a3), some (.ref x), some (.int ls.sum), v6, v7, v8, v9, v10, v11] ∧ OkS C x a3 p l ls H' (100 * i + 20 + 10 * j)) ⟨v6, v7, v8, v9, v10, v11, rfl, o4.le (by omega)⟩ ?_ ?_⟩
      · rintro j σ H5 hj ⟨w6, w7, w8, w9, w10, w11, rfl, o5⟩
        have T0 := o.sum
        have T1 := g.sum
        -- a tie, told and made
        refine ⟨_, rfl, by show 2 ≤ sizeLine; decide, fun q nq => ?_⟩
        have o6 := o5.same (same_new (o := .lst [.str "a", .str "total"]) nq)
        refine ⟨p, l, q, 100 * i + 20 + 10 * j, ["a", "total"], rfl, o6.pen, by omega, upd_same, pen_new o5.pen nq, by decide, by decide, (fun y hy => ?_), fun t k n y H7 sb7 pen7 ht nm ok => ?_⟩
        · simp only [List.mem_cons, List.not_mem_nil, or_false] at hy
          rcases hy with rfl | rfl
          · exact name_a
          · exact name_t
        have o7 := o6.but sb7 pen7
        refine ⟨_, rfl, t, k, n, y, rfl, ht, nm, ok, fun m H8 s8 nm8 ti => ?_⟩
        have o8 := o7.same s8
        have ht8 := s8 _ _ ht
        clear o6 o7 sb7 pen7 ht s8 nm8
        -- a day
        refine ⟨_, rfl, _, rfl, _, _, rfl, rfl, small_mul (by decide) (by decide), p, l, 100 * i + 20 + 10 * j + 4, 3 * ls.sum, rfl, o8.pen, by omega, log_small (by omega) (by omega), by omega, fun r H9 r0 r1 sb9 pen9 => ?_⟩
        have o9 := o8.but sb9 pen9
        have ti9 : TieX G H9 m k n y := let ⟨_, e⟩ := o8.pen.lst; ti.but sb9 e
        have ht9 := tup_but o8.pen sb9 ht8
        clear o8 ti ht8 sb9 pen9
        refine ⟨_, rfl, _, _, rfl, rfl, ?_⟩
        dsimp only
        refine ⟨fun σ H' => ∃ e : Int, -200 ≤ e ∧ e ≤ 200 ∧ σ = [some (.ref a), some (.ref p), some (.int (0 + i)), some (.ref a3), some (.ref x), some (.int ls.sum), some (.int (0 + j)), some (.ref t), some (.ref m), some (.int e), w10, w11] ∧
          OkS C x a3 p l ls H' (100 * i + 20 + 10 * j + 7) ∧ TieX G H' m k n y ∧ H' t = some (.tup [.str (wordOf k), numV k n, .str y]), ?_, ?_⟩
        · refine ⟨_, rfl, p, l, 100 * i + 20 + 10 * j + 4 + 1, 3, rfl, o9.pen, by decide, log_small (by decide) (by decide), by omega, fun r2 H10 q0 q1 sb10 pen10 => ⟨rfl, _, rfl, ?_⟩⟩
          have o10 := o9.but sb10 pen10
          have ti10 : TieX G H10 m k n y := let ⟨_, e⟩ := o9.pen.lst; ti9.but sb10 e
          have ht10 := tup_but o9.pen sb10 ht9
          refine ite2 (fun hk => ?_) (fun hk => ?_)
          · refine ⟨_, rfl, _, rfl, a3, ls, r - ls.sum, rfl, o10.li, g, fun tb H11 s11 hb => ?_⟩
            have o11 := o10.same s11
            refine ⟨_, rfl, p, l, 100 * i + 20 + 10 * j + 4 + 1 + 1, 2, rfl, o11.pen, by decide, log_small (by decide) (by decide), by omega, fun r3 H12 z0 z1 sb12 pen12 => ?_⟩
            have o12 := o11.but sb12 pen12
            have ti12 : TieX G H12 m k n y := let ⟨_, e⟩ := o11.pen.lst; (ti10.same s11).but sb12 e
            have ht12 := tup_but o11.pen sb12 (s11 _ _ ht10)
            have hb12 := tup_but o11.pen sb12 hb
            obtain ⟨d1, d2⟩ := day_rng o (r - ls.sum)
            have d3 := len60 g (r - ls.sum)
            have d4 : lstD ls (r - ls.sum) = fstD ls (r - ls.sum) + lenD ls (r - ls.sum) - 1 := rfl
            have hr3 : r3 = 0 ∨ r3 = 1 := by omega
            rcases hr3 with rfl | rfl
            · exact ⟨tb, _, _, _, rfl, rfl, SqT.of hb12, atI_nat (j := 0) rfl, fstD ls (r - ls.sum), by omega, by omega, rfl, o12.le (by omega), ti12, ht12⟩
            · exact ⟨tb, _, _, _, rfl, rfl, SqT.of hb12, atI_nat (j := 1) rfl, lstD ls (r - ls.sum), by omega, by omega, rfl, o12.le (by omega), ti12, ht12⟩
          · exact ⟨r - ls.sum, by omega, by omega, rfl, o10.le (by omega), ti10, ht10⟩
        · rintro σ H10 ⟨e, e0, e1, rfl, o10, ti10, ht10⟩
          clear o9 ti9 ht9
          refine ⟨_, rfl, _, rfl, _, rfl, _, rfl, _, _, rfl, rfl, ⟨by decide, by decide, by decide⟩, by show 6 ≤ sizeLine; decide, fun q nq => ?_⟩
          have o11 := o10.same (same_new (o := .lst [.int 0, .int 0, .int 0, .int 1, .int (-5), .int (10 ^ (50 : Int).toNat)]) nq)
          have ti11 := ti10.same (same_new (o := .lst [.int 0, .int 0, .int 0, .int 1, .int (-5), .int (10 ^ (50 : Int).toNat)]) nq)
          have ht11 := (same_new (o := .lst [.int 0, .int 0, .int 0, .int 1, .int (-5), .int (10 ^ (50 : Int).toNat)]) nq) _ _ ht10
          refine ⟨p, l, q, 100 * i + 20 + 10 * j + 7, _, rfl, o11.pen, by omega, upd_same, pen_new o10.pen nq, by show 0 < 6; decide, by show 6 ≤ 1000; decide, fun jj v H12 hjj sb12 pen12 => ?_⟩
          obtain ⟨u, rfl, hu0, hu1⟩ : ∃ u : Int, v = .int u ∧ -5 ≤ u ∧ u ≤ 10 ^ 50 := by
            have e50 : (10 : Int) ^ 50 = 100000000000000000000000000000000000000000000000000 := by decide
            have hv := List.mem_of_getElem? hjj
            simp only [List.mem_cons, List.not_mem_nil, or_false] at hv
            rcases hv with rfl | rfl | rfl | rfl | rfl | rfl
            · exact ⟨_, rfl, by decide, by decide⟩
            · exact ⟨_, rfl, by decide, by decide⟩
            · exact ⟨_, rfl, by decide, by decide⟩
            · exact ⟨_, rfl, by decide, by decide⟩
            · exact ⟨_, rfl, by decide, by decide⟩
            · exact ⟨_, rfl, by decide, by decide⟩
          have o12 := o11.but sb12 pen12
          have ti12 : TieX G H12 m k n y := let ⟨_, e⟩ := o11.pen.lst; ti11.but sb12 e
          have ht12 := tup_but o11.pen sb12 ht11
          clear o11 ti11 ht11 sb12 pen12 hjj
          have hm : ls.sum * u ≤ 60 * 10 ^ 50 ∧ -300 ≤ ls.sum * u := by
            have e50 : (10 : Int) ^ 50 = 100000000000000000000000000000000000000000000000000 := by decide
            constructor
            · by_cases c : 0 ≤ u
              · exact Int.mul_le_mul T1 hu1 c (by omega)
              · have : ls.sum * u ≤ 0 := Int.mul_nonpos_of_nonneg_of_nonpos (by omega) (by omega)
                rw [e50]
                omega
            · have h2 : ls.sum * (-5) ≤ ls.sum * u := Int.mul_le_mul_of_nonneg_left hu0 (by omega)
              omega
          refine ⟨_, _, rfl, rfl, small_mul (by omega) (by omega), _, _, rfl, rfl, ?_⟩
          dsimp only
          generalize hd : e + ls.sum * u = d
          have hdn : ∀ i, d - 200 ≤ i → i ≤ d + 200 → i.natAbs < 10 ^ 70 := fun i q0 q1 => by
            have e50 : (10 : Int) ^ 50 = 100000000000000000000000000000000000000000000000000 := by decide
            have e70 : (10 : Nat) ^ 70 = 10000000000000000000000000000000000000000000000000000000000000000000000 := by decide
            rw [e50] at hm
            rw [e70]
            omega
          have near : ∀ i ∈ srcL k n ls d, i.natAbs < 10 ^ 70 := fun i hi => hdn i (src_near g ok hi).1 (src_near g ok hi).2
          have few : (srcL k n ls d).length ≤ 1000 := Nat.le_trans (len_src o g.sum (len60 g) k n d) (by decide)
          -- what is due
          refine ⟨_, rfl, _, rfl, _, rfl, t, a3, k, n, y, ls, d, rfl, ht12, o12.li, g, fun ld H13 s13 hld => .inl ⟨ld, _, rfl, SqL.of hld, fun td ntd => ?_⟩⟩
          have s14 := s13.trans (same_new (o := .tup ((srcL k n ls d).map V.int)) ntd)
          have htd : (upd H13 td (.tup ((srcL k n ls d).map V.int))) td = some (.tup ((srcL k n ls d).map V.int)) := upd_same
          have o14 := o12.same s14
          have ti14 := ti12.same s14
          have ht14 := s14 _ _ ht12
          generalize upd H13 td (.tup ((srcL k n ls d).map V.int)) = H14 at s14 htd o14 ti14 ht14 ⊢
          clear o12 ti12 ht12 s13 s14 hld ntd
          -- the two texts
          refine tie_call rfl ti14.at_ (by decide +kernel) (by decide +kernel) (fun Q' q => ⟨_, rfl, q⟩) rfl o14.cy (fun rs H15 s15 hrs => ?_)
          refine o_callK rfl (ti14.same s15).at_ (fun Q' q => ⟨_, rfl, q⟩) rfl (o14.cy.same s15) (fun rc H16 s16 hrc => ?_)
          refine ⟨by show 2 ≤ sizeLine; decide, fun q1 nq1 => ?_⟩
          have hA := same_new (o := .lst [.ref rs, .ref rc]) nq1
          dsimp only [tNil]
          refine repr_two upd_same (hA _ _ (s16 _ _ hrs)) (hA _ _ hrc) dp_ints near near few few ?_
          have s17 := s15.trans (s16.trans hA)
          have o17 := o14.same s17
          have ti17 := ti14.same s17
          have ht17 := s17 _ _ ht14
          have htd17 := s17 _ _ htd
          generalize upd H16 q1 (.lst [.ref rs, .ref rc]) = H17 at o17 ti17 ht17 htd17 ⊢
          clear o14 ti14 ht14 htd s15 s16 s17 hA hrs hrc nq1
          refine ⟨_, rfl, _, rfl, by show 2 ≤ sizeLine; decide, fun q2 nq2 => ?_⟩
          have hB := same_new (o := .lst [.ref td, .ref td]) nq2
          dsimp only [tNil]
          refine repr_two upd_same (hB _ _ htd17) (hB _ _ htd17) dp_ints near near few few ⟨rfl, _, rfl, ?_⟩
          rw [decide_eq_true rfl]
          refine iteF ?_
          have o18 := o17.same hB
          have ti18 := ti17.same hB
          have ht18 := hB _ _ ht17
          generalize upd H17 q2 (.lst [.ref td, .ref td]) = H18 at o18 ti18 ht18 ⊢
          clear o17 ti17 ht17 htd17 hB nq2
          -- made again, equal
          refine ⟨_, rfl, _, rfl, t, k, n, y, rfl, ht18, nm, ok, fun m2 H19 s19 nm2 ti2 => ?_⟩
          have ti19 := ti18.same s19
          obtain ⟨dx1, g1⟩ := ti19.ob
          obtain ⟨dx2, g2⟩ := ti2.ob
          refine ⟨k, m, m2, dx1, dx2, _, _, rfl, rfl, g1, g2, m, m2, n, y, rfl, ti19, ti2, true, rfl, _, rfl, iteF ?_⟩
          have o19 := o18.same s19
          obtain ⟨cdx, ct, c1, c2⟩ := o19.cy.ob
          refine ⟨_, rfl, x, cdx, _, rfl, c1, x, ls, rfl, o19.cy, fun tl htl => ?_⟩
          refine ⟨_, rfl, .inl ⟨a3, _, rfl, SqL.of o19.li, fun tq ntq => ?_⟩⟩
          refine ne_tups ((same_new ntq) _ _ htl) upd_same rfl ⟨_, rfl, iteF ?_⟩
          have o20 := o19.same (same_new (o := .tup (ls.map V.int)) ntq)
          exact ⟨_, _, _, _, _, _, rfl, o20.le (by omega)⟩
      · rintro σ H5 ⟨w6, w7, w8, w9, w10, w11, rfl, o5⟩
        exact ⟨_, _, _, _, _, _, _, _, _, _, rfl, o5.pen.le (by omega)⟩
    · rintro σ H2 ⟨v2, v3, v4, v5, v6, v7, v8, v9, v10, v11, rfl, pen⟩
      have far1 : (10 : Int) ^ (60 : Int).toNat - 1 = 999999999999999999999999999999999999999999999999999999999999 := by decide
      refine ⟨_, _, rfl, rfl, ⟨by decide, by decide, by decide⟩, _, _, rfl, rfl, ?_⟩
      dsimp only
      rw [far1]
      -- the whole block before the first day that a day can be
      refine fun p1 dx1 n1 nd1 _ => ⟨p1, dx1, "a", rfl, name_a, upd_same, fun H3 keep1 hp1 => ⟨rfl, p1, dx1, _, rfl, hp1, tfl_no _ _ _ (by decide +kernel) (by decide +kernel), ?_⟩⟩
      refine ⟨_, rfl, _, _, rfl, rfl, fun x dx nx nd ne => cyc_make (ls := [1]) (good_of (by decide)) rfl nx nd ne (fun H4 s4 cy => ?_)⟩
      refine ⟨p1, x, 0, [1], 0 - 999999999999999999999999999999999999999999999999999999999999, rfl, ⟨dx1, "a", s4 _ _ hp1⟩, cy, fun r1 H5 s5 h5 => ?_⟩
      refine ⟨_, rfl, _, rfl, _, _, rfl, rfl, by show 1 ≤ sizeLine; decide, fun q1 nq1 => ?_⟩
      refine ne_tups (ys := [-1 - 999999999999999999999999999999999999999999999999999999999999]) ((same_new nq1) _ _ h5) upd_same (by decide +kernel) ⟨_, rfl, iteF ?_⟩
      -- ahead of the last day
      refine fun p2 dx2 n2 nd2 _ => ⟨p2, dx2, "a", 60, rfl, name_a, upd_same, by decide, (fun _ => by decide), by decide, fun H6 keep2 hp2 => ⟨rfl, p2, dx2, _, rfl, hp2, tfl_no _ _ _ (by decide +kernel) (by decide +kernel), ?_⟩⟩
      refine ⟨_, rfl, fun x dx nx nd ne => cyc_make (ls := [7]) (good_of (by decide)) rfl nx nd ne (fun H7 s7 cy => ?_)⟩
      refine ⟨p2, x, 60, [7], 999999999999999999999999999999999999999999999999999999999999, rfl, ⟨dx2, "a", s7 _ _ hp2⟩, cy, fun r2 H8 s8 h8 => ?_⟩
      refine ⟨_, rfl, _, _, rfl, rfl, by show 1 ≤ sizeLine; decide, fun q2 nq2 => ?_⟩
      refine ne_tups (ys := [999999999999999999999999999999999999999999999999999999999999 + 60]) ((same_new nq2) _ _ h8) upd_same (by decide +kernel) ⟨_, rfl, iteF ?_⟩
      -- the same place, the last day
      refine fun p3 dx3 n3 nd3 _ => ⟨p3, dx3, "a", rfl, name_a, upd_same, fun H9 keep3 hp3 => ⟨rfl, p3, dx3, _, rfl, hp3, tfl_no _ _ _ (by decide +kernel) (by decide +kernel), ?_⟩⟩
      refine fun x dx nx nd ne => cyc_make (ls := [2, 3]) (good_of (by decide)) rfl nx nd ne (fun H10 s10 cy => ?_)
      refine ⟨p3, x, 0, [2, 3], 4, rfl, ⟨dx3, "a", s10 _ _ hp3⟩, cy, fun r3 H11 s11 h11 => ?_⟩
      refine ⟨Nat.zero_le _, fun q3 nq3 => ?_⟩
      refine eq_tups (ys := []) ((same_new nq3) _ _ h11) upd_same (by decide +kernel) ⟨_, rfl, iteT ?_⟩
      refine fun p4 dx4 n4 nd4 _ => ⟨p4, dx4, "a", rfl, name_a, upd_same, fun H12 keep4 hp4 => ⟨rfl, p4, dx4, _, rfl, hp4, tfl_no _ _ _ (by decide +kernel) (by decide +kernel), ?_⟩⟩
      refine fun x dx nx nd ne => cyc_make (ls := [2, 3]) (good_of (by decide)) rfl nx nd ne (fun H13 s13 cy => ?_)
      refine ⟨p4, x, 0, [2, 3], 5, rfl, ⟨dx4, "a", s13 _ _ hp4⟩, cy, fun r4 H14 s14 h14 => ?_⟩
      refine ⟨by show 1 ≤ sizeLine; decide, fun q4 nq4 => ?_⟩
      refine eq_tups (ys := [4]) ((same_new nq4) _ _ h14) upd_same (by decide +kernel) ?_
      exact kk _
end
end My
namespace My
open PySem PySem.Spec PyProof.Rows L2
theorem kit_self {K : PySem.W.Frag} {t : Value} : PySem.W.kitOne K t t = some true := by
  unfold PySem.W.kitOne
  rw [if_pos (beq_iff_eq.mpr rfl)]
set_option maxHeartbeats 16000000 in
theorem all_mk {l : PySem.W.OpenLaw} {w : World} {K : PySem.W.Frag} {h : Heap} {mg : Str → Option Value} {fa C : Addr} (X : K.In h) (G : h.Ns mainGlobals mg) (hfa : mg "law" = some (.ref fa))
    {odF0 anF0 : Option Addr} {slF0 : Array (Option Value)} {ocF0 kVF0 dcF0 pmF0 cdF0 ctF0 : Value} {fF0 : Addr}
    {odF1 anF1 : Option Addr} {slF1 : Array (Option Value)} {ocF1 kVF1 dcF1 pmF1 cdF1 ctF1 : Value} {fF1 : Addr}
    {odF2 anF2 : Option Addr} {slF2 : Array (Option Value)} {ocF2 kVF2 dcF2 pmF2 cdF2 ctF2 : Value} {fF2 : Addr}
    {odF3 anF3 : Option Addr} {slF3 : Array (Option Value)} {ocF3 kVF3 dcF3 pmF3 cdF3 ctF3 : Value} {fF3 : Addr}
    {odF4 anF4 : Option Addr} {slF4 : Array (Option Value)} {ocF4 kVF4 dcF4 pmF4 cdF4 ctF4 : Value} {fF4 : Addr}
    {odF5 anF5 : Option Addr} {slF5 : Array (Option Value)} {ocF5 kVF5 dcF5 pmF5 cdF5 ctF5 : Value} {fF5 : Addr}
    {odF6 anF6 : Option Addr} {slF6 : Array (Option Value)} {ocF6 kVF6 dcF6 pmF6 cdF6 ctF6 : Value} {fF6 : Addr}
    {odF7 anF7 : Option Addr} {slF7 : Array (Option Value)} {ocF7 kVF7 dcF7 pmF7 cdF7 ctF7 : Value} {fF7 : Addr}
    {odF8 anF8 : Option Addr} {slF8 : Array (Option Value)} {ocF8 kVF8 dcF8 pmF8 cdF8 ctF8 : Value} {fF8 : Addr}
    {odF9 anF9 : Option Addr} {slF9 : Array (Option Value)} {ocF9 kVF9 dcF9 pmF9 cdF9 ctF9 : Value} {fF9 : Addr}
    {odF10 anF10 : Option Addr} {slF10 : Array (Option Value)} {ocF10 kVF10 dcF10 pmF10 cdF10 ctF10 : Value} {fF10 : Addr}
    {odF11 anF11 : Option Addr} {slF11 : Array (Option Value)} {ocF11 kVF11 dcF11 pmF11 cdF11 ctF11 : Value} {fF11 : Addr}
    {odF12 anF12 : Option Addr} {slF12 : Array (Option Value)} {ocF12 kVF12 dcF12 pmF12 cdF12 ctF12 : Value} {fF12 : Addr}
    {odF13 anF13 : Option Addr} {slF13 : Array (Option Value)} {ocF13 kVF13 dcF13 pmF13 cdF13 ctF13 : Value} {fF13 : Addr}
    {odF14 anF14 : Option Addr} {slF14 : Array (Option Value)} {ocF14 kVF14 dcF14 pmF14 cdF14 ctF14 : Value} {fF14 : Addr}
    {odF15 anF15 : Option Addr} {slF15 : Array (Option Value)} {ocF15 kVF15 dcF15 pmF15 cdF15 ctF15 : Value} {fF15 : Addr}
    {odM0 anM0 : Option Addr} {slM0 : Array (Option Value)} {ocM0 kVM0 dcM0 pmM0 cdM0 ctM0 : Value} {fM0 : Addr}
    {odM1 anM1 : Option Addr} {slM1 : Array (Option Value)} {ocM1 kVM1 dcM1 pmM1 cdM1 ctM1 : Value} {fM1 : Addr}
    {odM2 anM2 : Option Addr} {slM2 : Array (Option Value)} {ocM2 kVM2 dcM2 pmM2 cdM2 ctM2 : Value} {fM2 : Addr}
    {odP0 anP0 : Option Addr} {slP0 : Array (Option Value)} {ocP0 kVP0 dcP0 pmP0 cdP0 ctP0 : Value} {fP0 : Addr}
    {qP0 : Addr} {rsP0 : List Value}
    {odO1 anO1 : Option Addr} {slO1 : Array (Option Value)} {ocO1 kVO1 dcO1 pmO1 cdO1 ctO1 : Value} {fO1 : Addr}
    {qO1 : Addr} {rsO1 : List Value}
    {tkB tkMB tkMT tkMN : Tok}
    {cT cN : Addr}
    {odTI anTI : Option Addr} {slTI : Array (Option Value)} {ocTI kVTI dcTI pmTI cdTI ctTI : Value} {fTI : Addr}
    {odNI anNI : Option Addr} {slNI : Array (Option Value)} {ocNI kVNI dcNI pmNI cdNI ctNI : Value} {fNI : Addr}
    {gBk gAh gSo gWh gLa gSm : Addr}
    {odBkI anBkI : Option Addr} {slBkI : Array (Option Value)} {ocBkI kVBkI dcBkI pmBkI cdBkI ctBkI : Value} {fBkI : Addr}
    {odBkS anBkS : Option Addr} {slBkS : Array (Option Value)} {ocBkS kVBkS dcBkS pmBkS cdBkS ctBkS : Value} {fBkS : Addr}
    {odBkE anBkE : Option Addr} {slBkE : Array (Option Value)} {ocBkE kVBkE dcBkE pmBkE cdBkE ctBkE : Value} {fBkE : Addr}
    {odBkC anBkC : Option Addr} {slBkC : Array (Option Value)} {ocBkC kVBkC dcBkC pmBkC cdBkC ctBkC : Value} {fBkC : Addr}
    {odAhI anAhI : Option Addr} {slAhI : Array (Option Value)} {ocAhI kVAhI dcAhI pmAhI cdAhI ctAhI : Value} {fAhI : Addr}
    {odAhS anAhS : Option Addr} {slAhS : Array (Option Value)} {ocAhS kVAhS dcAhS pmAhS cdAhS ctAhS : Value} {fAhS : Addr}
    {odAhE anAhE : Option Addr} {slAhE : Array (Option Value)} {ocAhE kVAhE dcAhE pmAhE cdAhE ctAhE : Value} {fAhE : Addr}
    {odAhC anAhC : Option Addr} {slAhC : Array (Option Value)} {ocAhC kVAhC dcAhC pmAhC cdAhC ctAhC : Value} {fAhC : Addr}
    {odSoI anSoI : Option Addr} {slSoI : Array (Option Value)} {ocSoI kVSoI dcSoI pmSoI cdSoI ctSoI : Value} {fSoI : Addr}
    {odSoS anSoS : Option Addr} {slSoS : Array (Option Value)} {ocSoS kVSoS dcSoS pmSoS cdSoS ctSoS : Value} {fSoS : Addr}
    {odSoE anSoE : Option Addr} {slSoE : Array (Option Value)} {ocSoE kVSoE dcSoE pmSoE cdSoE ctSoE : Value} {fSoE : Addr}
    {odSoC anSoC : Option Addr} {slSoC : Array (Option Value)} {ocSoC kVSoC dcSoC pmSoC cdSoC ctSoC : Value} {fSoC : Addr}
    {odWhI anWhI : Option Addr} {slWhI : Array (Option Value)} {ocWhI kVWhI dcWhI pmWhI cdWhI ctWhI : Value} {fWhI : Addr}
    {odWhS anWhS : Option Addr} {slWhS : Array (Option Value)} {ocWhS kVWhS dcWhS pmWhS cdWhS ctWhS : Value} {fWhS : Addr}
    {odWhE anWhE : Option Addr} {slWhE : Array (Option Value)} {ocWhE kVWhE dcWhE pmWhE cdWhE ctWhE : Value} {fWhE : Addr}
    {odWhC anWhC : Option Addr} {slWhC : Array (Option Value)} {ocWhC kVWhC dcWhC pmWhC cdWhC ctWhC : Value} {fWhC : Addr}
    {odLaI anLaI : Option Addr} {slLaI : Array (Option Value)} {ocLaI kVLaI dcLaI pmLaI cdLaI ctLaI : Value} {fLaI : Addr}
    {odLaS anLaS : Option Addr} {slLaS : Array (Option Value)} {ocLaS kVLaS dcLaS pmLaS cdLaS ctLaS : Value} {fLaS : Addr}
    {odLaE anLaE : Option Addr} {slLaE : Array (Option Value)} {ocLaE kVLaE dcLaE pmLaE cdLaE ctLaE : Value} {fLaE : Addr}
    {odLaC anLaC : Option Addr} {slLaC : Array (Option Value)} {ocLaC kVLaC dcLaC pmLaC cdLaC ctLaC : Value} {fLaC : Addr}
    {odSmI anSmI : Option Addr} {slSmI : Array (Option Value)} {ocSmI kVSmI dcSmI pmSmI cdSmI ctSmI : Value} {fSmI : Addr}
    {odSmS anSmS : Option Addr} {slSmS : Array (Option Value)} {ocSmS kVSmS dcSmS pmSmS cdSmS ctSmS : Value} {fSmS : Addr}
    {odSmE anSmE : Option Addr} {slSmE : Array (Option Value)} {ocSmE kVSmE dcSmE pmSmE cdSmE ctSmE : Value} {fSmE : Addr}
    {odSmC anSmC : Option Addr} {slSmC : Array (Option Value)} {ocSmC kVSmC dcSmC pmSmC cdSmC ctSmC : Value} {fSmC : Addr}
    (aC : PySem.W.nsIn K mainGlobals "Cycle" = some (some (.ref C)))
    (aF0 : PySem.W.nsIn K mainGlobals "is_whole" = some (some (.ref fF0)))
    (lF0 : K.lookup fF0 = some ⟨ocF0, odF0, .func (PySem.W.fnOf "is_whole" "is_whole" (defArgs sWhole) (defBody sWhole) (defScope sWhole) .none kVF0 dcF0 pmF0 anF0 cdF0 ctF0), slF0⟩)
    (cF0 : PySem.W.codeIn K cdF0 "is_whole" = true)
    (kF0 : PySem.W.keepIn K (.ref fF0) = true)
    (aF1 : PySem.W.nsIn K mainGlobals "is_between" = some (some (.ref fF1)))
    (lF1 : K.lookup fF1 = some ⟨ocF1, odF1, .func (PySem.W.fnOf "is_between" "is_between" (defArgs sBetw) (defBody sBetw) (defScope sBetw) .none kVF1 dcF1 pmF1 anF1 cdF1 ctF1), slF1⟩)
    (cF1 : PySem.W.codeIn K cdF1 "is_between" = true)
    (kF1 : PySem.W.keepIn K (.ref fF1) = true)
    (aF2 : PySem.W.nsIn K mainGlobals "is_day" = some (some (.ref fF2)))
    (lF2 : K.lookup fF2 = some ⟨ocF2, odF2, .func (PySem.W.fnOf "is_day" "is_day" (defArgs sDay) (defBody sDay) (defScope sDay) .none kVF2 dcF2 pmF2 anF2 cdF2 ctF2), slF2⟩)
    (cF2 : PySem.W.codeIn K cdF2 "is_day" = true)
    (kF2 : PySem.W.keepIn K (.ref fF2) = true)
    (aF3 : PySem.W.nsIn K mainGlobals "is_name" = some (some (.ref fF3)))
    (lF3 : K.lookup fF3 = some ⟨ocF3, odF3, .func (PySem.W.fnOf "is_name" "is_name" (defArgs sName) (defBody sName) (defScope sName) .none kVF3 dcF3 pmF3 anF3 cdF3 ctF3), slF3⟩)
    (cF3 : PySem.W.codeIn K cdF3 "is_name" = true)
    (kF3 : PySem.W.keepIn K (.ref fF3) = true)
    (aF4 : PySem.W.nsIn K mainGlobals "check_lengths" = some (some (.ref fF4)))
    (lF4 : K.lookup fF4 = some ⟨ocF4, odF4, .func (PySem.W.fnOf "check_lengths" "check_lengths" (defArgs sChk) (defBody sChk) (defScope sChk) .none kVF4 dcF4 pmF4 anF4 cdF4 ctF4), slF4⟩)
    (cF4 : PySem.W.codeIn K cdF4 "check_lengths" = true)
    (kF4 : PySem.W.keepIn K (.ref fF4) = true)
    (aF5 : PySem.W.nsIn K mainGlobals "block_before" = some (some (.ref fF5)))
    (lF5 : K.lookup fF5 = some ⟨ocF5, odF5, .func (PySem.W.fnOf "block_before" "block_before" (defArgs sBB) (defBody sBB) (defScope sBB) .none kVF5 dcF5 pmF5 anF5 cdF5 ctF5), slF5⟩)
    (cF5 : PySem.W.codeIn K cdF5 "block_before" = true)
    (kF5 : PySem.W.keepIn K (.ref fF5) = true)
    (aF6 : PySem.W.nsIn K mainGlobals "at_place" = some (some (.ref fF6)))
    (lF6 : K.lookup fF6 = some ⟨ocF6, odF6, .func (PySem.W.fnOf "at_place" "at_place" (defArgs sAP) (defBody sAP) (defScope sAP) .none kVF6 dcF6 pmF6 anF6 cdF6 ctF6), slF6⟩)
    (cF6 : PySem.W.codeIn K cdF6 "at_place" = true)
    (kF6 : PySem.W.keepIn K (.ref fF6) = true)
    (aF7 : PySem.W.nsIn K mainGlobals "_law_pen" = some (some (.ref fF7)))
    (lF7 : K.lookup fF7 = some ⟨ocF7, odF7, .func (PySem.W.fnOf "_law_pen" "_law_pen" (defArgs sPen) (defBody sPen) (defScope sPen) .none kVF7 dcF7 pmF7 anF7 cdF7 ctF7), slF7⟩)
    (cF7 : PySem.W.codeIn K cdF7 "_law_pen" = true)
    (kF7 : PySem.W.keepIn K (.ref fF7) = true)
    (aF8 : PySem.W.nsIn K mainGlobals "_law_draw" = some (some (.ref fF8)))
    (lF8 : K.lookup fF8 = some ⟨ocF8, odF8, .func (PySem.W.fnOf "_law_draw" "_law_draw" (defArgs sDraw) (defBody sDraw) (defScope sDraw) .none kVF8 dcF8 pmF8 anF8 cdF8 ctF8), slF8⟩)
    (cF8 : PySem.W.codeIn K cdF8 "_law_draw" = true)
    (kF8 : PySem.W.keepIn K (.ref fF8) = true)
    (aF9 : PySem.W.nsIn K mainGlobals "_law_pick" = some (some (.ref fF9)))
    (lF9 : K.lookup fF9 = some ⟨ocF9, odF9, .func (PySem.W.fnOf "_law_pick" "_law_pick" (defArgs sPick) (defBody sPick) (defScope sPick) .none kVF9 dcF9 pmF9 anF9 cdF9 ctF9), slF9⟩)
    (cF9 : PySem.W.codeIn K cdF9 "_law_pick" = true)
    (kF9 : PySem.W.keepIn K (.ref fF9) = true)
    (aF10 : PySem.W.nsIn K mainGlobals "_law_lengths" = some (some (.ref fF10)))
    (lF10 : K.lookup fF10 = some ⟨ocF10, odF10, .func (PySem.W.fnOf "_law_lengths" "_law_lengths" (defArgs sLens) (defBody sLens) (defScope sLens) .none kVF10 dcF10 pmF10 anF10 cdF10 ctF10), slF10⟩)
    (cF10 : PySem.W.codeIn K cdF10 "_law_lengths" = true)
    (kF10 : PySem.W.keepIn K (.ref fF10) = true)
    (aF11 : PySem.W.nsIn K mainGlobals "_law_tie" = some (some (.ref fF11)))
    (lF11 : K.lookup fF11 = some ⟨ocF11, odF11, .func (PySem.W.fnOf "_law_tie" "_law_tie" (defArgs sTieOf) (defBody sTieOf) (defScope sTieOf) .none kVF11 dcF11 pmF11 anF11 cdF11 ctF11), slF11⟩)
    (cF11 : PySem.W.codeIn K cdF11 "_law_tie" = true)
    (kF11 : PySem.W.keepIn K (.ref fF11) = true)
    (aF12 : PySem.W.nsIn K mainGlobals "_law_plain" = some (some (.ref fF12)))
    (lF12 : K.lookup fF12 = some ⟨ocF12, odF12, .func (PySem.W.fnOf "_law_plain" "_law_plain" (defArgs sPlain) (defBody sPlain) (defScope sPlain) .none kVF12 dcF12 pmF12 anF12 cdF12 ctF12), slF12⟩)
    (cF12 : PySem.W.codeIn K cdF12 "_law_plain" = true)
    (kF12 : PySem.W.keepIn K (.ref fF12) = true)
    (aF13 : PySem.W.nsIn K mainGlobals "_law_block" = some (some (.ref fF13)))
    (lF13 : K.lookup fF13 = some ⟨ocF13, odF13, .func (PySem.W.fnOf "_law_block" "_law_block" (defArgs sBlk) (defBody sBlk) (defScope sBlk) .none kVF13 dcF13 pmF13 anF13 cdF13 ctF13), slF13⟩)
    (cF13 : PySem.W.codeIn K cdF13 "_law_block" = true)
    (kF13 : PySem.W.keepIn K (.ref fF13) = true)
    (aF14 : PySem.W.nsIn K mainGlobals "_law_days" = some (some (.ref fF14)))
    (lF14 : K.lookup fF14 = some ⟨ocF14, odF14, .func (PySem.W.fnOf "_law_days" "_law_days" (defArgs sDays) (defBody sDays) (defScope sDays) .none kVF14 dcF14 pmF14 anF14 cdF14 ctF14), slF14⟩)
    (cF14 : PySem.W.codeIn K cdF14 "_law_days" = true)
    (kF14 : PySem.W.keepIn K (.ref fF14) = true)
    (aF15 : PySem.W.nsIn K mainGlobals "law" = some (some (.ref fF15)))
    (lF15 : K.lookup fF15 = some ⟨ocF15, odF15, .func (PySem.W.fnOf "law" "law" (defArgs sLaw) (defBody sLaw) (defScope sLaw) .none kVF15 dcF15 pmF15 anF15 cdF15 ctF15), slF15⟩)
    (cF15 : PySem.W.codeIn K cdF15 "law" = true)
    (kF15 : PySem.W.keepIn K (.ref fF15) = true)
    (aM0 : PySem.W.findIn K (.ref C) "__init__" = some (some (.ref fM0)))
    (iM0 : PySem.W.isFn K (.ref fM0) = true)
    (lM0 : K.lookup fM0 = some ⟨ocM0, odM0, .func (PySem.W.fnOf "__init__" "Cycle.__init__" (defArgs sInit) (defBody sInit) (defScope sInit) .none kVM0 dcM0 pmM0 anM0 cdM0 ctM0), slM0⟩)
    (cM0 : PySem.W.codeIn K cdM0 "Cycle.__init__" = true)
    (kM0 : PySem.W.keepIn K (.ref fM0) = true)
    (aM1 : PySem.W.findIn K (.ref C) "spot" = some (some (.ref fM1)))
    (iM1 : PySem.W.isFn K (.ref fM1) = true)
    (lM1 : K.lookup fM1 = some ⟨ocM1, odM1, .func (PySem.W.fnOf "spot" "Cycle.spot" (defArgs sSpot) (defBody sSpot) (defScope sSpot) .none kVM1 dcM1 pmM1 anM1 cdM1 ctM1), slM1⟩)
    (cM1 : PySem.W.codeIn K cdM1 "Cycle.spot" = true)
    (kM1 : PySem.W.keepIn K (.ref fM1) = true)
    (aM2 : PySem.W.findIn K (.ref C) "ends" = some (some (.ref fM2)))
    (iM2 : PySem.W.isFn K (.ref fM2) = true)
    (lM2 : K.lookup fM2 = some ⟨ocM2, odM2, .func (PySem.W.fnOf "ends" "Cycle.ends" (defArgs sEnds) (defBody sEnds) (defScope sEnds) .none kVM2 dcM2 pmM2 anM2 cdM2 ctM2), slM2⟩)
    (cM2 : PySem.W.codeIn K cdM2 "Cycle.ends" = true)
    (kM2 : PySem.W.keepIn K (.ref fM2) = true)
    (aP0 : PySem.W.findIn K (.ref C) "lengths" = some (some (.ref qP0)))
    (gP0 : PySem.W.specialIn K (.ref qP0) "__get__" = some (some (.builtin "property.__get__")))
    (tP0 : PySem.W.takesIn K (.ref qP0) = some true)
    (rP0 : PySem.W.recIn K qP0 "property" = some (.ref fP0 :: rsP0))
    (lP0 : K.lookup fP0 = some ⟨ocP0, odP0, .func (PySem.W.fnOf "lengths" "Cycle.lengths" (defArgs sLengths) (defBody sLengths) (defScope sLengths) .none kVP0 dcP0 pmP0 anP0 cdP0 ctP0), slP0⟩)
    (cP0 : PySem.W.codeIn K cdP0 "Cycle.lengths" = true)
    (kP0 : PySem.W.keepIn K (.ref fP0) = true)
    (rd : PySem.W.readsIn K C (.type "type") = true)
    (ga : PySem.W.specialIn K (.ref C) "__getattribute__" = some (some (.builtin "type.__getattribute__")))
    (aO1 : PySem.W.findCls K (.ref C) (.type "type") "of" = some (.get (.builtin "classmethod.__get__") (.ref qO1) .none (.ref C)))
    (rO1 : PySem.W.recIn K qO1 "classmethod" = some (.ref fO1 :: rsO1))
    (nO1 : PySem.W.fnIn K fO1 = true)
    (lO1 : K.lookup fO1 = some ⟨ocO1, odO1, .func (PySem.W.fnOf "of" "Cycle.of" (defArgs sOf) (defBody sOf) (defScope sOf) .none kVO1 dcO1 pmO1 anO1 cdO1 ctO1), slO1⟩)
    (cO1 : PySem.W.codeIn K cdO1 "Cycle.of" = true)
    (kO1 : PySem.W.keepIn K (.ref fO1) = true)
    (pg : PySem.W.plainGet K C Str.empty = true)
    (hd : PySem.W.hasDictIn K C = true)
    (po : PySem.W.plainOver K C = true)
    (sa : PySem.W.findIn K (.ref C) "__setattr__" = some (some (.builtin "object.__setattr__")))
    (mk : PySem.W.makesIn K C = true)
    (kc : PySem.W.keepIn K (.ref C) = true)
    (nL : PySem.W.findIn K (.ref C) "_lengths" = some none)
    (nT : PySem.W.findIn K (.ref C) "_total" = some none)
    (bey : PySem.W.nsIn K mainGlobals "BEYOND" = some (some (.int (10 ^ 60) tkB)))
    (mb : PySem.W.nsIn K mainGlobals "MOST_BLOCKS" = some (some (.int 12 tkMB)))
    (mt : PySem.W.nsIn K mainGlobals "MOST_TOTAL" = some (some (.int 60 tkMT)))
    (mn : PySem.W.nsIn K mainGlobals "MOST_NUMBER" = some (some (.int 60 tkMN)))
    (z_isinstance : PySem.W.nsIn K mainGlobals "isinstance" = some none)
    (z_int : PySem.W.nsIn K mainGlobals "int" = some none)
    (z_bool : PySem.W.nsIn K mainGlobals "bool" = some none)
    (z_enumerate : PySem.W.nsIn K mainGlobals "enumerate" = some none)
    (z_len : PySem.W.nsIn K mainGlobals "len" = some none)
    (z_sum : PySem.W.nsIn K mainGlobals "sum" = some none)
    (z_list : PySem.W.nsIn K mainGlobals "list" = some none)
    (z_tuple : PySem.W.nsIn K mainGlobals "tuple" = some none)
    (z_range : PySem.W.nsIn K mainGlobals "range" = some none)
    (z_abs : PySem.W.nsIn K mainGlobals "abs" = some none)
    (z_str : PySem.W.nsIn K mainGlobals "str" = some none)
    (z_max : PySem.W.nsIn K mainGlobals "max" = some none)
    (z_repr : PySem.W.nsIn K mainGlobals "repr" = some none)
    (clsG : PySem.W.specialIn K (.builtin "object.__class__") "__get__" = some (some (.builtin "getset_descriptor.__get__")))
    (clsT : PySem.W.takesIn K (.builtin "object.__class__") = some true)
    (acT : PySem.W.nsIn K mainGlobals "Tie" = some (some (.ref cT)))
    (rdcT : PySem.W.readsIn K cT (.type "type") = true)
    (gacT : PySem.W.specialIn K (.ref cT) "__getattribute__" = some (some (.builtin "type.__getattribute__")))
    (atcT : PySem.W.findCls K (.ref cT) (.type "type") "__init__" = some (.val (.ref fTI)))
    (lTI : K.lookup fTI = some ⟨ocTI, odTI, .func (PySem.W.fnOf "__init__" "Tie.__init__" (defArgs sTieI) (defBody sTieI) (defScope sTieI) .none kVTI dcTI pmTI anTI cdTI ctTI), slTI⟩)
    (cTI : PySem.W.codeIn K cdTI "Tie.__init__" = true)
    (kTI : PySem.W.keepIn K (.ref fTI) = true)
    (acN : PySem.W.nsIn K mainGlobals "Numbered" = some (some (.ref cN)))
    (rdcN : PySem.W.readsIn K cN (.type "type") = true)
    (gacN : PySem.W.specialIn K (.ref cN) "__getattribute__" = some (some (.builtin "type.__getattribute__")))
    (atcN : PySem.W.findCls K (.ref cN) (.type "type") "__init__" = some (.val (.ref fNI)))
    (lNI : K.lookup fNI = some ⟨ocNI, odNI, .func (PySem.W.fnOf "__init__" "Numbered.__init__" (defArgs sNumI) (defBody sNumI) (defScope sNumI) .none kVNI dcNI pmNI anNI cdNI ctNI), slNI⟩)
    (cNI : PySem.W.codeIn K cdNI "Numbered.__init__" = true)
    (kNI : PySem.W.keepIn K (.ref fNI) = true)
    (nBk : PySem.W.nsIn K mainGlobals "Back" = some (some (.ref gBk)))
    (pgBk : PySem.W.plainGet K gBk Str.empty = true)
    (hdBk : PySem.W.hasDictIn K gBk = true)
    (poBk : PySem.W.plainOver K gBk = true)
    (saBk : PySem.W.findIn K (.ref gBk) "__setattr__" = some (some (.builtin "object.__setattr__")))
    (mkBk : PySem.W.makesIn K gBk = true)
    (kcBk : PySem.W.keepIn K (.ref gBk) = true)
    (nSBk : PySem.W.findIn K (.ref gBk) "source" = some none)
    (nNBk : PySem.W.findIn K (.ref gBk) "number" = some none)
    (aBkI : PySem.W.findIn K (.ref gBk) "__init__" = some (some (.ref fBkI)))
    (iBkI : PySem.W.isFn K (.ref fBkI) = true)
    (lBkI : K.lookup fBkI = some ⟨ocBkI, odBkI, .func (PySem.W.fnOf "__init__" "Back.__init__" (defArgs sBkI) (defBody sBkI) (defScope sBkI) .none kVBkI dcBkI pmBkI anBkI cdBkI ctBkI), slBkI⟩)
    (cBkI : PySem.W.codeIn K cdBkI "Back.__init__" = true)
    (kBkI : PySem.W.keepIn K (.ref fBkI) = true)
    (aBkS : PySem.W.findIn K (.ref gBk) "sources" = some (some (.ref fBkS)))
    (iBkS : PySem.W.isFn K (.ref fBkS) = true)
    (lBkS : K.lookup fBkS = some ⟨ocBkS, odBkS, .func (PySem.W.fnOf "sources" "Back.sources" (defArgs sBkS) (defBody sBkS) (defScope sBkS) .none kVBkS dcBkS pmBkS anBkS cdBkS ctBkS), slBkS⟩)
    (cBkS : PySem.W.codeIn K cdBkS "Back.sources" = true)
    (kBkS : PySem.W.keepIn K (.ref fBkS) = true)
    (aBkE : PySem.W.findIn K (.ref gBk) "__eq__" = some (some (.ref fBkE)))
    (iBkE : PySem.W.isFn K (.ref fBkE) = true)
    (lBkE : K.lookup fBkE = some ⟨ocBkE, odBkE, .func (PySem.W.fnOf "__eq__" "Back.__eq__" (defArgs sBkE) (defBody sBkE) (defScope sBkE) .none kVBkE dcBkE pmBkE anBkE cdBkE ctBkE), slBkE⟩)
    (cBkE : PySem.W.codeIn K cdBkE "Back.__eq__" = true)
    (kBkE : PySem.W.keepIn K (.ref fBkE) = true)
    (aBkC : PySem.W.findIn K (.ref gBk) "__call__" = some (some (.ref fBkC)))
    (iBkC : PySem.W.isFn K (.ref fBkC) = true)
    (lBkC : K.lookup fBkC = some ⟨ocBkC, odBkC, .func (PySem.W.fnOf "__call__" "Back.__call__" (defArgs sBkC) (defBody sBkC) (defScope sBkC) .none kVBkC dcBkC pmBkC anBkC cdBkC ctBkC), slBkC⟩)
    (cBkC : PySem.W.codeIn K cdBkC "Back.__call__" = true)
    (kBkC : PySem.W.keepIn K (.ref fBkC) = true)
    (fiBk : PySem.W.fnIn K fBkC = true)
    (ccBk : PySem.W.findIn K (.ref gBk) "__class__" = some (some (.builtin "object.__class__")))
    (moBk : PySem.W.mroIn K gBk (.type "object") = some true)
    (neBk : PySem.W.findIn K (.ref gBk) "__ne__" = some (some (.builtin "object.__ne__")))
    (nAh : PySem.W.nsIn K mainGlobals "Ahead" = some (some (.ref gAh)))
    (pgAh : PySem.W.plainGet K gAh Str.empty = true)
    (hdAh : PySem.W.hasDictIn K gAh = true)
    (poAh : PySem.W.plainOver K gAh = true)
    (saAh : PySem.W.findIn K (.ref gAh) "__setattr__" = some (some (.builtin "object.__setattr__")))
    (mkAh : PySem.W.makesIn K gAh = true)
    (kcAh : PySem.W.keepIn K (.ref gAh) = true)
    (nSAh : PySem.W.findIn K (.ref gAh) "source" = some none)
    (nNAh : PySem.W.findIn K (.ref gAh) "number" = some none)
    (aAhI : PySem.W.findIn K (.ref gAh) "__init__" = some (some (.ref fAhI)))
    (iAhI : PySem.W.isFn K (.ref fAhI) = true)
    (lAhI : K.lookup fAhI = some ⟨ocAhI, odAhI, .func (PySem.W.fnOf "__init__" "Ahead.__init__" (defArgs sAhI) (defBody sAhI) (defScope sAhI) .none kVAhI dcAhI pmAhI anAhI cdAhI ctAhI), slAhI⟩)
    (cAhI : PySem.W.codeIn K cdAhI "Ahead.__init__" = true)
    (kAhI : PySem.W.keepIn K (.ref fAhI) = true)
    (aAhS : PySem.W.findIn K (.ref gAh) "sources" = some (some (.ref fAhS)))
    (iAhS : PySem.W.isFn K (.ref fAhS) = true)
    (lAhS : K.lookup fAhS = some ⟨ocAhS, odAhS, .func (PySem.W.fnOf "sources" "Ahead.sources" (defArgs sAhS) (defBody sAhS) (defScope sAhS) .none kVAhS dcAhS pmAhS anAhS cdAhS ctAhS), slAhS⟩)
    (cAhS : PySem.W.codeIn K cdAhS "Ahead.sources" = true)
    (kAhS : PySem.W.keepIn K (.ref fAhS) = true)
    (aAhE : PySem.W.findIn K (.ref gAh) "__eq__" = some (some (.ref fAhE)))
    (iAhE : PySem.W.isFn K (.ref fAhE) = true)
    (lAhE : K.lookup fAhE = some ⟨ocAhE, odAhE, .func (PySem.W.fnOf "__eq__" "Ahead.__eq__" (defArgs sAhE) (defBody sAhE) (defScope sAhE) .none kVAhE dcAhE pmAhE anAhE cdAhE ctAhE), slAhE⟩)
    (cAhE : PySem.W.codeIn K cdAhE "Ahead.__eq__" = true)
    (kAhE : PySem.W.keepIn K (.ref fAhE) = true)
    (aAhC : PySem.W.findIn K (.ref gAh) "__call__" = some (some (.ref fAhC)))
    (iAhC : PySem.W.isFn K (.ref fAhC) = true)
    (lAhC : K.lookup fAhC = some ⟨ocAhC, odAhC, .func (PySem.W.fnOf "__call__" "Ahead.__call__" (defArgs sAhC) (defBody sAhC) (defScope sAhC) .none kVAhC dcAhC pmAhC anAhC cdAhC ctAhC), slAhC⟩)
    (cAhC : PySem.W.codeIn K cdAhC "Ahead.__call__" = true)
    (kAhC : PySem.W.keepIn K (.ref fAhC) = true)
    (fiAh : PySem.W.fnIn K fAhC = true)
    (ccAh : PySem.W.findIn K (.ref gAh) "__class__" = some (some (.builtin "object.__class__")))
    (moAh : PySem.W.mroIn K gAh (.type "object") = some true)
    (neAh : PySem.W.findIn K (.ref gAh) "__ne__" = some (some (.builtin "object.__ne__")))
    (nSo : PySem.W.nsIn K mainGlobals "Sofar" = some (some (.ref gSo)))
    (pgSo : PySem.W.plainGet K gSo Str.empty = true)
    (hdSo : PySem.W.hasDictIn K gSo = true)
    (poSo : PySem.W.plainOver K gSo = true)
    (saSo : PySem.W.findIn K (.ref gSo) "__setattr__" = some (some (.builtin "object.__setattr__")))
    (mkSo : PySem.W.makesIn K gSo = true)
    (kcSo : PySem.W.keepIn K (.ref gSo) = true)
    (nSSo : PySem.W.findIn K (.ref gSo) "source" = some none)
    (nNSo : PySem.W.findIn K (.ref gSo) "number" = some none)
    (aSoI : PySem.W.findIn K (.ref gSo) "__init__" = some (some (.ref fSoI)))
    (iSoI : PySem.W.isFn K (.ref fSoI) = true)
    (lSoI : K.lookup fSoI = some ⟨ocSoI, odSoI, .func (PySem.W.fnOf "__init__" "Sofar.__init__" (defArgs sSoI) (defBody sSoI) (defScope sSoI) .none kVSoI dcSoI pmSoI anSoI cdSoI ctSoI), slSoI⟩)
    (cSoI : PySem.W.codeIn K cdSoI "Sofar.__init__" = true)
    (kSoI : PySem.W.keepIn K (.ref fSoI) = true)
    (aSoS : PySem.W.findIn K (.ref gSo) "sources" = some (some (.ref fSoS)))
    (iSoS : PySem.W.isFn K (.ref fSoS) = true)
    (lSoS : K.lookup fSoS = some ⟨ocSoS, odSoS, .func (PySem.W.fnOf "sources" "Sofar.sources" (defArgs sSoS) (defBody sSoS) (defScope sSoS) .none kVSoS dcSoS pmSoS anSoS cdSoS ctSoS), slSoS⟩)
    (cSoS : PySem.W.codeIn K cdSoS "Sofar.sources" = true)
    (kSoS : PySem.W.keepIn K (.ref fSoS) = true)
    (aSoE : PySem.W.findIn K (.ref gSo) "__eq__" = some (some (.ref fSoE)))
    (iSoE : PySem.W.isFn K (.ref fSoE) = true)
    (lSoE : K.lookup fSoE = some ⟨ocSoE, odSoE, .func (PySem.W.fnOf "__eq__" "Sofar.__eq__" (defArgs sSoE) (defBody sSoE) (defScope sSoE) .none kVSoE dcSoE pmSoE anSoE cdSoE ctSoE), slSoE⟩)
    (cSoE : PySem.W.codeIn K cdSoE "Sofar.__eq__" = true)
    (kSoE : PySem.W.keepIn K (.ref fSoE) = true)
    (aSoC : PySem.W.findIn K (.ref gSo) "__call__" = some (some (.ref fSoC)))
    (iSoC : PySem.W.isFn K (.ref fSoC) = true)
    (lSoC : K.lookup fSoC = some ⟨ocSoC, odSoC, .func (PySem.W.fnOf "__call__" "Sofar.__call__" (defArgs sSoC) (defBody sSoC) (defScope sSoC) .none kVSoC dcSoC pmSoC anSoC cdSoC ctSoC), slSoC⟩)
    (cSoC : PySem.W.codeIn K cdSoC "Sofar.__call__" = true)
    (kSoC : PySem.W.keepIn K (.ref fSoC) = true)
    (fiSo : PySem.W.fnIn K fSoC = true)
    (ccSo : PySem.W.findIn K (.ref gSo) "__class__" = some (some (.builtin "object.__class__")))
    (moSo : PySem.W.mroIn K gSo (.type "object") = some true)
    (neSo : PySem.W.findIn K (.ref gSo) "__ne__" = some (some (.builtin "object.__ne__")))
    (nWh : PySem.W.nsIn K mainGlobals "Whole" = some (some (.ref gWh)))
    (pgWh : PySem.W.plainGet K gWh Str.empty = true)
    (hdWh : PySem.W.hasDictIn K gWh = true)
    (poWh : PySem.W.plainOver K gWh = true)
    (saWh : PySem.W.findIn K (.ref gWh) "__setattr__" = some (some (.builtin "object.__setattr__")))
    (mkWh : PySem.W.makesIn K gWh = true)
    (kcWh : PySem.W.keepIn K (.ref gWh) = true)
    (nSWh : PySem.W.findIn K (.ref gWh) "source" = some none)
    (nNWh : PySem.W.findIn K (.ref gWh) "number" = some none)
    (aWhI : PySem.W.findIn K (.ref gWh) "__init__" = some (some (.ref fWhI)))
    (iWhI : PySem.W.isFn K (.ref fWhI) = true)
    (lWhI : K.lookup fWhI = some ⟨ocWhI, odWhI, .func (PySem.W.fnOf "__init__" "Whole.__init__" (defArgs sWhI) (defBody sWhI) (defScope sWhI) .none kVWhI dcWhI pmWhI anWhI cdWhI ctWhI), slWhI⟩)
    (cWhI : PySem.W.codeIn K cdWhI "Whole.__init__" = true)
    (kWhI : PySem.W.keepIn K (.ref fWhI) = true)
    (aWhS : PySem.W.findIn K (.ref gWh) "sources" = some (some (.ref fWhS)))
    (iWhS : PySem.W.isFn K (.ref fWhS) = true)
    (lWhS : K.lookup fWhS = some ⟨ocWhS, odWhS, .func (PySem.W.fnOf "sources" "Whole.sources" (defArgs sWhS) (defBody sWhS) (defScope sWhS) .none kVWhS dcWhS pmWhS anWhS cdWhS ctWhS), slWhS⟩)
    (cWhS : PySem.W.codeIn K cdWhS "Whole.sources" = true)
    (kWhS : PySem.W.keepIn K (.ref fWhS) = true)
    (aWhE : PySem.W.findIn K (.ref gWh) "__eq__" = some (some (.ref fWhE)))
    (iWhE : PySem.W.isFn K (.ref fWhE) = true)
    (lWhE : K.lookup fWhE = some ⟨ocWhE, odWhE, .func (PySem.W.fnOf "__eq__" "Whole.__eq__" (defArgs sWhE) (defBody sWhE) (defScope sWhE) .none kVWhE dcWhE pmWhE anWhE cdWhE ctWhE), slWhE⟩)
    (cWhE : PySem.W.codeIn K cdWhE "Whole.__eq__" = true)
    (kWhE : PySem.W.keepIn K (.ref fWhE) = true)
    (aWhC : PySem.W.findIn K (.ref gWh) "__call__" = some (some (.ref fWhC)))
    (iWhC : PySem.W.isFn K (.ref fWhC) = true)
    (lWhC : K.lookup fWhC = some ⟨ocWhC, odWhC, .func (PySem.W.fnOf "__call__" "Whole.__call__" (defArgs sWhC) (defBody sWhC) (defScope sWhC) .none kVWhC dcWhC pmWhC anWhC cdWhC ctWhC), slWhC⟩)
    (cWhC : PySem.W.codeIn K cdWhC "Whole.__call__" = true)
    (kWhC : PySem.W.keepIn K (.ref fWhC) = true)
    (fiWh : PySem.W.fnIn K fWhC = true)
    (ccWh : PySem.W.findIn K (.ref gWh) "__class__" = some (some (.builtin "object.__class__")))
    (moWh : PySem.W.mroIn K gWh (.type "object") = some true)
    (neWh : PySem.W.findIn K (.ref gWh) "__ne__" = some (some (.builtin "object.__ne__")))
    (nLa : PySem.W.nsIn K mainGlobals "Last" = some (some (.ref gLa)))
    (pgLa : PySem.W.plainGet K gLa Str.empty = true)
    (hdLa : PySem.W.hasDictIn K gLa = true)
    (poLa : PySem.W.plainOver K gLa = true)
    (saLa : PySem.W.findIn K (.ref gLa) "__setattr__" = some (some (.builtin "object.__setattr__")))
    (mkLa : PySem.W.makesIn K gLa = true)
    (kcLa : PySem.W.keepIn K (.ref gLa) = true)
    (nSLa : PySem.W.findIn K (.ref gLa) "source" = some none)
    (nNLa : PySem.W.findIn K (.ref gLa) "number" = some none)
    (aLaI : PySem.W.findIn K (.ref gLa) "__init__" = some (some (.ref fLaI)))
    (iLaI : PySem.W.isFn K (.ref fLaI) = true)
    (lLaI : K.lookup fLaI = some ⟨ocLaI, odLaI, .func (PySem.W.fnOf "__init__" "Last.__init__" (defArgs sLaI) (defBody sLaI) (defScope sLaI) .none kVLaI dcLaI pmLaI anLaI cdLaI ctLaI), slLaI⟩)
    (cLaI : PySem.W.codeIn K cdLaI "Last.__init__" = true)
    (kLaI : PySem.W.keepIn K (.ref fLaI) = true)
    (aLaS : PySem.W.findIn K (.ref gLa) "sources" = some (some (.ref fLaS)))
    (iLaS : PySem.W.isFn K (.ref fLaS) = true)
    (lLaS : K.lookup fLaS = some ⟨ocLaS, odLaS, .func (PySem.W.fnOf "sources" "Last.sources" (defArgs sLaS) (defBody sLaS) (defScope sLaS) .none kVLaS dcLaS pmLaS anLaS cdLaS ctLaS), slLaS⟩)
    (cLaS : PySem.W.codeIn K cdLaS "Last.sources" = true)
    (kLaS : PySem.W.keepIn K (.ref fLaS) = true)
    (aLaE : PySem.W.findIn K (.ref gLa) "__eq__" = some (some (.ref fLaE)))
    (iLaE : PySem.W.isFn K (.ref fLaE) = true)
    (lLaE : K.lookup fLaE = some ⟨ocLaE, odLaE, .func (PySem.W.fnOf "__eq__" "Last.__eq__" (defArgs sLaE) (defBody sLaE) (defScope sLaE) .none kVLaE dcLaE pmLaE anLaE cdLaE ctLaE), slLaE⟩)
    (cLaE : PySem.W.codeIn K cdLaE "Last.__eq__" = true)
    (kLaE : PySem.W.keepIn K (.ref fLaE) = true)
    (aLaC : PySem.W.findIn K (.ref gLa) "__call__" = some (some (.ref fLaC)))
    (iLaC : PySem.W.isFn K (.ref fLaC) = true)
    (lLaC : K.lookup fLaC = some ⟨ocLaC, odLaC, .func (PySem.W.fnOf "__call__" "Last.__call__" (defArgs sLaC) (defBody sLaC) (defScope sLaC) .none kVLaC dcLaC pmLaC anLaC cdLaC ctLaC), slLaC⟩)
    (cLaC : PySem.W.codeIn K cdLaC "Last.__call__" = true)
    (kLaC : PySem.W.keepIn K (.ref fLaC) = true)
    (fiLa : PySem.W.fnIn K fLaC = true)
    (ccLa : PySem.W.findIn K (.ref gLa) "__class__" = some (some (.builtin "object.__class__")))
    (moLa : PySem.W.mroIn K gLa (.type "object") = some true)
    (neLa : PySem.W.findIn K (.ref gLa) "__ne__" = some (some (.builtin "object.__ne__")))
    (nSm : PySem.W.nsIn K mainGlobals "Same" = some (some (.ref gSm)))
    (pgSm : PySem.W.plainGet K gSm Str.empty = true)
    (hdSm : PySem.W.hasDictIn K gSm = true)
    (poSm : PySem.W.plainOver K gSm = true)
    (saSm : PySem.W.findIn K (.ref gSm) "__setattr__" = some (some (.builtin "object.__setattr__")))
    (mkSm : PySem.W.makesIn K gSm = true)
    (kcSm : PySem.W.keepIn K (.ref gSm) = true)
    (nSSm : PySem.W.findIn K (.ref gSm) "source" = some none)
    (nNSm : PySem.W.findIn K (.ref gSm) "number" = some none)
    (aSmI : PySem.W.findIn K (.ref gSm) "__init__" = some (some (.ref fSmI)))
    (iSmI : PySem.W.isFn K (.ref fSmI) = true)
    (lSmI : K.lookup fSmI = some ⟨ocSmI, odSmI, .func (PySem.W.fnOf "__init__" "Same.__init__" (defArgs sSmI) (defBody sSmI) (defScope sSmI) .none kVSmI dcSmI pmSmI anSmI cdSmI ctSmI), slSmI⟩)
    (cSmI : PySem.W.codeIn K cdSmI "Same.__init__" = true)
    (kSmI : PySem.W.keepIn K (.ref fSmI) = true)
    (aSmS : PySem.W.findIn K (.ref gSm) "sources" = some (some (.ref fSmS)))
    (iSmS : PySem.W.isFn K (.ref fSmS) = true)
    (lSmS : K.lookup fSmS = some ⟨ocSmS, odSmS, .func (PySem.W.fnOf "sources" "Same.sources" (defArgs sSmS) (defBody sSmS) (defScope sSmS) .none kVSmS dcSmS pmSmS anSmS cdSmS ctSmS), slSmS⟩)
    (cSmS : PySem.W.codeIn K cdSmS "Same.sources" = true)
    (kSmS : PySem.W.keepIn K (.ref fSmS) = true)
    (aSmE : PySem.W.findIn K (.ref gSm) "__eq__" = some (some (.ref fSmE)))
    (iSmE : PySem.W.isFn K (.ref fSmE) = true)
    (lSmE : K.lookup fSmE = some ⟨ocSmE, odSmE, .func (PySem.W.fnOf "__eq__" "Same.__eq__" (defArgs sSmE) (defBody sSmE) (defScope sSmE) .none kVSmE dcSmE pmSmE anSmE cdSmE ctSmE), slSmE⟩)
    (cSmE : PySem.W.codeIn K cdSmE "Same.__eq__" = true)
    (kSmE : PySem.W.keepIn K (.ref fSmE) = true)
    (aSmC : PySem.W.findIn K (.ref gSm) "__call__" = some (some (.ref fSmC)))
    (iSmC : PySem.W.isFn K (.ref fSmC) = true)
    (lSmC : K.lookup fSmC = some ⟨ocSmC, odSmC, .func (PySem.W.fnOf "__call__" "Same.__call__" (defArgs sSmC) (defBody sSmC) (defScope sSmC) .none kVSmC dcSmC pmSmC anSmC cdSmC ctSmC), slSmC⟩)
    (cSmC : PySem.W.codeIn K cdSmC "Same.__call__" = true)
    (kSmC : PySem.W.keepIn K (.ref fSmC) = true)
    (fiSm : PySem.W.fnIn K fSmC = true)
    (ccSm : PySem.W.findIn K (.ref gSm) "__class__" = some (some (.builtin "object.__class__")))
    (moSm : PySem.W.mroIn K gSm (.type "object") = some true)
    (neSm : PySem.W.findIn K (.ref gSm) "__ne__" = some (some (.builtin "object.__ne__")))
    : ∃ fd : FuncData, (∀ (s : Shared) (v : Value), BindsTo s fd ⟨[v], []⟩ [("_law_script", v)]) ∧ ∀ base : Heap, K.In base → base.Ns mainGlobals mg → FnG l.prog w K mg base CX0 7 fa fd ["_law_script"] (spLaw K) := by
  have e := hfa.symm.trans (PySem.W.mg_of X G aF15)
  cases e
  have GF0 := PySem.W.mg_of X G aF0
  have HF0 := fun_mk (st := sWhole) lF0 cF0 kF0
  have GF1 := PySem.W.mg_of X G aF1
  have HF1 := fun_mk (st := sBetw) lF1 cF1 kF1
  have GF2 := PySem.W.mg_of X G aF2
  have HF2 := fun_mk (st := sDay) lF2 cF2 kF2
  have GF3 := PySem.W.mg_of X G aF3
  have HF3 := fun_mk (st := sName) lF3 cF3 kF3
  have GF4 := PySem.W.mg_of X G aF4
  have HF4 := fun_mk (st := sChk) lF4 cF4 kF4
  have GF5 := PySem.W.mg_of X G aF5
  have HF5 := fun_mk (st := sBB) lF5 cF5 kF5
  have GF6 := PySem.W.mg_of X G aF6
  have HF6 := fun_mk (st := sAP) lF6 cF6 kF6
  have GF7 := PySem.W.mg_of X G aF7
  have HF7 := fun_mk (st := sPen) lF7 cF7 kF7
  have GF8 := PySem.W.mg_of X G aF8
  have HF8 := fun_mk (st := sDraw) lF8 cF8 kF8
  have GF9 := PySem.W.mg_of X G aF9
  have HF9 := fun_mk (st := sPick) lF9 cF9 kF9
  have GF10 := PySem.W.mg_of X G aF10
  have HF10 := fun_mk (st := sLens) lF10 cF10 kF10
  have GF11 := PySem.W.mg_of X G aF11
  have HF11 := fun_mk (st := sTieOf) lF11 cF11 kF11
  have GF12 := PySem.W.mg_of X G aF12
  have HF12 := fun_mk (st := sPlain) lF12 cF12 kF12
  have GF13 := PySem.W.mg_of X G aF13
  have HF13 := fun_mk (st := sBlk) lF13 cF13 kF13
  have GF14 := PySem.W.mg_of X G aF14
  have HF14 := fun_mk (st := sDays) lF14 cF14 kF14
  have GF15 := PySem.W.mg_of X G aF15
  have HF15 := fun_mk (st := sLaw) lF15 cF15 kF15
  have HM0 := fun_mk (st := sInit) lM0 cM0 kM0
  have HM1 := fun_mk (st := sSpot) lM1 cM1 kM1
  have HM2 := fun_mk (st := sEnds) lM2 cM2 kM2
  have HP0 := fun_mk (st := sLengths) lP0 cP0 kP0
  have HO1 := fun_mk (st := sOf) lO1 cO1 kO1
  have HTI := fun_mk (st := sTieI) lTI cTI kTI
  have HNI := fun_mk (st := sNumI) lNI cNI kNI
  have HBkI := fun_mk (st := sBkI) lBkI cBkI kBkI
  have HBkS := fun_mk (st := sBkS) lBkS cBkS kBkS
  have HBkE := fun_mk (st := sBkE) lBkE cBkE kBkE
  have HBkC := fun_mk (st := sBkC) lBkC cBkC kBkC
  have HAhI := fun_mk (st := sAhI) lAhI cAhI kAhI
  have HAhS := fun_mk (st := sAhS) lAhS cAhS kAhS
  have HAhE := fun_mk (st := sAhE) lAhE cAhE kAhE
  have HAhC := fun_mk (st := sAhC) lAhC cAhC kAhC
  have HSoI := fun_mk (st := sSoI) lSoI cSoI kSoI
  have HSoS := fun_mk (st := sSoS) lSoS cSoS kSoS
  have HSoE := fun_mk (st := sSoE) lSoE cSoE kSoE
  have HSoC := fun_mk (st := sSoC) lSoC cSoC kSoC
  have HWhI := fun_mk (st := sWhI) lWhI cWhI kWhI
  have HWhS := fun_mk (st := sWhS) lWhS cWhS kWhS
  have HWhE := fun_mk (st := sWhE) lWhE cWhE kWhE
  have HWhC := fun_mk (st := sWhC) lWhC cWhC kWhC
  have HLaI := fun_mk (st := sLaI) lLaI cLaI kLaI
  have HLaS := fun_mk (st := sLaS) lLaS cLaS kLaS
  have HLaE := fun_mk (st := sLaE) lLaE cLaE kLaE
  have HLaC := fun_mk (st := sLaC) lLaC cLaC kLaC
  have HSmI := fun_mk (st := sSmI) lSmI cSmI kSmI
  have HSmS := fun_mk (st := sSmS) lSmS cSmS kSmS
  have HSmE := fun_mk (st := sSmE) lSmE cSmE kSmE
  have HSmC := fun_mk (st := sSmC) lSmC cSmC kSmC
  have bF0 := HF0.binds (ps := ["value"]) fun _ _ _ _ _ _ us hl => match us, hl with | [_], _ => rfl
  have bF1 := HF1.binds (ps := ["value", "low", "high"]) fun _ _ _ _ _ _ us hl => match us, hl with | [_, _, _], _ => rfl
  have bF2 := HF2.binds (ps := ["value"]) fun _ _ _ _ _ _ us hl => match us, hl with | [_], _ => rfl
  have bF3 := HF3.binds (ps := ["value"]) fun _ _ _ _ _ _ us hl => match us, hl with | [_], _ => rfl
  have bF4 := HF4.binds (ps := ["lengths"]) fun _ _ _ _ _ _ us hl => match us, hl with | [_], _ => rfl
  have bF5 := HF5.binds (ps := ["day", "cycle"]) fun _ _ _ _ _ _ us hl => match us, hl with | [_, _], _ => rfl
  have bF6 := HF6.binds (ps := ["days", "place"]) fun _ _ _ _ _ _ us hl => match us, hl with | [_, _], _ => rfl
  have bF7 := HF7.binds (ps := ["_law_script"]) fun _ _ _ _ _ _ us hl => match us, hl with | [_], _ => rfl
  have bF8 := HF8.binds (ps := ["_law_pen_here", "_law_many"]) fun _ _ _ _ _ _ us hl => match us, hl with | [_, _], _ => rfl
  have bF9 := HF9.binds (ps := ["_law_pen_here", "_law_some"]) fun _ _ _ _ _ _ us hl => match us, hl with | [_, _], _ => rfl
  have bF10 := HF10.binds (ps := ["_law_pen_here"]) fun _ _ _ _ _ _ us hl => match us, hl with | [_], _ => rfl
  have bF11 := HF11.binds (ps := ["_law_plain_here"]) fun _ _ _ _ _ _ us hl => match us, hl with | [_], _ => rfl
  have bF12 := HF12.binds (ps := ["_law_pen_here", "_law_labels"]) fun _ _ _ _ _ _ us hl => match us, hl with | [_, _], _ => rfl
  have bF13 := HF13.binds (ps := ["_law_lengths_so", "_law_day"]) fun _ _ _ _ _ _ us hl => match us, hl with | [_, _], _ => rfl
  have bF14 := HF14.binds (ps := ["_law_plain_here", "_law_day", "_law_lengths_so"]) fun _ _ _ _ _ _ us hl => match us, hl with | [_, _, _], _ => rfl
  have bM1 := HM1.binds (ps := ["self", "day"]) fun _ _ _ _ _ _ us hl => match us, hl with | [_, _], _ => rfl
  have bM2 := HM2.binds (ps := ["self", "day"]) fun _ _ _ _ _ _ us hl => match us, hl with | [_, _], _ => rfl
  have bP0 := HP0.binds (ps := ["self"]) fun _ _ _ _ _ _ us hl => match us, hl with | [_], _ => rfl
  have bO1 := HO1.binds (ps := ["cls", "lengths"]) fun _ _ _ _ _ _ us hl => match us, hl with | [_, _], _ => rfl
  have bTI := HTI.binds (ps := ["self", "source"]) fun _ _ _ _ _ _ us hl => match us, hl with | [_, _], _ => rfl
  have bNI := HNI.binds (ps := ["self", "number", "least"]) fun _ _ _ _ _ _ us hl => match us, hl with | [_, _, _], _ => rfl
  have bBkI := HBkI.binds (ps := ["self", "source", "number"]) fun _ _ _ _ _ _ us hl => match us, hl with | [_, _, _], _ => rfl
  have bBkS := HBkS.binds (ps := ["self", "day", "cycle"]) fun _ _ _ _ _ _ us hl => match us, hl with | [_, _, _], _ => rfl
  have bBkC := HBkC.binds (ps := ["self", "day", "cycle"]) fun _ _ _ _ _ _ us hl => match us, hl with | [_, _, _], _ => rfl
  have bBkE := HBkE.binds (ps := ["self", "other"]) fun _ _ _ _ _ _ us hl => match us, hl with | [_, _], _ => rfl
  have bAhI := HAhI.binds (ps := ["self", "source", "number"]) fun _ _ _ _ _ _ us hl => match us, hl with | [_, _, _], _ => rfl
  have bAhS := HAhS.binds (ps := ["self", "day", "cycle"]) fun _ _ _ _ _ _ us hl => match us, hl with | [_, _, _], _ => rfl
  have bAhC := HAhC.binds (ps := ["self", "day", "cycle"]) fun _ _ _ _ _ _ us hl => match us, hl with | [_, _, _], _ => rfl
  have bAhE := HAhE.binds (ps := ["self", "other"]) fun _ _ _ _ _ _ us hl => match us, hl with | [_, _], _ => rfl
  have bSoI := HSoI.binds (ps := ["self", "source"]) fun _ _ _ _ _ _ us hl => match us, hl with | [_, _], _ => rfl
  have bSoS := HSoS.binds (ps := ["self", "day", "cycle"]) fun _ _ _ _ _ _ us hl => match us, hl with | [_, _, _], _ => rfl
  have bSoC := HSoC.binds (ps := ["self", "day", "cycle"]) fun _ _ _ _ _ _ us hl => match us, hl with | [_, _, _], _ => rfl
  have bSoE := HSoE.binds (ps := ["self", "other"]) fun _ _ _ _ _ _ us hl => match us, hl with | [_, _], _ => rfl
  have bWhI := HWhI.binds (ps := ["self", "source"]) fun _ _ _ _ _ _ us hl => match us, hl with | [_, _], _ => rfl
  have bWhS := HWhS.binds (ps := ["self", "day", "cycle"]) fun _ _ _ _ _ _ us hl => match us, hl with | [_, _, _], _ => rfl
  have bWhC := HWhC.binds (ps := ["self", "day", "cycle"]) fun _ _ _ _ _ _ us hl => match us, hl with | [_, _, _], _ => rfl
  have bWhE := HWhE.binds (ps := ["self", "other"]) fun _ _ _ _ _ _ us hl => match us, hl with | [_, _], _ => rfl
  have bLaI := HLaI.binds (ps := ["self", "source"]) fun _ _ _ _ _ _ us hl => match us, hl with | [_, _], _ => rfl
  have bLaS := HLaS.binds (ps := ["self", "day", "cycle"]) fun _ _ _ _ _ _ us hl => match us, hl with | [_, _, _], _ => rfl
  have bLaC := HLaC.binds (ps := ["self", "day", "cycle"]) fun _ _ _ _ _ _ us hl => match us, hl with | [_, _, _], _ => rfl
  have bLaE := HLaE.binds (ps := ["self", "other"]) fun _ _ _ _ _ _ us hl => match us, hl with | [_, _], _ => rfl
  have bSmI := HSmI.binds (ps := ["self", "source"]) fun _ _ _ _ _ _ us hl => match us, hl with | [_, _], _ => rfl
  have bSmS := HSmS.binds (ps := ["self", "day", "cycle"]) fun _ _ _ _ _ _ us hl => match us, hl with | [_, _, _], _ => rfl
  have bSmC := HSmC.binds (ps := ["self", "day", "cycle"]) fun _ _ _ _ _ _ us hl => match us, hl with | [_, _, _], _ => rfl
  have bSmE := HSmE.binds (ps := ["self", "other"]) fun _ _ _ _ _ _ us hl => match us, hl with | [_, _], _ => rfl
  have T : Txt K mg C fF0 fF1 fF2 fF4 := ⟨⟨pg, hd, po, sa⟩, nL, nT, PySem.W.mg_of X G aC, GF0, GF1, GF2, GF4, ⟨_, PySem.W.mg_of X G bey⟩, ⟨_, PySem.W.mg_of X G mb⟩, ⟨_, PySem.W.mg_of X G mt⟩, PySem.W.mg_none_of X G z_isinstance, PySem.W.mg_none_of X G z_int, PySem.W.mg_none_of X G z_bool, PySem.W.mg_none_of X G z_enumerate, PySem.W.mg_none_of X G z_len, PySem.W.mg_none_of X G z_sum, PySem.W.mg_none_of X G z_list, PySem.W.mg_none_of X G z_tuple, PySem.W.mg_none_of X G z_range, PySem.W.mg_none_of X G z_abs⟩
  let GG : Kd → Addr := fun k => match k with
    | .bk => gBk
    | .ah => gAh
    | .so => gSo
    | .wh => gWh
    | .la => gLa
    | .sm => gSm
  let fI : Kd → Addr := fun k => match k with
    | .bk => fBkI
    | .ah => fAhI
    | .so => fSoI
    | .wh => fWhI
    | .la => fLaI
    | .sm => fSmI
  let fS : Kd → Addr := fun k => match k with
    | .bk => fBkS
    | .ah => fAhS
    | .so => fSoS
    | .wh => fWhS
    | .la => fLaS
    | .sm => fSmS
  let fE : Kd → Addr := fun k => match k with
    | .bk => fBkE
    | .ah => fAhE
    | .so => fSoE
    | .wh => fWhE
    | .la => fLaE
    | .sm => fSmE
  let fC : Kd → Addr := fun k => match k with
    | .bk => fBkC
    | .ah => fAhC
    | .so => fSoC
    | .wh => fWhC
    | .la => fLaC
    | .sm => fSmC
  let dI : Kd → FuncData := fun k => match k with
    | .bk => PySem.W.fnOf "__init__" "Back.__init__" (defArgs sBkI) (defBody sBkI) (defScope sBkI) .none kVBkI dcBkI pmBkI anBkI cdBkI ctBkI
    | .ah => PySem.W.fnOf "__init__" "Ahead.__init__" (defArgs sAhI) (defBody sAhI) (defScope sAhI) .none kVAhI dcAhI pmAhI anAhI cdAhI ctAhI
    | .so => PySem.W.fnOf "__init__" "Sofar.__init__" (defArgs sSoI) (defBody sSoI) (defScope sSoI) .none kVSoI dcSoI pmSoI anSoI cdSoI ctSoI
    | .wh => PySem.W.fnOf "__init__" "Whole.__init__" (defArgs sWhI) (defBody sWhI) (defScope sWhI) .none kVWhI dcWhI pmWhI anWhI cdWhI ctWhI
    | .la => PySem.W.fnOf "__init__" "Last.__init__" (defArgs sLaI) (defBody sLaI) (defScope sLaI) .none kVLaI dcLaI pmLaI anLaI cdLaI ctLaI
    | .sm => PySem.W.fnOf "__init__" "Same.__init__" (defArgs sSmI) (defBody sSmI) (defScope sSmI) .none kVSmI dcSmI pmSmI anSmI cdSmI ctSmI
  let dS : Kd → FuncData := fun k => match k with
    | .bk => PySem.W.fnOf "sources" "Back.sources" (defArgs sBkS) (defBody sBkS) (defScope sBkS) .none kVBkS dcBkS pmBkS anBkS cdBkS ctBkS
    | .ah => PySem.W.fnOf "sources" "Ahead.sources" (defArgs sAhS) (defBody sAhS) (defScope sAhS) .none kVAhS dcAhS pmAhS anAhS cdAhS ctAhS
    | .so => PySem.W.fnOf "sources" "Sofar.sources" (defArgs sSoS) (defBody sSoS) (defScope sSoS) .none kVSoS dcSoS pmSoS anSoS cdSoS ctSoS
    | .wh => PySem.W.fnOf "sources" "Whole.sources" (defArgs sWhS) (defBody sWhS) (defScope sWhS) .none kVWhS dcWhS pmWhS anWhS cdWhS ctWhS
    | .la => PySem.W.fnOf "sources" "Last.sources" (defArgs sLaS) (defBody sLaS) (defScope sLaS) .none kVLaS dcLaS pmLaS anLaS cdLaS ctLaS
    | .sm => PySem.W.fnOf "sources" "Same.sources" (defArgs sSmS) (defBody sSmS) (defScope sSmS) .none kVSmS dcSmS pmSmS anSmS cdSmS ctSmS
  let dE : Kd → FuncData := fun k => match k with
    | .bk => PySem.W.fnOf "__eq__" "Back.__eq__" (defArgs sBkE) (defBody sBkE) (defScope sBkE) .none kVBkE dcBkE pmBkE anBkE cdBkE ctBkE
    | .ah => PySem.W.fnOf "__eq__" "Ahead.__eq__" (defArgs sAhE) (defBody sAhE) (defScope sAhE) .none kVAhE dcAhE pmAhE anAhE cdAhE ctAhE
    | .so => PySem.W.fnOf "__eq__" "Sofar.__eq__" (defArgs sSoE) (defBody sSoE) (defScope sSoE) .none kVSoE dcSoE pmSoE anSoE cdSoE ctSoE
    | .wh => PySem.W.fnOf "__eq__" "Whole.__eq__" (defArgs sWhE) (defBody sWhE) (defScope sWhE) .none kVWhE dcWhE pmWhE anWhE cdWhE ctWhE
    | .la => PySem.W.fnOf "__eq__" "Last.__eq__" (defArgs sLaE) (defBody sLaE) (defScope sLaE) .none kVLaE dcLaE pmLaE anLaE cdLaE ctLaE
    | .sm => PySem.W.fnOf "__eq__" "Same.__eq__" (defArgs sSmE) (defBody sSmE) (defScope sSmE) .none kVSmE dcSmE pmSmE anSmE cdSmE ctSmE
  let dC : Kd → FuncData := fun k => match k with
    | .bk => PySem.W.fnOf "__call__" "Back.__call__" (defArgs sBkC) (defBody sBkC) (defScope sBkC) .none kVBkC dcBkC pmBkC anBkC cdBkC ctBkC
    | .ah => PySem.W.fnOf "__call__" "Ahead.__call__" (defArgs sAhC) (defBody sAhC) (defScope sAhC) .none kVAhC dcAhC pmAhC anAhC cdAhC ctAhC
    | .so => PySem.W.fnOf "__call__" "Sofar.__call__" (defArgs sSoC) (defBody sSoC) (defScope sSoC) .none kVSoC dcSoC pmSoC anSoC cdSoC ctSoC
    | .wh => PySem.W.fnOf "__call__" "Whole.__call__" (defArgs sWhC) (defBody sWhC) (defScope sWhC) .none kVWhC dcWhC pmWhC anWhC cdWhC ctWhC
    | .la => PySem.W.fnOf "__call__" "Last.__call__" (defArgs sLaC) (defBody sLaC) (defScope sLaC) .none kVLaC dcLaC pmLaC anLaC cdLaC ctLaC
    | .sm => PySem.W.fnOf "__call__" "Same.__call__" (defArgs sSmC) (defBody sSmC) (defScope sSmC) .none kVSmC dcSmC pmSmC anSmC cdSmC ctSmC
  have yc : ∀ k, Cls K (GG k) := fun k => match k with
    | .bk => ⟨pgBk, hdBk, poBk, saBk⟩
    | .ah => ⟨pgAh, hdAh, poAh, saAh⟩
    | .so => ⟨pgSo, hdSo, poSo, saSo⟩
    | .wh => ⟨pgWh, hdWh, poWh, saWh⟩
    | .la => ⟨pgLa, hdLa, poLa, saLa⟩
    | .sm => ⟨pgSm, hdSm, poSm, saSm⟩
  have yS : ∀ k, NoAttr K (GG k) "source" := fun k => match k with
    | .bk => nSBk
    | .ah => nSAh
    | .so => nSSo
    | .wh => nSWh
    | .la => nSLa
    | .sm => nSSm
  have yN : ∀ k, NoAttr K (GG k) "number" := fun k => match k with
    | .bk => nNBk
    | .ah => nNAh
    | .so => nNSo
    | .wh => nNWh
    | .la => nNLa
    | .sm => nNSm
  have Y : Ty K mg GG cT cN fTI fNI fF3 fF5 0 fF6 := ⟨yc, yS, yN, PySem.W.mg_of X G acT, PySem.W.mg_of X G acN, PySem.W.mg_of X G nBk, PySem.W.mg_of X G nAh, PySem.W.mg_of X G nSo, PySem.W.mg_of X G nWh, PySem.W.mg_of X G nLa, PySem.W.mg_of X G nSm, GF3, GF5, GF6, ⟨_, PySem.W.mg_of X G mn⟩, ⟨rdcT, gacT⟩, ⟨rdcN, gacN⟩, ⟨atcT, kTI⟩, ⟨atcN, kNI⟩, PySem.W.mg_none_of X G z_str, PySem.W.mg_none_of X G z_max⟩
  refine ⟨PySem.W.fnOf "law" "law" (defArgs sLaw) (defBody sLaw) (defScope sLaw) .none kVF15 dcF15 pmF15 anF15 cdF15 ctF15, fun s v => .of_eq rfl, fun base _ _ => ?_⟩
  have DD : DayM l.prog w K mg base fF2 _ := ⟨ok_day HF2 T HF0 bF0 HF1 bF1, bF2, HF2.kp⟩
  have SS : SpotM l.prog w K mg base C fM1 _ := ⟨ok_spot HM1 T, bM1, ⟨aM1, iM1, kM1⟩⟩
  have EE : EndsM l.prog w K mg base C fM2 _ := ⟨ok_ends HM2 T SS, bM2, ⟨aM2, iM2, kM2⟩⟩
  have GL : CP l.prog w K mg base C "lengths" (spGetL C) qP0 fP0 _ := ⟨ok_lengths HP0 T, bP0, ⟨aP0, gP0, tP0, ⟨_, rP0⟩⟩⟩
  have BB : Df l.prog w K mg base "block_before" 3 fF5 _ ["day", "cycle"] _ := ⟨ok_BB HF5 T EE, bF5, HF5.kp, GF5⟩
  have AP : Df l.prog w K mg base "at_place" 1 fF6 _ ["days", "place"] _ := ⟨ok_AP HF6, bF6, HF6.kp, GF6⟩
  have HL : Hlp l.prog w K mg base C fF5 0 fF6 _ (PySem.W.fnOf "law" "law" (defArgs sLaw) (defBody sLaw) (defScope sLaw) .none kVF15 dcF15 pmF15 anF15 cdF15 ctF15) _ := ⟨BB, AP⟩
  have J : Inits l.prog w K mg base fTI fNI _ _ := ⟨ok_tieI HTI T Y HF3 bF3, bTI, ok_numI HNI T Y HF0 bF0 HF1 bF1, bNI⟩
  have sF : ∀ k, FnOk l.prog w K mg base CX0 4 (fS k) (dS k) ["self", "day", "cycle"] (spTie GG C k srcL) := fun k => match k with
    | .bk => ok_BkS HBkS T Y EE HL
    | .ah => ok_AhS HAhS T Y EE HL
    | .so => ok_SoS HSoS T Y EE HL
    | .wh => ok_WhS HWhS T Y EE HL
    | .la => ok_LaS HLaS T Y EE HL
    | .sm => ok_SmS HSmS T Y EE HL
  have sB : ∀ k, Binds K (dS k) ["self", "day", "cycle"] [] := fun k => match k with
    | .bk => bBkS
    | .ah => bAhS
    | .so => bSoS
    | .wh => bWhS
    | .la => bLaS
    | .sm => bSmS
  have sM : ∀ k, Meth K (GG k) "sources" (fS k) := fun k => match k with
    | .bk => ⟨aBkS, iBkS, kBkS⟩
    | .ah => ⟨aAhS, iAhS, kAhS⟩
    | .so => ⟨aSoS, iSoS, kSoS⟩
    | .wh => ⟨aWhS, iWhS, kWhS⟩
    | .la => ⟨aLaS, iLaS, kLaS⟩
    | .sm => ⟨aSmS, iSmS, kSmS⟩
  have MS : TieM l.prog w K mg base GG C "sources" 4 srcL fS dS := ⟨sF, sB, sM⟩
  have cF : ∀ k, FnOk l.prog w K mg base CX0 5 (fC k) (dC k) ["self", "day", "cycle"] (spTie GG C k srcL) := fun k => match k with
    | .bk => ok_BkC HBkC Y MS
    | .ah => ok_AhC HAhC Y MS
    | .so => ok_SoC HSoC Y MS
    | .wh => ok_WhC HWhC Y MS
    | .la => ok_LaC HLaC Y MS
    | .sm => ok_SmC HSmC Y MS
  have cB : ∀ k, Binds K (dC k) ["self", "day", "cycle"] [] := fun k => match k with
    | .bk => bBkC
    | .ah => bAhC
    | .so => bSoC
    | .wh => bWhC
    | .la => bLaC
    | .sm => bSmC
  have cM : ∀ k, Meth K (GG k) "__call__" (fC k) := fun k => match k with
    | .bk => ⟨aBkC, iBkC, kBkC⟩
    | .ah => ⟨aAhC, iAhC, kAhC⟩
    | .so => ⟨aSoC, iSoC, kSoC⟩
    | .wh => ⟨aWhC, iWhC, kWhC⟩
    | .la => ⟨aLaC, iLaC, kLaC⟩
    | .sm => ⟨aSmC, iSmC, kSmC⟩
  have MC : TieM l.prog w K mg base GG C "__call__" 5 srcL fC dC := ⟨cF, cB, cM⟩
  have cO : ∀ k, StX.CallO K (GG k) (fC k) := fun k => match k with
    | .bk => ⟨aBkC, iBkC, fiBk⟩
    | .ah => ⟨aAhC, iAhC, fiAh⟩
    | .so => ⟨aSoC, iSoC, fiSo⟩
    | .wh => ⟨aWhC, iWhC, fiWh⟩
    | .la => ⟨aLaC, iLaC, fiLa⟩
    | .sm => ⟨aSmC, iSmC, fiSm⟩
  have is : ∀ k, C8.InsC K (GG k) := fun k => match k with
    | .bk => ⟨yc .bk, ccBk, clsG, clsT, moBk, kit_self⟩
    | .ah => ⟨yc .ah, ccAh, clsG, clsT, moAh, kit_self⟩
    | .so => ⟨yc .so, ccSo, clsG, clsT, moSo, kit_self⟩
    | .wh => ⟨yc .wh, ccWh, clsG, clsT, moWh, kit_self⟩
    | .la => ⟨yc .la, ccLa, clsG, clsT, moLa, kit_self⟩
    | .sm => ⟨yc .sm, ccSm, clsG, clsT, moSm, kit_self⟩
  have eF : ∀ k, FnOk l.prog w K mg base CX0 1 (fE k) (dE k) ["self", "other"] (spEq GG k) := fun k => match k with
    | .bk => ok_BkE HBkE T Y (is .bk)
    | .ah => ok_AhE HAhE T Y (is .ah)
    | .so => ok_SoE HSoE T Y (is .so)
    | .wh => ok_WhE HWhE T Y (is .wh)
    | .la => ok_LaE HLaE T Y (is .la)
    | .sm => ok_SmE HSmE T Y (is .sm)
  have eB : ∀ k, Binds K (dE k) ["self", "other"] [] := fun k => match k with
    | .bk => bBkE
    | .ah => bAhE
    | .so => bSoE
    | .wh => bWhE
    | .la => bLaE
    | .sm => bSmE
  have nE : ∀ k, NeO K (GG k) (fE k) := fun k => match k with
    | .bk => ⟨aBkE, iBkE, neBk, moBk⟩
    | .ah => ⟨aAhE, iAhE, neAh, moAh⟩
    | .so => ⟨aSoE, iSoE, neSo, moSo⟩
    | .wh => ⟨aWhE, iWhE, neWh, moWh⟩
    | .la => ⟨aLaE, iLaE, neLa, moLa⟩
    | .sm => ⟨aSmE, iSmE, neSm, moSm⟩
  have iF : ∀ k, isNum k = true → FnOk l.prog w K mg base CX0 4 (fI k) (dI k) ["self", "source", "number"] (spInitN GG k) := fun k => match k with
    | .bk => fun q => ok_bkI HBkI Y J
    | .ah => fun q => ok_ahI HAhI Y J
    | .so => fun q => nomatch q
    | .wh => fun q => nomatch q
    | .la => fun q => nomatch q
    | .sm => fun q => nomatch q
  have iB : ∀ k, isNum k = true → Binds K (dI k) ["self", "source", "number"] [] := fun k => match k with
    | .bk => fun q => bBkI
    | .ah => fun q => bAhI
    | .so => fun q => nomatch q
    | .wh => fun q => nomatch q
    | .la => fun q => nomatch q
    | .sm => fun q => nomatch q
  have pF : ∀ k, isNum k = false → FnOk l.prog w K mg base CX0 4 (fI k) (dI k) ["self", "source"] (spInitP GG k) := fun k => match k with
    | .bk => fun q => nomatch q
    | .ah => fun q => nomatch q
    | .so => fun q => ok_soI HSoI Y J
    | .wh => fun q => ok_whI HWhI Y J
    | .la => fun q => ok_laI HLaI Y J
    | .sm => fun q => ok_smI HSmI Y J
  have pB : ∀ k, isNum k = false → Binds K (dI k) ["self", "source"] [] := fun k => match k with
    | .bk => fun q => nomatch q
    | .ah => fun q => nomatch q
    | .so => fun q => bSoI
    | .wh => fun q => bWhI
    | .la => fun q => bLaI
    | .sm => fun q => bSmI
  have mM : ∀ k, Mk K (GG k) (fI k) := fun k => match k with
    | .bk => ⟨mkBk, aBkI, iBkI, kcBk⟩
    | .ah => ⟨mkAh, aAhI, iAhI, kcAh⟩
    | .so => ⟨mkSo, aSoI, iSoI, kcSo⟩
    | .wh => ⟨mkWh, aWhI, iWhI, kcWh⟩
    | .la => ⟨mkLa, aLaI, iLaI, kcLa⟩
    | .sm => ⟨mkSm, aSmI, iSmI, kcSm⟩
  have MK : MkT l.prog w K mg base GG fI dI := ⟨iF, iB, pF, pB, mM⟩
  have DP : Df l.prog w K mg base "_law_pen" 1 fF7 _ ["_law_script"] _ := ⟨ok_pen HF7 T, bF7, HF7.kp, GF7⟩
  have DW : Df l.prog w K mg base "_law_draw" 1 fF8 _ ["_law_pen_here", "_law_many"] _ := ⟨ok_draw HF8 T, bF8, HF8.kp, GF8⟩
  have DI : Df l.prog w K mg base "_law_pick" 2 fF9 _ ["_law_pen_here", "_law_some"] _ := ⟨ok_pick HF9 T DW, bF9, HF9.kp, GF9⟩
  have DL : Df l.prog w K mg base "_law_lengths" 3 fF10 _ ["_law_pen_here"] _ := ⟨ok_lens HF10 T DW DI, bF10, HF10.kp, GF10⟩
  have DT : Df l.prog w K mg base "_law_tie" 6 fF11 _ ["_law_plain_here"] _ := ⟨ok_tieOf HF11 Y MK, bF11, HF11.kp, GF11⟩
  have DN : Df l.prog w K mg base "_law_plain" 3 fF12 _ ["_law_pen_here", "_law_labels"] _ := ⟨ok_plain HF12 T Y DW DI, bF12, HF12.kp, GF12⟩
  have DB : Df l.prog w K mg base "_law_block" 1 fF13 _ ["_law_lengths_so", "_law_day"] _ := ⟨ok_blk HF13 T, bF13, HF13.kp, GF13⟩
  have DY : Df l.prog w K mg base "_law_days" 2 fF14 _ ["_law_plain_here", "_law_day", "_law_lengths_so"] _ := ⟨ok_days HF14 T DB, bF14, HF14.kp, GF14⟩
  have CI : FnR l.prog w K mg base CX0 4 fM0 (spStar C) := ok_init HM0 T HF0 bF0 HF1 bF1 HF4 bF4
  exact ok_law HF15 T Y (PySem.W.mg_none_of X G z_repr) GL DP DW DI DL DT DN DB DY MK MS MC cO nE eF eB CI ⟨mk, aM0, iM0, kc⟩ (ok_of HO1 T ⟨mk, aM0, iM0, kc⟩ HM0 HF0 bF0 HF1 bF1 HF4 bF4) bO1 ⟨rd, ga⟩ ⟨aO1, ⟨_, rO1⟩, nO1⟩
theorem walk {l : PySem.W.OpenLaw} {q : Program} {loose : List Str} {XP : (Str → Option Value) → Heap → Prop} {YP : World → Heap → Prop} {d : DefRec} {K : Params → PySem.W.Frag} (hn : l.most = some 63) (hdf : d.params.defaults = [])
    (hY : ∀ (w : World) (h : Heap), YP w h → (K w.params).In h)
    (F : ∀ (w : World) (mg : Str → Option Value) (fa : Addr) (h : Heap), (K w.params).In h → h.Ns mainGlobals mg → mg d.name = some (.ref fa) →
      ∃ fd : FuncData, (∀ (s : Shared) (u : Value), BindsTo s fd ⟨[u], []⟩ [("_law_script", u)]) ∧ ∀ base : Heap, (K w.params).In base → base.Ns mainGlobals mg → FnG l.prog w (K w.params) mg base CX0 7 fa fd ["_law_script"] (spLaw (K w.params))) :
    PySem.W.WalkO q loose XP YP l.row.toRowW d [] (fun f vs => PySem.call f vs) :=
  walkG (n := 63) (k := 7) (x := "_law_script") (sp := fun w => spLaw (K w.params)) hn (by decide) hdf ⟨rfl, by decide, by decide⟩ hY F (fun _ _ a ns hl _ hS => ⟨a, ns, rfl, hS, hl, fun _ => rfl⟩)
end My
open PySem PySem.W PyProof.Rows
set_option maxRecDepth 100000 in
set_option maxHeartbeats 0 in
theorem PySem.Challenge.cw_remadedays_k18_days_of_ties_holds : PySem.Challenge.rw_remadedays_k18_days_of_ties.Holds := by
  w_on; o_law; k_headL; (case hw => w_witness2)
  k_fill
  refine My.walk (l := PySem.Challenge.rw_remadedays_k18_days_of_ties) rfl rfl (fun w h Y => PySem.W.kIn_of Y) ?F
  case F =>
    intro w mg fa h KX G hmg
    refine' My.all_mk KX G hmg ?aC ?aF0 ?lF0 ?cF0 ?kF0 ?aF1 ?lF1 ?cF1 ?kF1 ?aF2 ?lF2 ?cF2 ?kF2 ?aF3 ?lF3 ?cF3 ?kF3 ?aF4 ?lF4 ?cF4 ?kF4 ?aF5 ?lF5 ?cF5 ?kF5 ?aF6 ?lF6 ?cF6 ?kF6 ?aF7 ?lF7 ?cF7 ?kF7 ?aF8 ?lF8 ?cF8 ?kF8 ?aF9 ?lF9 ?cF9 ?kF9 ?aF10 ?lF10 ?cF10 ?kF10 ?aF11 ?lF11 ?cF11 ?kF11 ?aF12 ?lF12 ?cF12 ?kF12 ?aF13 ?lF13 ?cF13 ?kF13 ?aF14 ?lF14 ?cF14 ?kF14 ?aF15 ?lF15 ?cF15 ?kF15 ?aM0 ?iM0 ?lM0 ?cM0 ?kM0 ?aM1 ?iM1 ?lM1 ?cM1 ?kM1 ?aM2 ?iM2 ?lM2 ?cM2 ?kM2 ?aP0 ?gP0 ?tP0 ?rP0 ?lP0 ?cP0 ?kP0 ?rd ?ga ?aO1 ?rO1 ?nO1 ?lO1 ?cO1 ?kO1 ?pg ?hd ?po ?sa ?mk ?kc ?nL ?nT ?bey ?mb ?mt ?mn ?z_isinstance ?z_int ?z_bool ?z_enumerate ?z_len ?z_sum ?z_list ?z_tuple ?z_range ?z_abs ?z_str ?z_max ?z_repr ?clsG ?clsT ?acT ?rdcT ?gacT ?atcT ?lTI ?cTI ?kTI ?acN ?rdcN ?gacN ?atcN ?lNI ?cNI ?kNI ?nBk ?pgBk ?hdBk ?poBk ?saBk ?mkBk ?kcBk ?nSBk ?nNBk ?aBkI ?iBkI ?lBkI ?cBkI ?kBkI ?aBkS ?iBkS ?lBkS ?cBkS ?kBkS ?aBkE ?iBkE ?lBkE ?cBkE ?kBkE ?aBkC ?iBkC ?lBkC ?cBkC ?kBkC ?fiBk ?ccBk ?moBk ?neBk ?nAh ?pgAh ?hdAh ?poAh ?saAh ?mkAh ?kcAh ?nSAh ?nNAh ?aAhI ?iAhI ?lAhI ?cAhI ?kAhI ?aAhS ?iAhS ?lAhS ?cAhS ?kAhS ?aAhE ?iAhE ?lAhE ?cAhE ?kAhE ?aAhC ?iAhC ?lAhC ?cAhC ?kAhC ?fiAh ?ccAh ?moAh ?neAh ?nSo ?pgSo ?hdSo ?poSo ?saSo ?mkSo ?kcSo ?nSSo ?nNSo ?aSoI ?iSoI ?lSoI ?cSoI ?kSoI ?aSoS ?iSoS ?lSoS ?cSoS ?kSoS ?aSoE ?iSoE ?lSoE ?cSoE ?kSoE ?aSoC ?iSoC ?lSoC ?cSoC ?kSoC ?fiSo ?ccSo ?moSo ?neSo ?nWh ?pgWh ?hdWh ?poWh ?saWh ?mkWh ?kcWh ?nSWh ?nNWh ?aWhI ?iWhI ?lWhI ?cWhI ?kWhI ?aWhS ?iWhS ?lWhS ?cWhS ?kWhS ?aWhE ?iWhE ?lWhE ?cWhE ?kWhE ?aWhC ?iWhC ?lWhC ?cWhC ?kWhC ?fiWh ?ccWh ?moWh ?neWh ?nLa ?pgLa ?hdLa ?poLa ?saLa ?mkLa ?kcLa ?nSLa ?nNLa ?aLaI ?iLaI ?lLaI ?cLaI ?kLaI ?aLaS ?iLaS ?lLaS ?cLaS ?kLaS ?aLaE ?iLaE ?lLaE ?cLaE ?kLaE ?aLaC ?iLaC ?lLaC ?cLaC ?kLaC ?fiLa ?ccLa ?moLa ?neLa ?nSm ?pgSm ?hdSm ?poSm ?saSm ?mkSm ?kcSm ?nSSm ?nNSm ?aSmI ?iSmI ?lSmI ?cSmI ?kSmI ?aSmS ?iSmS ?lSmS ?cSmS ?kSmS ?aSmE ?iSmE ?lSmE ?cSmE ?kSmE ?aSmC ?iSmC ?lSmC ?cSmC ?kSmC ?fiSm ?ccSm ?moSm ?neSm
    (case aC => k_is)
    (case aF0 => k_is)
    (case lF0 => k_is)
    (case cF0 => k_is)
    (case kF0 => k_is)
    (case aF1 => k_is)
    (case lF1 => k_is)
    (case cF1 => k_is)
    (case kF1 => k_is)
    (case aF2 => k_is)
    (case lF2 => k_is)
    (case cF2 => k_is)
    (case kF2 => k_is)
    (case aF3 => k_is)
    (case lF3 => k_is)
    (case cF3 => k_is)
    (case kF3 => k_is)
    (case aF4 => k_is)
    (case lF4 => k_is)
    (case cF4 => k_is)
    (case kF4 => k_is)
    (case aF5 => k_is)
    (case lF5 => k_is)
    (case cF5 => k_is)
    (case kF5 => k_is)
    (case aF6 => k_is)
    (case lF6 => k_is)
    (case cF6 => k_is)
    (case kF6 => k_is)
    (case aF7 => k_is)
    (case lF7 => k_is)
    (case cF7 => k_is)
    (case kF7 => k_is)
    (case aF8 => k_is)
    (case lF8 => k_is)
    (case cF8 => k_is)
    (case kF8 => k_is)
    (case aF9 => k_is)
    (case lF9 => k_is)
    (case cF9 => k_is)
    (case kF9 => k_is)
    (case aF10 => k_is)
    (case lF10 => k_is)
    (case cF10 => k_is)
    (case kF10 => k_is)
    (case aF11 => k_is)
    (case lF11 => k_is)
    (case cF11 => k_is)
    (case kF11 => k_is)
    (case aF12 => k_is)
    (case lF12 => k_is)
    (case cF12 => k_is)
    (case kF12 => k_is)
    (case aF13 => k_is)
    (case lF13 => k_is)
    (case cF13 => k_is)
    (case kF13 => k_is)
    (case aF14 => k_is)
    (case lF14 => k_is)
    (case cF14 => k_is)
    (case kF14 => k_is)
    (case aF15 => k_is)
    (case lF15 => k_is)
    (case cF15 => k_is)
    (case kF15 => k_is)
    (case aM0 => k_is)
    (case iM0 => k_is)
    (case lM0 => k_is)
    (case cM0 => k_is)
    (case kM0 => k_is)
    (case aM1 => k_is)
    (case iM1 => k_is)
    (case lM1 => k_is)
    (case cM1 => k_is)
    (case kM1 => k_is)
    (case aM2 => k_is)
    (case iM2 => k_is)
    (case lM2 => k_is)
    (case cM2 => k_is)
    (case kM2 => k_is)
    (case aP0 => k_is)
    (case gP0 => k_is)
    (case tP0 => k_is)
    (case rP0 => k_is)
    (case lP0 => k_is)
    (case cP0 => k_is)
    (case kP0 => k_is)
    (case rd => k_is)
    (case ga => k_is)
    (case aO1 => k_is)
    (case rO1 => k_is)
    (case nO1 => k_is)
    (case lO1 => k_is)
    (case cO1 => k_is)
    (case kO1 => k_is)
    (case pg => k_is)
    (case hd => k_is)
    (case po => k_is)
    (case sa => k_is)
    (case mk => k_is)
    (case kc => k_is)
    (case nL => k_is)
    (case nT => k_is)
    (case bey => k_is)
    (case mb => k_is)
    (case mt => k_is)
    (case mn => k_is)
    (case z_isinstance => k_is)
    (case z_int => k_is)
    (case z_bool => k_is)
    (case z_enumerate => k_is)
    (case z_len => k_is)
    (case z_sum => k_is)
    (case z_list => k_is)
    (case z_tuple => k_is)
    (case z_range => k_is)
    (case z_abs => k_is)
    (case z_str => k_is)
    (case z_max => k_is)
    (case z_repr => k_is)
    (case clsG => k_is)
    (case clsT => k_is)
    (case acT => k_is)
    (case rdcT => k_is)
    (case gacT => k_is)
    (case atcT => k_is)
    (case lTI => k_is)
    (case cTI => k_is)
    (case kTI => k_is)
    (case acN => k_is)
    (case rdcN => k_is)
    (case gacN => k_is)
    (case atcN => k_is)
    (case lNI => k_is)
    (case cNI => k_is)
    (case kNI => k_is)
    (case nBk => k_is)
    (case pgBk => k_is)
    (case hdBk => k_is)
    (case poBk => k_is)
    (case saBk => k_is)
    (case mkBk => k_is)
    (case kcBk => k_is)
    (case nSBk => k_is)
    (case nNBk => k_is)
    (case aBkI => k_is)
    (case iBkI => k_is)
    (case lBkI => k_is)
    (case cBkI => k_is)
    (case kBkI => k_is)
    (case aBkS => k_is)
    (case iBkS => k_is)
    (case lBkS => k_is)
    (case cBkS => k_is)
    (case kBkS => k_is)
    (case aBkE => k_is)
    (case iBkE => k_is)
    (case lBkE => k_is)
    (case cBkE => k_is)
    (case kBkE => k_is)
    (case aBkC => k_is)
    (case iBkC => k_is)
    (case lBkC => k_is)
    (case cBkC => k_is)
    (case kBkC => k_is)
    (case fiBk => k_is)
    (case ccBk => k_is)
    (case moBk => k_is)
    (case neBk => k_is)
    (case nAh => k_is)
    (case pgAh => k_is)
    (case hdAh => k_is)
    (case poAh => k_is)
    (case saAh => k_is)
    (case mkAh => k_is)
    (case kcAh => k_is)
    (case nSAh => k_is)
    (case nNAh => k_is)
    (case aAhI => k_is)
    (case iAhI => k_is)
    (case lAhI => k_is)
    (case cAhI => k_is)
    (case kAhI => k_is)
    (case aAhS => k_is)
    (case iAhS => k_is)
    (case lAhS => k_is)
    (case cAhS => k_is)
    (case kAhS => k_is)
    (case aAhE => k_is)
    (case iAhE => k_is)
    (case lAhE => k_is)
    (case cAhE => k_is)
    (case kAhE => k_is)
    (case aAhC => k_is)
    (case iAhC => k_is)
    (case lAhC => k_is)
    (case cAhC => k_is)
    (case kAhC => k_is)
    (case fiAh => k_is)
    (case ccAh => k_is)
    (case moAh => k_is)
    (case neAh => k_is)
    (case nSo => k_is)
    (case pgSo => k_is)
    (case hdSo => k_is)
    (case poSo => k_is)
    (case saSo => k_is)
    (case mkSo => k_is)
    (case kcSo => k_is)
    (case nSSo => k_is)
    (case nNSo => k_is)
    (case aSoI => k_is)
    (case iSoI => k_is)
    (case lSoI => k_is)
    (case cSoI => k_is)
    (case kSoI => k_is)
    (case aSoS => k_is)
    (case iSoS => k_is)
    (case lSoS => k_is)
    (case cSoS => k_is)
    (case kSoS => k_is)
    (case aSoE => k_is)
    (case iSoE => k_is)
    (case lSoE => k_is)
    (case cSoE => k_is)
    (case kSoE => k_is)
    (case aSoC => k_is)
    (case iSoC => k_is)
    (case lSoC => k_is)
    (case cSoC => k_is)
    (case kSoC => k_is)
    (case fiSo => k_is)
    (case ccSo => k_is)
    (case moSo => k_is)
    (case neSo => k_is)
    (case nWh => k_is)
    (case pgWh => k_is)
    (case hdWh => k_is)
    (case poWh => k_is)
    (case saWh => k_is)
    (case mkWh => k_is)
    (case kcWh => k_is)
    (case nSWh => k_is)
    (case nNWh => k_is)
    (case aWhI => k_is)
    (case iWhI => k_is)
    (case lWhI => k_is)
    (case cWhI => k_is)
    (case kWhI => k_is)
    (case aWhS => k_is)
    (case iWhS => k_is)
    (case lWhS => k_is)
    (case cWhS => k_is)
    (case kWhS => k_is)
    (case aWhE => k_is)
    (case iWhE => k_is)
    (case lWhE => k_is)
    (case cWhE => k_is)
    (case kWhE => k_is)
    (case aWhC => k_is)
    (case iWhC => k_is)
    (case lWhC => k_is)
    (case cWhC => k_is)
    (case kWhC => k_is)
    (case fiWh => k_is)
    (case ccWh => k_is)
    (case moWh => k_is)
    (case neWh => k_is)
    (case nLa => k_is)
    (case pgLa => k_is)
    (case hdLa => k_is)
    (case poLa => k_is)
    (case saLa => k_is)
    (case mkLa => k_is)
    (case kcLa => k_is)
    (case nSLa => k_is)
    (case nNLa => k_is)
    (case aLaI => k_is)
    (case iLaI => k_is)
    (case lLaI => k_is)
    (case cLaI => k_is)
    (case kLaI => k_is)
    (case aLaS => k_is)
    (case iLaS => k_is)
    (case lLaS => k_is)
    (case cLaS => k_is)
    (case kLaS => k_is)
    (case aLaE => k_is)
    (case iLaE => k_is)
    (case lLaE => k_is)
    (case cLaE => k_is)
    (case kLaE => k_is)
    (case aLaC => k_is)
    (case iLaC => k_is)
    (case lLaC => k_is)
    (case cLaC => k_is)
    (case kLaC => k_is)
    (case fiLa => k_is)
    (case ccLa => k_is)
    (case moLa => k_is)
    (case neLa => k_is)
    (case nSm => k_is)
    (case pgSm => k_is)
    (case hdSm => k_is)
    (case poSm => k_is)
    (case saSm => k_is)
    (case mkSm => k_is)
    (case kcSm => k_is)
    (case nSSm => k_is)
    (case nNSm => k_is)
    (case aSmI => k_is)
    (case iSmI => k_is)
    (case lSmI => k_is)
    (case cSmI => k_is)
    (case kSmI => k_is)
    (case aSmS => k_is)
    (case iSmS => k_is)
    (case lSmS => k_is)
    (case cSmS => k_is)
    (case kSmS => k_is)
    (case aSmE => k_is)
    (case iSmE => k_is)
    (case lSmE => k_is)
    (case cSmE => k_is)
    (case kSmE => k_is)
    (case aSmC => k_is)
    (case iSmC => k_is)
    (case lSmC => k_is)
    (case cSmC => k_is)
    (case kSmC => k_is)
    (case fiSm => k_is)
    (case ccSm => k_is)
    (case moSm => k_is)
    (case neSm => k_is)
#print axioms PySem.Challenge.cw_remadedays_k18_days_of_ties_holds
