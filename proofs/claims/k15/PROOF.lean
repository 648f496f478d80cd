import PyProof.Rows.All
import Wide.All
import OpenK.AllK
import Wide.FinOn
import PyProof.TwoTypes
import KE.KOpsOwn
import KE.KTupSum
import KE.KStar
import KE.GoesMore
import HandS.ForMost
import HandS.Star
import HandS.SlotsOwn
import HandS.ClsMeth
import HandS.Conv
import PyProof.ReprRoads
import PyProof.FitsInt
import HandS.EndBits
import HandS.Base
import HandS.Call
import HandS.Exc
import HandS.Lambda
import KE.KExcIs
import HandS.IsInst
import HandS.ExcField
import HandS.ExcIs
import HandS.ExcValue
import PyProof.CallFns
import PyProof.FactsAll.bool_1
import PyProof.FactsAll.bool_2
import HandS.ExcInit
import HandS.WordsExc
import HandS.Property
import KE.OsRunLaw
import KE.KCallOwn
import KE.KOwnIter
import HandS.IterVal
import HandS.Text
import HandS.StrMore
import PyProof.StrOps2
import HandS.TupAny
import HandS.FStr
import HandS.MakeKwOnly
import HandS.MakeKw
import HandS.Codes
import HandS.Wide
import HandS.Style
import PySem.Challenge.RW_remadedays_k15_cycles_written_and_read
set_option Elab.async false
set_option linter.all false
set_option maxRecDepth 100000
set_option maxHeartbeats 4000000
namespace My
open PySem PySem.Spec PyProof.Rows L2
section
variable {X : Cx}
def rSumT (K : PySem.W.Frag) : List V → Hp → VK → Prop := fun vs H Q => ∃ (a : Addr) (ns : List Int), vs = [V.ref a] ∧ SqT K H a (ns.map V.int) ∧ Q (.int ns.sum) H
theorem cr_sumT (hc : X.calm = true) : CallR X (.builtin "sum") (rSumT X.K) := by
  intro pins s σ H vs us Q I r h
  obtain ⟨a, ns, rfl, hs, q⟩ := h
  obtain ⟨its, rv, hl, _⟩ := I.tuple hs
  rw [Vals.ref1 r]
  obtain ⟨xs, e⟩ := rv.ints.allInts.items
  have hn : numsOf (intItems xs).toList = ns := by rw [← e]; exact rv.ints.numsOf
  rw [nums_intItems] at hn
  have hl' : s.heap.IsTuple a its.toArray := hl
  rw [e] at hl'
  refine PySem.W.ktm_sumG (I.ok.hd hc) hl' fun h' tk t' hk => ⟨.int _, H, I.kept hk, ⟨_, rfl⟩, ?_⟩
  rw [preSum_eq, List.take_of_length_le (by simp), hn]
  exact q
end
section
variable {X : Cx} {CX : CXT} {k i : Nat} {f C : Addr} {sp : Sp} {E : XK} {x : Str} {e : Expr} {te : TE} {p sp_ pos : Pos}
def tMakeStar (K : PySem.W.Frag) (i : Nat) (C : Addr) (sp : Sp) (E : XK) (te : TE) : TE := fun σ H Q => σ[i]? = some (some (.ref C)) ∧ te σ H fun y H1 => ∃ a xs, y = V.ref a ∧ (SqT K H1 a xs ∨ SqL K H1 a xs) ∧
  ∀ x dx, H1 x = none → H1 dx = none → dx ≠ x → sp (V.ref x :: xs) (upd (upd H1 dx (.own x)) x (.ins C dx [])) (fun v H2 => v = .non ∧ Q (.ref x) H2) E
theorem pe_makeStar (M : Mk X.K C f) (F : FnR X.prog X.w X.K X.mg X.base CX k f sp) (hr : Room (k + 1) X.A) (hN : X.N[i]? = some x) (hv : Vis X.env.scope x) (hx : Passes CX X E) (he : PE X e te)
    (hdb : (x == ("__debug__" : Str)) = false := by decide) (hcd : (x == ("__classdict__" : Str)) = false := by decide)
    (hst : starEach [.Starred e sp_] X.env = [(true, eval e X.env)] := by rfl) : PE X (.Call (.Name x p) [.Starred e sp_] [] pos) (tMakeStar X.K i C sp E te) := by
  refine ⟨fun pins s σ H Q I h => ?_⟩
  obtain ⟨hs, ht⟩ := h
  refine wpAny_Call_Name_kw (thn ((pe_var (pos := p) hN hv hdb hcd).run pins s σ H (fun v H1 => v = .ref C ∧ H1 = H) I ⟨.ref C, hs, rfl, rfl⟩) fun u s1 ⟨v, H1, I1, r1, q1⟩ => ?_)
  obtain ⟨rfl, rfl⟩ := q1
  cases r1
  refine PySem.W.callWith_S (h₀ := X.base) I.ok.mod.kin M.kp (thn (he.run pins s1 σ _ _ I1 ht) fun v s2 ⟨y, H2, I2, ry, a, xs, ey, hxs, q⟩ => ?_) hst
  subst ey
  obtain rfl : v = Value.ref a := ry
  exact StX.star_any I2 hxs fun us s3 I3 rv => ⟨I3.kIn, StX.run_makeR M F hr hx I3 rv q⟩
end
theorem meets_enumerate_newT (l : Addr) (items : Array Value) (n : Nat) (dct : Option Addr) (sl : Array (Option Value)) :
    Meets (Builtin.«enumerate.__new__» ⟨[.type "enumerate", .ref l], []⟩) (fun _ R s => s.heap.get? l = some { cls := .type "tuple", dict := dct, data := .seq items n, slots := sl } ∧
      R (.ok (.ret (.ref (s.heap.push { cls := .type "tuple_iterator", data := .fields #[.ref l, .int 0 0] }).objs.size)))
        { s with heap := (s.heap.push { cls := .type "tuple_iterator", data := .fields #[.ref l, .int 0 0] }).push { cls := .type "enumerate", data := .fields #[.none, .bool false, .ref s.heap.objs.size, rawInt 0, .none, .none] } }) :=
  .of_wp fun prog w A R s h => by
    obtain ⟨hp, g, d, tk, os⟩ := s; obtain ⟨hl, h⟩ := h
    have hsub := sub_enumerate
    have hL : Heap.IsTuple (Shared.heap ⟨hp, g, d, tk, os⟩) l items := ⟨_, hl, rfl, n, rfl⟩
    wp_walk using AutoSeq1.wpAny_loadPart' hl
    refine wpAny_stack_any fun st => wpAny_pure ?_
    split
    · rename_i c _ _ _ _ _
      cases (c == Value.type "enumerate")
      · wp_walk using AutoSeq1.wpAny_loadPart' hl, wpAny_pyIter_tuple hL
        exact ⟨_, rfl, h⟩
      · wp_walk using AutoSeq1.wpAny_loadPart' hl, wpAny_pyIter_tuple hL
        exact ⟨_, rfl, h⟩
    · wp_walk using AutoSeq1.wpAny_loadPart' hl, wpAny_pyIter_tuple hL
      exact ⟨_, rfl, h⟩
theorem call_enumerate_tuple {prog : Program} {w : World} {A : Around} {E : Value → Shared → Prop} {s : Shared} {l : Addr} {items : Array Value} {Q : Value → Shared → Prop} (hL : s.heap.IsTuple l items)
    (h : ∀ h', IsEnum h' (s.heap.objs.size + 1) s.heap.objs.size 0 .none → h'.IsTupleIter s.heap.objs.size l 0 → h'.objs.size = s.heap.objs.size + 2 →
      (∀ b o, s.heap.get? b = some o → h'.get? b = some o) → Q (.ref (s.heap.objs.size + 1)) { s with heap := h' }) :
    wpAny (model prog w) A (call (.type "enumerate") [.ref l]) Q E s := by
  obtain ⟨⟨c, dct, dt, sl⟩, hl, hc, n, hd⟩ := hL
  replace hc : c = .type "tuple" := hc
  replace hd : dt = .seq items n := hd
  subst hc hd
  refine callType_new PySem.F.called_enumerate (by decide) (PySem.F.typeCall_enumerate_1 _) (PySem.F.newCall_enumerate_1 _) (fun obj => PySem.F.args_object_init_2 obj _) PySem.F.entry_enumerate_new
    (meets_enumerate_newT l items n dct sl) ⟨hl, ?_⟩
  have hz : (s.heap.push { cls := .type "tuple_iterator", data := .fields #[.ref l, .int 0 0] }).objs.size = s.heap.objs.size + 1 := Heap.size_push ..
  show _ ∧ _
  rw [hz]
  have he : IsEnum ((s.heap.push { cls := .type "tuple_iterator", data := .fields #[.ref l, .int 0 0] }).push
      { cls := .type "enumerate", data := .fields #[.none, .bool false, .ref s.heap.objs.size, rawInt 0, .none, .none] }) (s.heap.objs.size + 1) s.heap.objs.size 0 .none := by
    have := Heap.get?_push_size (s.heap.push { cls := .type "tuple_iterator", data := .fields #[.ref l, .int 0 0] })
      (o := { cls := .type "enumerate", data := .fields #[.none, .bool false, .ref s.heap.objs.size, rawInt 0, .none, .none] }) rfl
    rw [hz] at this; exact this
  refine ⟨⟨_, he, rfl⟩, h _ he ⟨_, Heap.get?_push_of_some _ (Heap.get?_push_size _ rfl), rfl, rfl⟩ (by rw [Heap.size_push, hz]) fun b o x => Heap.get?_push_of_some _ (Heap.get?_push_of_some _ x)⟩
def IteT (K : PySem.W.Frag) (a : Addr) : It :=
  ⟨fun i H => ∃ (xs : List V) (x : V), SqT K H a xs ∧ xs[i]? = some x, fun i H v H' => ∃ T x, v = .ref T ∧ H T = none ∧ H' = upd H T (.tup [.int (i : Nat), x]) ∧ ∀ xs, SqT K H a xs → xs[i]? = some x, fun i H => ∃ xs : List V, SqT K H a xs ∧ xs.length ≤ i⟩
theorem turn_enumT {P : Program} {w : World} {K : PySem.W.Frag} {elts : List Expr} {kk : Nat} {tpos : Pos} (a e it : Addr) :
    Turn P w K (.Tuple elts kk tpos) (IteT K a) [e, it] e (fun i h => (∃ old, IsEnum h e it ((i : Nat) : Int) old) ∧ h.IsTupleIter it a i ∧ e ≠ it) where
  mem := by simp
  obj := fun i h st b hb => by
    obtain ⟨⟨old, he⟩, ⟨o, ho, hc, hd⟩, _⟩ := st
    have e' : b = e ∨ b = it := by simpa using hb
    rcases e' with z | z
    · rw [z]; exact ⟨_, he, fun v q => nomatch q⟩
    · rw [z]; exact ⟨o, ho, fun v q => by rw [hd] at q; cases q⟩
  keep := fun i h h' st k => let ⟨⟨old, he⟩, hi, hne⟩ := st; ⟨⟨old, k e (by simp) _ he⟩, hi.at fun o q => k it (by simp) o q, hne⟩
  item := by
    intro X hP hw hK hc i pins s σ H E I hf st hg
    subst hP hw hK
    obtain ⟨⟨old, he⟩, hit, hne⟩ := st
    obtain ⟨xs, x, hq, hx⟩ := hg
    obtain ⟨its, rv, p, hz⟩ := I.tuple hq
    obtain ⟨u, hu, ru⟩ := rv.get hx
    have hel : e < s.heap.objs.size := Heap.lt_size he
    have hil : it < s.heap.objs.size := by obtain ⟨_, q, _⟩ := hit; exact Heap.lt_size q
    have hT : s.heap.IsTuple a its.toArray := p
    have hai : a ≠ it := fun z => by
      obtain ⟨o1, h1, c1, _⟩ := hT
      obtain ⟨o2, h2, c2, _⟩ := hit
      rw [z, h2] at h1
      cases h1
      rw [c2] at c1
      exact absurd c1 (by decide)
    have hae : e ≠ a := fun z => by
      obtain ⟨o1, h1, c1, _⟩ := hT
      rw [← z, he] at h1
      cases h1
      exact absurd (show Value.type "enumerate" = Value.type "tuple" from c1) (by decide)
    have D := Draws.tuple (prog := X.prog) (w := X.w) (A := X.A.in1) (I.ok.hd hc) it a hai its.toArray
    have hl := rv.length
    have hlt : i < its.toArray.size := by
      have := (List.getElem?_eq_some_iff.mp hu).1
      simpa using this
    refine wpAny_pyNext_enum_itemD D he ⟨hit, hT⟩ hlt hne (by simp [hne, hae]) fun x' h' tk hP ho hit' hT' hsz hk => ?_
    obtain rfl : x' = u := by
      have z : its.toArray[i]? = some u := by simpa using hu
      exact Option.some.inj (hP.symm.trans z)
    refine ⟨_, rfl, wpAny_letOwnedTupleGo_enum (s := { s with heap := h', toks := tk + 1 }) ho fun h'' he' sb => ?_⟩
    have hT2 : h''.get? s.heap.objs.size = some { cls := .type "tuple", data := .seq #[.int i tk, x'] } := (sb.2 _ (Nat.ne_of_gt hel)).trans hT'
    have new : ObjOk X.prog X.w (upd H s.heap.objs.size (.tup [.int (i : Nat), x])) h'' s.heap.objs.size (.tup [.int (i : Nat), x]) :=
      ⟨by show 2 ≤ sizeLine; decide, [.int i tk, x'], .cons ⟨_, rfl⟩ (.cons ru .nil), ⟨_, hT2, rfl, _, rfl⟩⟩
    have I1 : Inv X pins σ (upd H s.heap.objs.size (.tup [.int (i : Nat), x])) { s with heap := h'', toks := tk + 1 } :=
      I.turnedNew (ch := [e, it]) (fun b ob hb q => (sb.2 b (fun z => hb (by simp [z]))).trans (hk b ob (fun z => hb (by simp [z])) (fun z => hb (by simp [z])) q)) hf (Nat.le_refl _) new
    refine ⟨.ref s.heap.objs.size, _, I1, rfl, ⟨_, x, rfl, I.hok.fresh (Nat.le_refl _), rfl, fun ys hy => by rw [I.tuple_inj hy hq]; exact hx⟩, ⟨⟨x', ?_⟩, hit'.1.at fun o q => (sb.2 it (Ne.symm hne)).trans q, hne⟩, fun b hb => ?_⟩
    · have e1 : ((i + 1 : Nat) : Int) = (i : Int) + 1 := by omega
      rw [e1]; exact he'
    · have hb' : b < s.heap.objs.size := by
        have e' : b = e ∨ b = it := by simpa using hb
        rcases e' with z | z
        · rw [z]; exact hel
        · rw [z]; exact hil
      rw [upd_ne (Nat.ne_of_lt hb')]
      exact (hf b hb).1
  done := by
    intro X hP hw hK hc i pins s σ H E I hf st hg
    subst hP hw hK
    obtain ⟨⟨old, he⟩, hit, hne⟩ := st
    obtain ⟨xs, hq, hx⟩ := hg
    obtain ⟨its, rv, p, hz⟩ := I.tuple hq
    have hT : s.heap.IsTuple a its.toArray := p
    obtain ⟨f0, f1, f2, f3, f4, f5⟩ := hf it (by simp)
    have hl := rv.length
    have hT2 : s.TypeIs (.ref e) "enumerate" := ⟨_, he, rfl⟩
    unfold pyNext
    refine wpAny_bind (wpAny_attempt (wpAny_callSpecial?_slot (name := Str.ofString "__next__") hT2 PySem.F.slot_enumerate_next
      (wpAny_call_entry PySem.F.slot_enumerate_next hT2 PySem.F.entry_enumerate_next ?_ (PySem.F.args_enumerate_next_1 _))))
    show wpAny _ _ (field (.ref e) 2 >>= _) _ _ _
    refine wpAny_bind (wpAny_field he rfl (x := .ref it) rfl ?_)
    refine wpAny_bind (wpAny_nextOf_tuple_end (I.ok.hd hc) hit hT (by simp; omega) fun h' x he' hx' => ?_)
    obtain ⟨o, ho, hc⟩ := hx'
    refine wpAny_bind (wpAny_isInstance (T := "StopIteration") (b := true) ⟨o, ho, hc⟩ isSubtype_stop ?_)
    exact wpAny_pure ⟨rfl, I.turned (t' := s.toks) (fun b o hb q => he' b o hb q) f0 f1 f3 f4 f5⟩
  self := fun A i s Q E st h => let ⟨⟨_, he⟩, _⟩ := st; wpAny_pyIter_enum he h
def iEnumT (K : PySem.W.Frag) (ta : TA) : TI := fun σ H R => ta σ H fun vs H1 => ∃ a xs, vs = [.ref a] ∧ SqT K H1 a xs ∧ R (IteT K a) H1
theorem pi_enumT {X : Cx} {e : Expr} {ta : TA} {p pos tpos : Pos} {elts : List Expr} {kk : Nat} (hg : Gl X "enumerate") (hm : X.mg "enumerate" = none) (ha : PA X [e] ta) (hs : starEach [e] X.env = [(false, eval e X.env)] := by rfl) :
    PI X (.Tuple elts kk tpos) (.Call (.Name "enumerate" p) [e] [] pos) (iEnumT X.K ta) := by
  refine ⟨fun pins s σ H R I h => ?_⟩
  refine Call_ (ld_blt I hg hm boot_enumerate (PyProof.Rows.callWith_type1 (thn (ha.run pos pins s σ H _ I h) fun us s1 ⟨vs, H1, I1, r1, q1⟩ => ?_) hs rfl))
  obtain ⟨a, xs, ex, hq, q⟩ := q1
  subst ex
  cases r1 with
  | cons r rr =>
    cases rr
    cases r
    obtain ⟨its, rv, p', hz⟩ := I1.tuple hq
    refine call_enumerate_tuple (show s1.heap.IsTuple a its.toArray from p') fun h' he hit hsz hk => wpAny_pyIter_enum he ?_
    have I2 : Inv X pins σ H1 { s1 with heap := h' } := I1.kept (t' := s1.toks) hk
    refine ⟨s1.heap.objs.size + 1, [s1.heap.objs.size + 1, s1.heap.objs.size], _, _, H1, rfl, I2, turn_enumT a (s1.heap.objs.size + 1) s1.heap.objs.size, ⟨⟨.none, he⟩, hit, Nat.succ_ne_self _⟩, fun b hb => ?_, q⟩
    have e' : b = s1.heap.objs.size + 1 ∨ b = s1.heap.objs.size := by simpa using hb
    have hle : s1.heap.objs.size ≤ b := by
      rcases e' with z | z
      · rw [z]; exact Nat.le_add_right _ _
      · rw [z]; exact Nat.le_refl _
    exact I1.fpOk hle (I1.hok.fresh hle)
/-- for i, x in enumerate(tuple) -/
theorem for_enumT {K : PySem.W.Frag} {a : Addr} {xs : List V} {g : TG} {tb : TS} {D : Ends} {σ : L2.St} {H : Hp} (Pv : Nat → L2.St → Hp → Prop) (h0 : Pv 0 σ H) (hl : ∀ i σ H, i ≤ xs.length → Pv i σ H → SqT K H a xs)
    (hs : ∀ i x σ H T, xs[i]? = some x → Pv i σ H → H T = none → g (.ref T) σ (upd H T (.tup [.int (i : Nat), x])) fun σ2 H2 => tb { D with nx := Pv (i + 1), ct := Pv (i + 1), bk := D.nx } σ2 H2) (hd : ∀ σ H, Pv xs.length σ H → D.nx σ H) :
    ∃ W : Nat → Nat → L2.St → Hp → Prop, (∃ m, W 0 m σ H) ∧ ∀ i m σ H, W i m σ H →
      ((IteT K a).stop i H ∧ D.nx σ H) ∨ ((IteT K a).go i H ∧ ∃ N : L2.St → Hp → Prop, (∀ σ' H', N σ' H' → ∃ m', m' < m ∧ W (i + 1) m' σ' H') ∧ ∀ x H', (IteT K a).yld i H x H' → g x σ H' fun σ2 H2 => tb { D with nx := N, ct := N, bk := D.nx } σ2 H2) := by
  refine ⟨fun i m σ H => m = xs.length - i ∧ i ≤ xs.length ∧ Pv i σ H, ⟨xs.length, by simp, Nat.zero_le _, h0⟩, ?_⟩
  rintro i m σ H ⟨rfl, hi, p⟩
  have q := hl i σ H hi p
  by_cases hlt : i < xs.length
  · refine .inr ⟨⟨xs, xs[i], q, by simp [hlt]⟩, Pv (i + 1), fun σ' H' p' => ⟨xs.length - (i + 1), by omega, rfl, hlt, p'⟩, fun x H' y => ?_⟩
    obtain ⟨T, x, rfl, hT, rfl, y⟩ := y
    exact hs i x σ H T (y xs q) p hT
  · have e : i = xs.length := by omega
    subst e
    exact .inl ⟨⟨xs, q, Nat.le_refl _⟩, hd σ H p⟩
end My
set_option Elab.async false
set_option linter.all false
set_option maxRecDepth 100000
set_option maxHeartbeats 4000000
set_option Elab.async false
set_option linter.all false
set_option maxRecDepth 100000
set_option maxHeartbeats 4000000
namespace My
open PySem PySem.Spec PyProof.Rows L2
structure FnG (P : Program) (w : World) (K : PySem.W.Frag) (mg : Str → Option Value) (base : Heap) (CX : CXT) (k : Nat) (f : Addr) (fd : FuncData) (ps : List Str) (sp : Sp) : Prop where
  len : ∀ vs H Q E, sp vs H Q E → vs.length = ps.length
  run : ∀ (A : Around) (outer : List Env) (s : Shared) (H : Hp) (args : Args) (us : List Value) (vs : List V) (Q : VK) (E : XK), A.guards = some [] → Room k A → Env0 P w K mg base A outer s H → BindsTo s fd args (ps.zip us) → Vals vs us → sp vs H Q E →
    codeAny (model P w) A (.call (.ref f) args) (CR CX outer P w H s Q E) s
section
variable {prog : Program} {w : World} {A : Around} {E : Value → Shared → Prop} {s : Shared} {K : PySem.W.Frag} {x C f : Addr} {ox : Obj} {od : Option Obj} {b : Value}
theorem ne_entry {Q : Fin → Shared → Prop} (hu : A.units < cLine) (inK : K.In s.heap) (I : PySem.W.InstAt s.heap x ox C od) (hs : PySem.W.findIn K (.ref C) "__eq__" = some (some (.ref f))) (hf : PySem.W.isFn K (.ref f) = true)
    (h : wpAny (model prog w) A (call (.ref f) [.ref x, b]) (fun v s' => ∃ c, v = .bool c ∧ Q (.done (.ret (.bool (!c)))) s') E s) : wpAny (model prog w) A (Builtin.«object.__ne__» ⟨[.ref x, b], []⟩) Q E s := by
  show wpAny _ _ (do cRoomFor "comparison" [.ref x, b]; match ← callSpecialIfBound? (.ref x) "__eq__" [b] with | some .notImplemented | none => ret .notImplemented | some r => ret (.bool (!(← truthy r)))) _ _ s
  refine wpAny_bind (wpAny_cRoomFor hu ?_)
  refine wpAny_bind (PySem.W.ifBound_K inK I hs hf (wpAny_mono h (fun v s' z => ?_) fun _ _ e => e))
  obtain ⟨c, rfl, q⟩ := z
  show wpAny _ _ (truthy (.bool c) >>= fun t => ret (.bool (!t))) _ _ s'
  exact wpAny_bind (wpAny_truthy_bool (wpAny_pure q))
theorem ne_bound {args : List Value} {Q : Option Value → Shared → Prop} {M : Model} (inK : K.In s.heap) (I : PySem.W.InstAt s.heap x ox C od) (hn : PySem.W.findIn K (.ref C) "__ne__" = some (some (.builtin "object.__ne__")))
    (h : wpAny M A (call (.builtin "object.__ne__") (.ref x :: args)) (fun v => Q (some v)) E s) : wpAny M A (callSpecialIfBound? (.ref x) "__ne__" args) Q E s := by
  simp only [callSpecialIfBound?, bindSpecialIfBound?]
  refine wpAny_holding (wpAny_bind (wpAny_bind (wpAny_bind (I.type.here ((PySem.W.looks_findIn inK hn).here ?_)))))
  refine wpAny_bind (wpAny_askSetting (wpAny_ite ?_))
  have last : wpAny M A (call (.builtin "object.__ne__") ([.ref x] ++ args) >>= fun v => pure (some v)) Q E s := wpAny_bind (wpAny_mono h (fun v s' q => wpAny_pure q) fun _ _ q => q)
  split
  · exact wpAny_bind (wpAny_of_eq (F.cmp_object.ne.bind _) (wpAny_pure (by exact last)))
  · exact wpAny_tryCatch (wpAny_bind (wpAny_of_eq (F.cmp_object.ne.bind _) (wpAny_pure (by exact last))))
theorem rc_ne {Q : Value → Shared → Prop} (hu : A.units + 1 < cLine) (inK : K.In s.heap) (I : PySem.W.InstAt s.heap x ox C od) (hb : PySem.W.Looks (model prog w) s.heap (typeOf b) (.ref C)) (hm : PySem.W.mroIn K C (.type "object") = some true)
    (hs : PySem.W.findIn K (.ref C) "__eq__" = some (some (.ref f))) (hf : PySem.W.isFn K (.ref f) = true) (hn : PySem.W.findIn K (.ref C) "__ne__" = some (some (.builtin "object.__ne__")))
    (h : wpAny (model prog w) A.in1 (call (.ref f) [.ref x, b]) (fun v s' => ∃ c, v = .bool c ∧ Q (.bool (!c)) s') E s) : wpAny (model prog w) A (richCompare .NotEq (.ref x) b) Q E s := by
  have one : wpAny (model prog w) A (tryCompare (.ref x) "__ne__" b) (fun r s' => ∃ v, r = some v ∧ Q v s') E s := by
    unfold tryCompare
    refine wpAny_bind (ne_bound inK I hn (wpAny_call (codeAny_call_builtin F.cmp_object.ne.plain F.cmpEntry_ne (PySem.W.check_slot F.cmpKind_ne F.cmpSplit_ne (I.type.andThen (PySem.W.looks_mroIn inK hm)) (F.cmpArgs_ne _ _)
      (ne_entry (A := A.in1) (by show A.units + 1 < cLine; exact hu) inK I hs hf (wpAny_mono h (fun v s' z => ?_) fun e s' z => ?_))))))
    · obtain ⟨c, e, q⟩ := z
      exact ⟨c, e, wpAny_pure ⟨_, rfl, q⟩⟩
    · exact z
  unfold richCompare
  simp only [oneThing_ref]
  refine wpAny_holding (wpAny_bind (wpAny_cRoomFor (by omega) ?_))
  refine wpAny_bind (I.type.here (wpAny_bind (hb.here ?_)))
  split
  · rename_i q
    exact absurd q (by simp)
  · refine wpAny_bind (wpAny_pure ?_)
    simp only [Bool.false_eq_true, if_false]
    refine wpAny_bind (wpAny_mono one (fun r s' z => ?_) fun _ _ e => e)
    obtain ⟨v, rfl, q⟩ := z
    exact wpAny_pure q
end
section
variable {X : Cx} {CX : CXT} {n : Nat} {C g : Addr} {sp : Sp} {E : XK}
structure NeO (K : PySem.W.Frag) (C g : Addr) : Prop where
  eq : PySem.W.findIn K (.ref C) "__eq__" = some (some (.ref g))
  fn : PySem.W.isFn K (.ref g) = true
  ne : PySem.W.findIn K (.ref C) "__ne__" = some (some (.builtin "object.__ne__"))
  ob : PySem.W.mroIn K C (.type "object") = some true
def rNeO (C : Addr) (sp : Sp) (E : XK) : R2 := fun x y H Q => ∃ a b dx dy fs gs, x = .ref a ∧ y = .ref b ∧ H a = some (.ins C dx fs) ∧ H b = some (.ins C dy gs) ∧ sp [x, y] H (fun z H' => ∃ c, z = .bl c ∧ Q (.bl (!c)) H') E
theorem op_neO (R : NeO X.K C g) (F : FnR X.prog X.w X.K X.mg X.base CX n g sp) (hr : Room (n + 1) X.A) (hx : Passes CX X E) : OpR X (compareOp .NotEq) (rNeO C sp E) := by
  intro pins s σ H x y v u Q I rx ry h
  obtain ⟨a, b, dx, dy, fs, gs, rfl, rfl, ha, hb, q⟩ := h
  cases (show v = Value.ref a from rx)
  cases (show u = Value.ref b from ry)
  obtain ⟨mA, O, _⟩ := ins_get I.hok ha
  obtain ⟨od, J, _⟩ := O.look
  obtain ⟨mB, OB, _⟩ := ins_get I.hok hb
  obtain ⟨ob, JB, _⟩ := OB.look
  show wpAny _ _ (richCompare .NotEq (.ref a) (.ref b)) _ _ _
  refine rc_ne (by have := hr.un; omega) I.kIn J JB.type R.ob R.eq R.fn R.ne (wpAny_mono (wpAny_call (SlX.run_at (us := [.ref a, .ref b]) (ws := [.ref a, .ref b]) F hr.in1 I.env0.in1 hx I (.cons rfl (.cons rfl .nil)) q)) (fun z s' k => ?_) fun _ _ e => e)
  obtain ⟨z', H', I', rz, c, ez, qz⟩ := k
  subst ez
  cases (show z = Value.bool c from rz)
  exact ⟨c, rfl, .bl (!c), H', I', rfl, qz⟩
end
end My
set_option Elab.async false
set_option linter.all false
set_option maxRecDepth 100000
set_option maxHeartbeats 4000000
namespace My
open PySem PySem.Spec PyProof.Rows L2
/-- an error's object: of which class it is, where its own dict lies -/
def ErrO (a : Addr) (cls : Value) (d : Option Addr) : HO := .ext fun h => ∃ oe vs, h.get? a = some oe ∧ Zc cls d oe ∧ oe.data = .fields vs
section
variable {X : Cx} {pins : List (Addr × Obj)} {σ : L2.St} {H : Hp} {s : Shared}
/-- an error that no one tracked is tracked from now on -/
theorem inv_err {a : Addr} {cls : Value} {d : Option Addr} {oe : Obj} {vs : Array Value} (I : Inv X ((a, oe) :: pins) σ H s) (hz : Zc cls d oe) (hd : oe.data = .fields vs) (n0 : ∀ o, X.s_0.heap.get? a ≠ some o)
    (np : ∀ p ∈ X.pn ++ pins, p.1 ≠ a) : H a = none ∧ Inv X pins σ (upd H a (ErrO a cls d)) s := by
  obtain ⟨ga, na, nL, nF, ncell⟩ := I.pin (a, oe) (List.mem_append_right _ List.mem_cons_self)
  have old : ∀ b o, X.s_0.heap.get? b = some o → b ≠ a := fun b o e z => n0 o (z ▸ e)
  have free' : ∀ b, b ≠ a → H b = none → upd H a (ErrO a cls d) b = none := fun b z e => (upd_ne z).trans e
  have some' : ∀ b u, H b = some u → upd H a (ErrO a cls d) b = some u := fun b u e => (upd_ne (ne_of_none e na)).trans e
  refine ⟨na, I.ok, I.os, I.bare, ⟨I.base.keep, I.base.slot, ?_, I.base.there, ?_, ?_, ?_⟩, I.loc, I.cell, free' _ (Ne.symm nL) I.free, ?_, ?_, ?_, I.len⟩
  · exact fun b o e n x => free' b (old b o e) (I.base.free b o e n x)
  · exact fun b xs e => some' b _ (I.base.tups b xs e)
  · exact fun b o u e => some' b _ (I.base.frzs b o u e)
  · intro b ps e
    obtain ⟨more, e1⟩ := I.base.tbls b ps e
    exact ⟨more, some' b _ e1⟩
  · intro y c e
    refine free' c (fun z => ?_) (I.freeC y c e)
    obtain ⟨v, o, ho, hc⟩ := I.cell y c e
    rw [z] at ho
    exact ncell v ((Option.some.inj (ho.symm.trans ga)) ▸ hc)
  · intro p hp
    have hp' : p ∈ X.pn ++ (a, oe) :: pins := (List.mem_append.mp hp).elim (fun z => List.mem_append_left _ z) fun z => List.mem_append_right _ (List.mem_cons_of_mem _ z)
    obtain ⟨k1, k2, k3⟩ := I.pin p hp'
    exact ⟨k1, free' _ (np p hp) k2, k3⟩
  · intro b u e
    by_cases z : b = a
    · subst z
      rw [upd_same] at e
      cases e
      refine ⟨⟨oe, vs, ga, hz, hd⟩, ⟨oe, ga⟩, fun h1 h2 ⟨o, ws, q1, q2, q3⟩ st => ⟨o, ws, st _ q1, q2, q3⟩⟩
    · rw [upd_ne z] at e
      exact (I.hok b u e).stay (fun _ _ _ q => q) (fun c q => some' c _ q) fun c xs q => some' c _ q
/-- out of the clause: the error is pinned, no more the clause's -/
theorem inv_out {a : Addr} {oe : Obj} (I : Inv (X.suite a ((a, oe) :: (X.pn ++ pins))) [] σ H s) (ok : X.Ok) : Inv X ((a, oe) :: pins) σ H s := by
  refine ⟨ok, I.os, I.bare, I.base, I.loc, I.cell, I.free, I.freeC, fun p hp => I.pin p ?_, I.hok, I.len⟩
  rw [List.append_nil]
  rcases List.mem_append.mp hp with z | z
  · exact List.mem_cons_of_mem _ (List.mem_append_left _ z)
  · rcases List.mem_cons.mp z with z | z
    · exact z ▸ List.mem_cons_self
    · exact List.mem_cons_of_mem _ (List.mem_append_right _ z)
/-- what the clause wishes of an error: it is one of the clause's, and the clause goes on to what follows, the error known behind it -/
def wKeep (K : PySem.W.Frag) (c : Value) (i : Nat) (ts : Addr → Value → Option Addr → TS) (D : Ends) : WX := fun cls d σ H =>
  PySem.W.exmOne K cls c = some true ∧ ∀ a, H a = none → ts a cls d { nx := fun σ' H' => H' a = none → D.nx (σ'.set i none) (upd H' a (ErrO a cls d)), rt := fun _ _ => False, bk := fun _ _ => False, ct := fun _ _ => False } (σ.set i (some (.ref a))) H
end
section
variable {X : Cx} {x n : Str} {c : Value} {i : Nat} {body suite : List Stmt} {b₀ : Stmt} {np pos pos' : Pos} {tb : WX → TS} {ts : Addr → Value → Option Addr → TS}
/-- the clause, entered with an error in the air -/
theorem clause_keep (hs : X.stack = X.env :: X.outer) (hf : X.env.frame = some X.env.locals) (hex : X.ex = []) (hN : X.N.Nodup) (hi : X.N[i]? = some n) (hln : X.env.kindOf n = some .local) (hc : Names X x c)
    (hsu : ∀ (a : Addr) (oe : Obj) (cls : Value) (d : Option Addr) (pn : List (Addr × Obj)), Zc cls d oe → (∃ vs, oe.data = .fields vs) → PSs (X.suite a ((a, oe) :: pn)) (b₀ :: suite) (ts a cls d))
    {pins : List (Addr × Obj)} {D : Ends} {xe : Value → Shared → Prop} {u : Value} {s' : Shared} (ok : X.Ok) (air : XE (X.tr (X.pn ++ pins) xe) (wKeep X.K c i ts D) u s') :
    wpAny (model X.prog X.w) X.A (noteFrame u X.env) (fun _ s₂ => wpAny (model X.prog X.w) X.A (setFlight u none) (fun _ s₃ =>
      wpAny (model X.prog X.w) X.A (handleBy u X.env [.ExceptHandler (some (.Name x np)) (some n) (b₀ :: suite) pos']) (SP X pins D) X.xe s₃) X.xe s₂) X.xe s' := by
  obtain ⟨a, B, sI, pins', σ', H', cls, d, rfl, J', nb, up, sky, na, os, ag, hb1, yes⟩ := air
  have J : Inv X pins σ' H' sI := J'.ofTry ok
  have hfr : X.A.frames = some (X.env :: X.outer) := by rw [ok.frames, hs]
  have inFr : ∀ b, b ∈ frs (X.env :: X.outer) → b ∈ frs X.stack := fun b z => by rw [hs]; exact z
  have frIn : ∀ b, b ∈ frs X.stack → b ∈ frs (X.env :: X.outer) := fun b z => by rw [hs] at z; exact z
  have fInS : ∀ b, b ∈ X.fs → b ∈ frs X.stack := fun b z => inFr b (by
    obtain ⟨e, he, q⟩ := List.mem_filterMap.mp z
    exact List.mem_filterMap.mpr ⟨e, List.mem_cons_of_mem _ he, q⟩)
  have lInS : X.env.locals ∈ frs X.stack := inFr _ (List.mem_filterMap.mpr ⟨X.env, List.mem_cons_self, hf⟩)
  refine Sky.land Zc.steady hfr hf (show Sky B (X.env :: X.outer) a (Zc cls d) X.env.locals s'.heap by rw [← hs]; exact sky) fun h3 fl3 up3 => ?_
  obtain ⟨hB3, hBa, hFF3, oe3, vs3, T3, oT3, ts3, he3, hz3, hd3, _⟩ := id fl3
  -- the error is no frame
  have nfr : a ∉ frs X.stack := fun hm => by
    obtain ⟨_, o', e', hnf⟩ := hFF3.mem (frIn a hm)
    rw [he3] at e'
    cases e'
    exact hnf _ hd3
  have nL : a ≠ X.env.locals := fun z => nfr (z ▸ lInS)
  have nF : a ∉ X.fs := fun z => nfr (fInS a z)
  -- it is new: neither pinned nor there when the def began
  have notB : ∀ b o, B.get? b = some o → b ≠ a := fun b o e z => by
    rw [z, hBa] at e
    cases e
  have n0 : ∀ o, X.s_0.heap.get? a ≠ some o := fun o e => by
    obtain ⟨o', e1⟩ := J.base.there a o e (by rw [hex]; simp)
    exact notB a o' (nb a o' e1 nfr) rfl
  have npn : ∀ p ∈ X.pn ++ pins, p.1 ≠ a := fun p hp => by
    have hp' : p ∈ (X.tr (X.pn ++ pins) xe).pn ++ pins' := List.mem_append_left _ hp
    obtain ⟨k1, _, k3, k4, _⟩ := J'.pin p hp'
    exact notB _ _ (nb p.1 p.2 k1 fun hm => by
      rcases List.mem_cons.mp (J.stkSub _ hm) with z | z
      · exact k3 z
      · exact k4 z)
  have Jp : Inv X pins σ' H' sI := J'.ofTry ok
  have J3 : Inv X pins σ' H' { s' with heap := h3 } := Jp.landed nb fl3.1 (up.trans up3) os ag
  have S3 := J3.suite he3 hd3 na nL nF
  refine wpAny_handleBy_cons (codeAny_handlers_test ?_) (by intro q; cases q)
  have LT : PySem.W.Looks (model X.prog X.w) h3 (typeOf (.ref a)) cls := fun A Q E s k q => wpAny_typeOf_ref (k _ _ he3) (by rw [hz3.1]; exact q)
  have LM := PySem.W.exm_one (M := model X.prog X.w) J3.kIn LT hb1
  have named : ∀ {Q : Value → Shared → Prop} {E : Value → Shared → Prop}, Q c { s' with heap := h3 } → wpAny (model X.prog X.w) (X.A.mark (some (.ref a))) (eval (.Name x np) X.env) Q E { s' with heap := h3 } := fun {Q E} q => by
    obtain ⟨hg, hdbg, hm⟩ := hc
    rcases hm with hm | ⟨hm, hv, hnn⟩
    · exact ld_glob (X := X.suite a ((a, oe3) :: (X.pn ++ pins))) S3 hg hm q hdbg
    · exact ld_blt (X := X.suite a ((a, oe3) :: (X.pn ++ pins))) S3 hg hm hv q hnn hdbg
  refine named (LM.here (codeAny_handlers_suite_as (HandSPX.lands_againZ fl3 fun h4 fl4 up4 => ?_)))
  obtain ⟨_, _, _, oe4, vs4, _, _, _, he4, hz4, hd4, _⟩ := id fl4
  have J4 : Inv X pins σ' H' { s' with heap := h4 } := Jp.landed nb fl4.1 ((up.trans up3).trans up4) os ag
  have S4 := J4.suite he4 hd4 na nL nF
  refine store_ok (X := X.suite a ((a, oe4) :: (X.pn ++ pins))) (v := .ref a) S4 hN hi (.inl hln) rfl (fun s5 S5 => ?_) (.inr hln)
  refine wpAny_mono ((hsu a oe4 cls d (X.pn ++ pins) hz4 ⟨_, hd4⟩).run [] s5 _ H' _ S5 (yes a na)) (fun f s6 hsp => ?_) (fun _ _ z => False.elim z)
  cases f with
  | next =>
    obtain ⟨σ6, H6, S6, q6⟩ := hsp
    refine gone_ok (inv_out S6 ok) hN hi hln fun s7 J7 => ?_
    obtain ⟨na6, J8⟩ := inv_err J7 hz4 hd4 n0 npn
    exact ⟨_, _, J8, q6 na6⟩
  | brk =>
    obtain ⟨_, _, _, q6⟩ := hsp
    exact q6.elim
  | cont =>
    obtain ⟨_, _, _, q6⟩ := hsp
    exact q6.elim
  | ret u =>
    obtain ⟨_, _, _, _, _, q6⟩ := hsp
    exact q6.elim
/-- try: body / except x as n: suite, the error known behind the clause -/
theorem ps_try_keep (hs : X.stack = X.env :: X.outer) (hf : X.env.frame = some X.env.locals) (hex : X.ex = []) (hN : X.N.Nodup) (hi : X.N[i]? = some n) (hln : X.env.kindOf n = some .local) (hc : Names X x c)
    (hb : ∀ (W : WX) (pn : List (Addr × Obj)) (xe : Value → Shared → Prop), Takes (X.tr pn xe) W → PassesOwn (model X.prog X.w) X.A X.env xe → PSs (X.tr pn xe) body (tb W))
    (hsu : ∀ (a : Addr) (oe : Obj) (cls : Value) (d : Option Addr) (pn : List (Addr × Obj)), Zc cls d oe → (∃ vs, oe.data = .fields vs) → PSs (X.suite a ((a, oe) :: pn)) (b₀ :: suite) (ts a cls d)) :
    PS X (.Try body [.ExceptHandler (some (.Name x np)) (some n) (b₀ :: suite) pos'] [] [] pos) (fun D σ H => tb (wKeep X.K c i ts D) D σ H) := by
  refine ⟨fun pins s σ H D I h => wpAny_Try_except ?_⟩
  have run := (hb (wKeep X.K c i ts D) (X.pn ++ pins) _ (fun u s' air => clause_keep (pos' := pos') (np := np) hs hf hex hN hi hln hc hsu I.ok air) PassesOwn.looking).run [] s σ H D (I.toTry _) h
  refine wpAny_mono run (fun f s1 hsp => ?_) fun _ _ he => he
  cases f with
  | ret u =>
    obtain ⟨v, σ1, H1, J, r, q⟩ := hsp
    exact ⟨v, σ1, H1, J.ofTry I.ok, r, q⟩
  | brk =>
    obtain ⟨σ1, H1, J, q⟩ := hsp
    exact ⟨σ1, H1, J.ofTry I.ok, q⟩
  | cont =>
    obtain ⟨σ1, H1, J, q⟩ := hsp
    exact ⟨σ1, H1, J.ofTry I.ok, q⟩
  | next =>
    obtain ⟨σ1, H1, J, q⟩ := hsp
    exact wpAny_execs_nil ⟨σ1, H1, J.ofTry I.ok, q⟩
end
end My
set_option Elab.async false
set_option linter.all false
set_option maxRecDepth 100000
set_option maxHeartbeats 4000000
namespace My
open PySem PySem.Spec PyProof.Rows L2
/-- a kept error of the class at C, its own dict at d with these fields -/
structure Kept (H : Hp) (a C d : Addr) (fs : List (Str × V)) : Prop where
  er : H a = some (ErrO a (.ref C) (some d))
  di : H d = some (.xd fs)
theorem Kept.same {H H' : Hp} {a C d : Addr} {fs : List (Str × V)} (k : Kept H a C d fs) (s : Same H H') : Kept H' a C d fs := ⟨s _ _ k.er, s _ _ k.di⟩
section
variable {X : Cx} {pins : List (Addr × Obj)} {σ : L2.St} {H : Hp} {s : Shared} {a C d : Addr} {fs : List (Str × V)}
theorem Kept.inst (k : Kept H a C d fs) (I : Inv X pins σ H s) : ∃ oe od mA, PySem.W.InstAt s.heap a oe C (some od) ∧ (∀ n, RelO (fs.lookup n) (mA n)) ∧ s.heap.Ns1 d mA ∧ (∀ n : Str, PySem.W.lookIn n od = some (mA n)) := by
  obtain ⟨⟨oe, vs, ga, hz, hd⟩, _, _⟩ := I.hok a _ k.er
  obtain ⟨mA, hns, hr⟩ := (show ObjOk X.prog X.w H s.heap d (.xd fs) from I.hok d _ k.di)
  obtain ⟨od, ho, hl⟩ := lookIn_ns hns
  exact ⟨oe, od, mA, ⟨ga, hz.1, by unfold PySem.W.notCls; rw [hd] <;> rfl, by rw [hz.2]; exact ho⟩, hr, hns, fun n => hl n⟩
end
theorem kitx_err {K : PySem.W.Frag} {a D : Addr} (Z : ExcC K D) : PySem.W.KitX K (.ref a) (.ref D) (fun h => ∃ ox od, PySem.W.InstAt h a ox D od) where
  ty := fun _ _ _ ⟨_, _, I⟩ => I.type
  it := fun _ _ X _ A Q E s k q => by
    obtain ⟨cd, hc, _⟩ := PySem.W.any_some Z.hd
    unfold PySem.W.clsIn at hc
    split at hc
    · rename_i ho
      unfold isType loadHead
      exact wpAny_bind (wpAny_loadPart (k _ _ (X _ _ ho)) (wpAny_pure q))
    · cases hc
  ne := fun h tp dd its n sl X htp => Bool.eq_false_iff.mpr fun q => by
    obtain ⟨cd, hc, _⟩ := PySem.W.any_some Z.hd
    have e : D = tp := Value.ref.inj (beq_iff_eq.mp q)
    subst e
    unfold PySem.W.clsIn at hc
    split at hc
    · rename_i ho
      cases (X _ _ ho).symm.trans htp
    · cases hc
  ca := fun X ⟨_, _, I⟩ k => PySem.W.kx_classE X I Z.hg Z.hk Z.hs (PySem.W.findObj_dataE (by obtain ⟨cd, hc, _⟩ := PySem.W.any_some Z.hd; rw [hc]; rfl) Z.ha Z.hn Z.ht) Z.hm k
section
variable {X : Cx}
/-- isinstance(e, c), e a kept error -/
def rIsK (K : PySem.W.Frag) : List V → Hp → VK → Prop := fun xs H Q => ∃ (a C d : Addr) (fs : List (Str × V)) (c : V) (cv : Value) (b : Bool), xs = [.ref a, c] ∧ Kept H a C d fs ∧ ExcC K C ∧ (∀ u, RelV c u → u = cv) ∧ PySem.W.kitOne K (.ref C) cv = some b ∧ Q (.bl b) H
theorem call_isK : CallR X (.builtin "isinstance") (rIsK X.K) := by
  intro pins s σ H xs us Q I r h
  obtain ⟨a, C, d, fs, c, cv, b, rfl, ke, Z, hcv, e, q⟩ := h
  cases r with
  | cons rx rr =>
    cases rr with
    | cons rt rr =>
      cases rr
      cases rx
      have ec := hcv _ rt
      subst ec
      obtain ⟨oe, od, _, J, _⟩ := ke.inst I
      exact PySem.W.kia_one (kitx_err Z) I.kIn ⟨oe, some od, J⟩ e (fun z => nomatch z) fun tk => ⟨.bl b, H, I.kept (t' := tk) fun _ _ z => z, rfl, q⟩
/-- e.f, e a kept error -/
def tKf (K : PySem.W.Frag) (f : Str) (te : TE) : TE := fun σ H Q => te σ H fun x H1 => ∃ (a C d : Addr) (fs : List (Str × V)) (v : V), x = .ref a ∧ Kept H1 a C d fs ∧ XfC K C ∧ PySem.W.findIn K (.ref C) f = some none ∧ fs.lookup f = some v ∧ Q v H1
theorem pe_kf {e : Expr} {te : TE} {pos : Pos} {n : Str} (he : PE X e te) (hb : attributeBase e n X.env (eval e X.env) = eval e X.env := by rfl) : PE X (.Attribute e n pos) (tKf X.K n te) := by
  refine ⟨fun pins s σ H Q I h => ?_⟩
  refine attr_of hb (thn (he.run pins s σ H _ I h) fun u s1 hh => ?_)
  obtain ⟨x, H1, I1, rx, a, C, d, fs, v, ex, ke, T, hno, l, q⟩ := hh
  subst ex
  obtain rfl : u = Value.ref a := rx
  obtain ⟨oe, od, mA, J, hr, _, hl⟩ := ke.inst I1
  obtain ⟨u, hu, ru⟩ := RelO.some_of (v := v) (o := mA n) (by rw [← l]; exact hr n)
  exact HandSPX.exc_get I1.kIn J T.ga T.gg T.exC (PySem.W.findObj_own T.hdC hno rfl (by rw [hl, hu])) (handed_of ru) ⟨v, H1, I1.tok _, ru, q⟩
end
end My
set_option Elab.async false
set_option linter.all false
set_option maxRecDepth 100000
set_option maxHeartbeats 4000000
set_option Elab.async false
set_option linter.all false
set_option maxRecDepth 100000
set_option maxHeartbeats 4000000
set_option Elab.async false
set_option linter.all false
set_option maxRecDepth 100000
set_option maxHeartbeats 4000000
namespace My
open PySem PySem.Spec PyProof.Rows L2
abbrev tab0 : Obj := { cls := .none, data := .fields #[] }
/-- where the maker's code object lies, its table, which is empty -/
structure Maker (K : PySem.W.Frag) (h : Heap) (c P : Addr) : Prop where
  tab : h.get? P = some tab0
  out : K.lookup P = none
  code : PySem.W.CodeHd h c P
theorem callT {P : Program} {w : World} {K : PySem.W.Frag} {mg mb : Str → Option Value} {k : Nat} {fa a c Pt : Addr} {fd : FuncData} {x : Str} {sp : Sp} {s1 : Shared} {us : List Value} {ns : List Int}
    (inK : K.In s1.heap) (gl : s1.heap.Ns mainGlobals mg) (bi : s1.heap.Ns builtinsNs mb) (bb : ∀ x : Str, x ≠ "__name__" → mb x = bootBuiltins x) (nol : s1.heap.NoLimit) (gens : s1.gens = #[]) (mk : Maker K s1.heap c Pt)
    (bmod : ∃ (bm : Addr) (ob : Obj), mg "__builtins__" = some (.ref bm) ∧ bm ≠ builtinsNs ∧ s1.heap.get? bm = some ob ∧ ob.cls = .type "module" ∧ ob.dict = some builtinsNs ∧ ob.data = .plain)
    (scr : s1.heap.get? a = some { cls := .type "list", data := .seq us.toArray }) (iv : IntsAre us ns) (few : ns.length ≤ sizeLine) (room : Room k callerA)
    (F : ∀ base : Heap, K.In base → base.Ns mainGlobals mg → LamX.TabB base mg c Pt → FnG P w K mg base CX0 k fa fd [x] sp) (bnd : ∀ (s : Shared) (u : Value), BindsTo s fd ⟨[u], []⟩ [(x, u)])
    (hsp : ∀ H : Hp, H Pt = some (.tbl #[]) → SqL K H a (ns.map V.int) → sp [.ref a] H (fun v _ => v = .bl true) fun _ _ _ => False) :
    codeAny (model P w) callerA (.call (.ref fa) ⟨[.ref a], []⟩) (fun r s' => r = .ok (.ret (.bool true)) ∧ OldK s1.heap s'.heap ∧ s'.os = s1.os ∧ AllBare s'.gens) s1 := by
  have rv := vals_ints iv
  have cnt := iv.length
  have aP : a ≠ Pt := fun z => by
    have e := mk.tab
    rw [← z, scr] at e
    have d : Data.seq us.toArray 0 = Data.fields #[] := congrArg Obj.data (Option.some.inj e)
    cases d
  have main : ∀ H : Hp, H Pt = some (.tbl #[]) → (∀ b, H b = none ∨ b = Pt ∨ (b = a ∧ ∃ ob xs, H b = some (.frz ob (.lst xs)))) → SqL K H a (ns.map V.int) → HOk P w H s1.heap → (H a ≠ none → K.lookup a = none) →
      codeAny (model P w) callerA (.call (.ref fa) ⟨[.ref a], []⟩) (fun r s' => r = .ok (.ret (.bool true)) ∧ OldK s1.heap s'.heap ∧ s'.os = s1.os ∧ AllBare s'.gens) s1 := by
    intro H hP only seq ok off
    have free : ∀ {b : Addr}, b ≠ Pt → (b = a → H b = none) → H b = none := fun {b} n1 n2 => by
      rcases only b with z | z | ⟨z, _⟩
      · exact z
      · exact absurd z n1
      · exact n2 z
    have noSeq : ∀ {b : Addr} {o : Obj}, s1.heap.get? b = some o → (∀ xs n, o.data ≠ .seq xs n) → b ≠ Pt → H b = none := fun {b o} e d n => free n fun z => by
      rw [z, scr] at e
      cases e
      exact absurd rfl (d us.toArray 0)
    have noTab : ∀ {b : Addr} {o : Obj}, s1.heap.get? b = some o → o.data ≠ .fields #[] → b ≠ Pt := fun {b o} e d z => by
      rw [z, mk.tab] at e
      cases e
      exact d rfl
    have dict : ∀ {b : Addr} {o : Obj} {es : Array DictEntry} {ep : Nat}, s1.heap.get? b = some o → o.data = .dict es ep → H b = none := fun {b o es ep} e d =>
      noSeq e (fun xs n z => by rw [d] at z; cases z) (noTab e fun z => by rw [d] at z; cases z)
    have get : ∀ {b : Addr} {o : Obj}, s1.heap.get? b = some o → H b = none → (hidT s1.heap H).get? b = some o := fun e z => hidT_get e z
    have names : ∀ {b : Addr} {m : Str → Option Value}, s1.heap.Ns b m → (hidT s1.heap H).Ns b m := fun ⟨o, es, ep, e, d, q⟩ => ⟨o, es, ep, get e (dict e d), d, q⟩
    have inB : K.In (hidT s1.heap H) := fun b o e => get (inK b o e) (free (fun z => by rw [z, mk.out] at e; cases e) fun z => by
      subst z
      refine Classical.byContradiction fun y => ?_
      rw [off y] at e
      cases e)
    have md : Mod K mg (hidT s1.heap H) := ⟨inB, names gl, ⟨mb, names bi, bb⟩, let ⟨mc, q1, q2⟩ := nol; ⟨mc, names q1, q2⟩⟩
    have env : Env0 P w K mg (hidT s1.heap H) callerA [] s1 H := ⟨rfl, md, fun b o e => of_hidT e, Nat.le_of_eq (hidT_size _ _), trivial, fun b hb => absurd (show b ∈ ([] : List Addr) from hb) (by simp), ok, .of_eq gens⟩
    have TB : LamX.TabB (hidT s1.heap H) mg c Pt := by
      obtain ⟨og, eg, pg, g1, g2, _⟩ := id gl
      have gP : mainGlobals ≠ Pt := noTab g1 fun z => by rw [g2] at z; cases z
      refine ⟨?_, ?_, gP⟩
      · obtain ⟨oc, vs, file, tf, flags, tg, inF, text, tt, e1, e2, e3, e4, rest⟩ := mk.code
        have ne : oc.data ≠ .fields #[] := fun z => by
          rw [e3] at z
          cases z
          simp at e4
        exact ⟨oc, vs, file, tf, flags, tg, inF, text, tt, get e1 (noSeq e1 (fun xs n z => by rw [e3] at z; cases z) (noTab e1 ne)), e2, e3, e4, rest⟩
      · obtain ⟨bm, ob, b1, b2, b3, b4, b5, b6⟩ := bmod
        have n1 : bm ≠ Pt := noTab b3 fun z => by rw [b6] at z; cases z
        have n2 : bm ≠ mainGlobals := fun z => by
          rw [z, g1] at b3
          cases b3
          rw [g2] at b6
          cases b6
        exact ⟨bm, ob, b1, b2, n2, n1, get b3 (noSeq b3 (fun xs n z => by rw [b6] at z; cases z) n1), b4, b5, b6⟩
    have run := (F _ inB (names gl) TB).run callerA [] s1 H ⟨[.ref a], []⟩ [.ref a] [.ref a] _ _ rfl room env (bnd s1 (.ref a)) (.cons rfl .nil) (hsp H hP seq)
    refine codeAny_mono run fun r s' h => ?_
    match r, h with
    | .error e, h => exact h.elim
    | .ok .next, h => exact h.elim
    | .ok .brk, h => exact h.elim
    | .ok .cont, h => exact h.elim
    | .ok (.ret u), ⟨v, H', os, bare, un, ok', ru, q⟩ =>
      cases (show v = V.bl true from q)
      cases (show u = Value.bool true from ru)
      obtain ⟨more, g⟩ := un.tbls Pt #[] hP
      have grown : s'.heap.get? Pt = some { cls := .none, data := .fields (#[] ++ more) } := ok' Pt _ g
      have same : ∀ b o, b ≠ Pt → s1.heap.get? b = some o → s'.heap.get? b = some o := fun b o nb e => by
        rcases only b with z | z | ⟨_, ob, xs, z⟩
        · exact un.keep b o e z (by intro y; exact absurd (show b ∈ ([] : List Addr) from y) (by simp)) (by simp)
        · exact absurd z nb
        · obtain ⟨g1, _⟩ := ok b _ z
          obtain ⟨g2, _⟩ := ok' b _ (un.frzs b ob _ z)
          rw [e] at g1
          cases g1
          exact g2
      refine ⟨rfl, ⟨fun b o e => ?_, fun b o e => ?_⟩, os, bare⟩
      · by_cases z : b = Pt
        · subst z
          cases mk.tab.symm.trans e
          exact .inr (.inl ⟨(mk.code.tab mk.tab).isCodeTable, rfl, #[], more, rfl, grown⟩)
        · exact .inl (same b o z e)
      · by_cases z : b = Pt
        · subst z
          exact ⟨_, grown⟩
        · exact ⟨o, same b o z e⟩
  cases own : K.lookup a with
  | some o =>
    have e := inK a o own
    rw [scr] at e
    cases e
    refine main (fun b => if b = Pt then some (.tbl #[]) else none) (if_pos rfl) (fun b => ?_) (.inr ⟨_, us.toArray, _, own, rfl, rfl, rfl, by rw [List.size_toArray, cnt]; exact few, by simpa using rv⟩) (fun b u z => ?_) fun z => absurd (if_neg aP) z
    · by_cases y : b = Pt
      · exact .inr (.inl y)
      · exact .inl (if_neg y)
    · by_cases y : b = Pt
      · cases (if_pos y).symm.trans z
        subst y
        exact mk.tab
      · cases (if_neg y).symm.trans z
  | none =>
    refine main (fun b => if b = Pt then some (.tbl #[]) else if b = a then some (.frz { cls := .type "list", data := .seq us.toArray } (.lst (ns.map V.int))) else none) (if_pos rfl) (fun b => ?_) (.inl (.inr ⟨_, (if_neg aP).trans (if_pos rfl)⟩)) (fun b u z => ?_) fun _ => own
    · by_cases y : b = Pt
      · exact .inr (.inl y)
      · by_cases y2 : b = a
        · exact .inr (.inr ⟨y2, _, _, (if_neg y).trans (if_pos y2)⟩)
        · exact .inl ((if_neg y).trans (if_neg y2))
    · by_cases y : b = Pt
      · cases (if_pos y).symm.trans z
        subst y
        exact mk.tab
      · by_cases y2 : b = a
        · cases ((if_neg y).trans (if_pos y2)).symm.trans z
          subst y2
          exact ⟨scr, by rw [List.length_map]; exact few, us, _, rv, scr⟩
        · cases ((if_neg y).trans (if_neg y2)).symm.trans z
/-- the def x of the top's text: its code object, its table -/
def OwnT (K : PySem.W.Frag) (mg : Str → Option Value) (h : Heap) (x : Str) : Prop := ∀ (f c P : Addr) (o : Obj) (fd : FuncData) (e : Value) (dd : Option Addr) (vs : Array Value) (sl : Array (Option Value)), mg x = some (.ref f) → K.lookup f = some o → o.data = .func fd → fd.code = .ref c →
  K.lookup c = some ⟨e, dd, .fields vs, sl⟩ → vs[11]? = some (.ref P) → h.get? P = some tab0 ∧ PySem.W.CodeHd h c P
theorem walkT {l : PySem.W.OpenLaw} {n k : Nat} {q : Program} {loose : List Str} {XP : (Str → Option Value) → Heap → Prop} {YP : World → Heap → Prop} {d : DefRec} {K : Params → PySem.W.Frag} {sp : World → Addr → Sp} {x y : Str}
    (hn : l.most = some n) (few : n ≤ sizeLine) (hdf : d.params.defaults = []) (room : Room k callerA) (hY : ∀ (w : World) (h : Heap), YP w h → (K w.params).In h) (rec : ((recsOf q).any fun e => e.name == y) = true)
    (F : ∀ (w : World) (mg : Str → Option Value) (fa : Addr) (h : Heap), (K w.params).In h → h.Ns mainGlobals mg → mg d.name = some (.ref fa) → OwnT (K w.params) mg h y →
      ∃ (fd : FuncData) (c Pt : Addr), (∀ (s : Shared) (u : Value), BindsTo s fd ⟨[u], []⟩ [(x, u)]) ∧ Maker (K w.params) h c Pt ∧ ∀ base : Heap, (K w.params).In base → base.Ns mainGlobals mg → LamX.TabB base mg c Pt → FnG l.prog w (K w.params) mg base CX0 k fa fd [x] (sp w Pt))
    (hsp : ∀ (w : World) (H : Hp) (a Pt : Addr) (ns : List Int), ns.length ≤ n → (∀ z ∈ ns, Builtin.Int.intBits z ≤ 1048576) → H Pt = some (.tbl #[]) → SqL (K w.params) H a (ns.map V.int) → sp w Pt [.ref a] H (fun v _ => v = .bl true) fun _ _ _ => False) :
    PySem.W.WalkO q loose XP YP l.row.toRowW d [] (fun f vs => PySem.call f vs) := by
  refine Att.attach_callB hn hdf fun w s0 s1 mg mb fa o pm cd doc a us ns G Y ho hd hcd hmg obj iv len bits gens => ?_
  have inK := hY w _ Y
  have own : OwnT (K w.params) mg s1.heap y := fun f c P o1 fd1 e dd vs sl k0 k1 k2 k3 k4 k5 => by
    obtain ⟨dL, hm, hq⟩ := List.any_eq_true.mp rec
    obtain ⟨a', o', fd', c', P', h1, h2, h3, h4, h5, h6⟩ := G.T.tab dL hm
    rw [beq_iff_eq.mp hq, k0] at h1
    cases h1
    rw [inK _ _ k1] at h2
    cases h2
    rw [k2] at h3
    cases h3
    rw [k3] at h4
    cases h4
    have hd := PySem.W.CodeHd.of h5 h6
    obtain ⟨⟨oc, vc, e1, _, e3, e4⟩, hP⟩ := h6
    rw [inK _ _ k4] at e1
    cases e1
    cases e3
    rw [k5] at e4
    cases e4
    exact ⟨hP, hd⟩
  obtain ⟨fd, c, Pt, bnd, mk, hF⟩ := F w mg fa _ inK G.T.g hmg own
  exact callT inK G.T.g G.T.b G.T.builtins G.T.nolimit gens mk G.T.bmain obj iv (Nat.le_trans len few) room hF bnd fun H hP seq => hsp w H a Pt ns len bits hP seq
end My
set_option Elab.async false
set_option linter.all false
set_option maxRecDepth 100000
set_option maxHeartbeats 4000000
namespace My
open PySem PySem.Spec PyProof.Rows L2
theorem kit_ref {K : PySem.W.Frag} {C D : Addr} {b : Bool} (hd : PySem.W.hasDictIn K D = true) (ty : PySem.W.typeIn K (.ref D) = some (.type "type")) (sub : PySem.W.subIn K (.ref C) (.ref D) = some b) (self : PySem.W.subIn K (.ref C) (.ref C) = some true) : PySem.W.kitOne K (.ref C) (.ref D) = some b := by
  unfold PySem.W.kitOne
  by_cases e : C = D
  · subst e
    rw [self] at sub
    rw [if_pos (beq_iff_eq.mpr rfl)]
    exact sub
  · rw [if_neg (fun q => e (Value.ref.inj (beq_iff_eq.mp q)))]
    obtain ⟨cd, hc, _⟩ := PySem.W.any_some hd
    unfold PySem.W.kitCls
    have z : ((PySem.W.clsIn K D).isSome && PySem.W.typeIn K (.ref D) == some (.type "type")) = true := by rw [hc, ty]; rfl
    simp only [z, if_true]
    exact sub
section
variable {X : Cx} {CX : CXT} {n : Nat} {C g : Addr} {sp : Sp} {E : XK}
/-- what the class at C has for == -/
structure EqO (K : PySem.W.Frag) (C g : Addr) : Prop where
  eq : PySem.W.findIn K (.ref C) "__eq__" = some (some (.ref g))
  fn : PySem.W.isFn K (.ref g) = true
def rStrO (C : Addr) (sp : Sp) (E : XK) : List V → Hp → VK → Prop := fun xs H Q => ∃ (a dx : Addr) (fs : List (Str × V)), xs = [.ref a] ∧ H a = some (.ins C dx fs) ∧ sp [.ref a] H (fun z H' => ∃ y : Str, z = .str y ∧ Q (.str y) H') E
theorem call_strO (hs : PySem.W.findIn X.K (.ref C) "__str__" = some (some (.ref g))) (hf : PySem.W.isFn X.K (.ref g) = true) (F : FnR X.prog X.w X.K X.mg X.base CX n g sp) (hr : Room (n + 2) X.A) (hx : Passes CX X E) : CallR X (.type "str") (rStrO C sp E) := by
  intro pins s σ H xs us Q I r h
  obtain ⟨a, dx, fs, rfl, ha, q⟩ := h
  obtain ⟨u, rfl, ru⟩ := r.one
  cases (show u = Value.ref a from ru)
  obtain ⟨mA, O, _⟩ := ins_get I.hok ha
  obtain ⟨od, J, _⟩ := O.look
  refine PySem.W.kso_call (by have := hr.un; show X.A.units + 1 + 1 < cLine; omega) I.kIn J hs hf (wpAny_mono (wpAny_call (SlX.run_at (us := [.ref a]) (ws := [.ref a]) F hr.in1.in1 I.env0.in1.in1 hx I (.cons rfl .nil) q)) (fun w s' z => ?_) fun _ _ x => x)
  obtain ⟨z', H', I', rz, y, ey, qz⟩ := z
  subst ey
  obtain ⟨t, e⟩ := (show ∃ t, w = Value.str y t from rz)
  cases e
  exact ⟨.str y, H', I', ⟨_, rfl⟩, qz⟩
end
end My
set_option Elab.async false
set_option linter.all false
set_option maxRecDepth 100000
set_option maxHeartbeats 4000000
set_option Elab.async false
set_option linter.all false
set_option maxRecDepth 100000
set_option maxHeartbeats 4000000
namespace My
open PySem PySem.Spec PyProof.Rows L2
section
variable {X : Cx} {CX : CXT} {k : Nat} {p0 g0 C : Addr} {fd : FuncData} {ps ks : List Str} {sp : Sp} {E : XK} {m : Str} {pos apos : Pos} {o : Expr} {kws : List Keyword} {ta : TE} {tk : TA} {mc : Value}
variable {gg : List Value → List Value → List Value} {gV : List V → List V → List V} {pl : Sem Bool}
/-- C.m(k = v, ..): a classmethod by keywords alone -/
def tCMethK (C : Addr) (sp : Sp) (gV : List V → List V → List V) (E : XK) (ta : TE) (tk : TA) : TE := fun σ H Q => ta σ H fun x H1 => x = .ref C ∧ tk σ H1 fun zs H2 => sp (gV [.ref C] zs) H2 Q E
theorem pe_cmethK (he : PE X o ta) (r : ClX.CRead X.K C mc) (c : ClX.CMet X.K C mc m p0 g0) (F : FnOk X.prog X.w X.K X.mg X.base CX k g0 fd ps sp) (hr : Room k X.A) (hb : KBinds X.K fd ps ks gg gV) (hx : Passes CX X E) (hkw : PK X kws tk)
    (hall : (backToKw pos (keywordEach kws X.env)).all (·.1.isSome) = true := by rfl) (hks : (backToKw pos (keywordEach kws X.env)).filterMap (·.1) = ks := by rfl)
    (hpl : ((backTo pos (starEach [] X.env)).any (·.1) || (backToKw pos (keywordEach kws X.env)).any (·.1.isNone)) = false := by rfl)
    (ht : eval (.Call (.Attribute o m apos) [] kws pos) X.env = (do
      let z ← eval o X.env
      standAt apos.atName
      let (fn, fst) ← holding [z] (getMethod z m pl)
      callWith pos fn fst (backTo pos (starEach [] X.env)) (backToKw pos (keywordEach kws X.env))) := by rfl) :
    PE X (.Call (.Attribute o m apos) [] kws pos) (tCMethK C sp gV E ta tk) := by
  refine ⟨fun pins s σ H Q I h => ?_⟩
  refine PySem.W.methodCall_KW (pl := pl) (thn (he.run pins s σ H _ I h) fun u s1 ⟨x, H1, I1, rx, ex, q⟩ => ?_) ht
  subst ex
  obtain rfl : u = Value.ref C := rx
  refine ClX.getmethcm_ok I1 r c fun s2 I2 => ?_
  refine PySem.W.callWith_of hpl (PySem.W.keeps_M (K := X.K) (self := .ref C) c.fi) (evalArgs_kw2_nil hall (thn (hkw.run pos _ s2 σ H1 _ I2 q) fun ws s3 ⟨zs, H2, I3, rz, q2⟩ => ⟨⟨ClX.pin_at I3, I3.kIn⟩, ?_⟩))
  rw [hks]
  have r2 : Vals (gV [.ref C] zs) (gg [.ref C] ws) := hb.rel (.cons rfl .nil) rz
  have hl : (gg [.ref C] ws).length = ps.length := by rw [← r2.length]; exact F.len _ _ _ _ q2
  have run := F.run X.A X.stack s3 H2 ⟨[.ref C], ks.zip ws⟩ _ _ Q E hr I3.env0 (hb.to s3 [.ref C] ws I3.kIn hl) r2 q2
  have z : wpAny (model X.prog X.w) X.A (call (.ref s1.heap.objs.size) [] (ks.zip ws)) (EP X ((s1.heap.objs.size, PySem.W.methodObj (.ref g0) (.ref C)) :: pins) σ Q) X.xe s3 := by
   refine wpAny_call (PySem.W.method_call (ClX.pin_at I3) (codeAny_mono run fun r s' hq => ?_))
   cases r with
   | error e => exact hx _ σ H2 s3 e s' I3 hq
   | ok fl =>
     cases fl with
     | ret u => exact I3.after hq
     | next => exact False.elim hq
     | brk => exact False.elim hq
     | cont => exact False.elim hq
  exact thn z fun _ _ y => ClX.unpinE y
end
end My
set_option Elab.async false
set_option linter.all false
set_option maxRecDepth 100000
set_option maxHeartbeats 4000000
namespace My
open PySem PySem.Spec PyProof.Rows L2
def repS (a : Str) (k : Int) : Str := ⟨(List.replicate k.toNat a.cps).foldl (· ++ ·) #[]⟩
def rMulS : R2 := fun x y H Q => ∃ (a : Str) (k : Int), x = .str a ∧ y = .int k ∧ 2 ≤ k ∧ k ≤ 1000 ∧ 0 < a.length ∧ a.length ≤ 1000 ∧ (repS a k).length ≤ sizeLine ∧ Q (.str (repS a k)) H
theorem op_mulS {X : Cx} : OpR X (binaryOp .Mult) rMulS := by
  intro pins s σ H x y v u Q I rx ry h
  obtain ⟨a, k, rfl, rfl, k0, k1, a0, a1, hz, q⟩ := h
  obtain ⟨t, rfl⟩ := rx
  obtain ⟨t', rfl⟩ := ry
  have e1 : ¬ k < 1 := by omega
  have e2 : (k == 1 || a.length == 0) = false := by
    rw [Bool.or_eq_false_iff]
    exact ⟨by rw [beq_eq_false_iff_ne]; omega, by rw [beq_eq_false_iff_ne]; omega⟩
  have hm : a.length * k.toNat ≤ 1000000 := Nat.le_trans (Nat.mul_le_mul a1 (show k.toNat ≤ 1000 by omega)) (by decide)
  refine PySem.P.mul_str ?_ (fun _ _ => ?_) (fun _ _ => ?_) ?_
  · rw [decide_eq_false (by omega), decide_eq_false (by omega)]; rfl
  · have hd : (1000000 : Int) ≤ (2 ^ 63 - 1) / k := by
      rw [Int.le_ediv_iff_mul_le (by omega)]
      omega
    omega
  · unfold Builtin.Str.tooLong
    simp only [decide_eq_false_iff_not]
    have : (1000000 : Nat) ≤ sizeLine := by decide
    omega
  · rw [if_neg e1, e2]
    exact ⟨hz, ⟨.str _, H, I.tok _, ⟨_, rfl⟩, q⟩⟩
theorem str_assoc (a b c : Str) : a ++ b ++ c = a ++ (b ++ c) := by
  show (⟨a.cps ++ b.cps ++ c.cps⟩ : Str) = ⟨a.cps ++ (b.cps ++ c.cps)⟩
  rw [Array.append_assoc]
theorem join_two (sep a b : Str) : ∀ (xs ys : List Str), Str.join sep (xs ++ (a ++ sep ++ b) :: ys) = Str.join sep (xs ++ a :: b :: ys)
  | [], [] => rfl
  | [], y :: ys => by
    show a ++ sep ++ b ++ sep ++ Str.join sep (y :: ys) = a ++ sep ++ (b ++ sep ++ Str.join sep (y :: ys))
    rw [str_assoc (a ++ sep) b sep, str_assoc (a ++ sep)]
  | [x], ys => by
    show x ++ sep ++ Str.join sep ((a ++ sep ++ b) :: ys) = x ++ sep ++ Str.join sep (a :: b :: ys)
    rw [show Str.join sep ((a ++ sep ++ b) :: ys) = Str.join sep (a :: b :: ys) from join_two sep a b [] ys]
  | x :: x2 :: xs, ys => by
    show x ++ sep ++ Str.join sep (x2 :: xs ++ (a ++ sep ++ b) :: ys) = x ++ sep ++ Str.join sep (x2 :: xs ++ a :: b :: ys)
    rw [join_two sep a b (x2 :: xs) ys]
end My
set_option Elab.async false
set_option linter.all false
set_option maxRecDepth 100000
set_option maxHeartbeats 4000000
namespace My
open PySem PySem.Spec PyProof.Rows L2
def top (i : Nat) : Stmt := PySem.Challenge.pw_remadedays_k15_cycles_written_and_read.main.body.getD i (.Pass ⟨0, 0, 0, 0⟩)
abbrev sWhole : Stmt := top 9
abbrev sBetw : Stmt := top 10
abbrev sChk : Stmt := top 20
abbrev sCyc : Stmt := top 19
abbrev sInit : Stmt := inClass sCyc 0
abbrev sOf : Stmt := inClass sCyc 1
abbrev sLengths : Stmt := inClass sCyc 3
abbrev sRead : Stmt := inClass sCyc 2
abbrev sWds : Stmt := top 13
abbrev sWdsI : Stmt := inClass sWds 0
abbrev sOver : Stmt := inClass sWds 1
abbrev sTake : Stmt := inClass sWds 5
abbrev sWdsOf : Stmt := top 14
abbrev sWrit : Stmt := top 15
abbrev sTakeL : Stmt := top 21
abbrev sEq : Stmt := inClass sCyc 7
abbrev sStr : Stmt := inClass sCyc 8
abbrev sPen : Stmt := top 23
abbrev sDraw : Stmt := top 24
abbrev sPick : Stmt := top 25
/-- all that was tracked but the list at p is as it was -/
def SameBut (p : Addr) (H H' : Hp) : Prop := ∀ b o, b ≠ p → H b = some o → H' b = some o
theorem Same.but {p : Addr} {H H' : Hp} (s : Same H H') : SameBut p H H' := fun b o _ e => s b o e
theorem SameBut.trans {p : Addr} {H H1 H2 : Hp} (a : SameBut p H H1) (b : SameBut p H1 H2) : SameBut p H H2 := fun c o n e => b c o n (a c o n e)
theorem SameBut.refl (p : Addr) (H : Hp) : SameBut p H H := fun _ _ _ e => e
theorem same_new {H : Hp} {p : Addr} {o : HO} (h : H p = none) : Same H (upd H p o) := fun b q e => by
  rw [upd_ne (ne_of_none e h)]
  exact e
structure Txt (K : PySem.W.Frag) (mg : Str → Option Value) (C fWhole fBetw fDay fChk : Addr) : Prop where
  cl : Cls K C
  nL : NoAttr K C "_lengths"
  nT : NoAttr K C "_total"
  gCyc : mg "Cycle" = some (.ref C)
  gWhole : mg "is_whole" = some (.ref fWhole)
  gBetw : mg "is_between" = some (.ref fBetw)
  gChk : mg "check_lengths" = some (.ref fChk)
  gMB : ∃ t, mg "MOST_BLOCKS" = some (.int 12 t)
  gMT : ∃ t, mg "MOST_TOTAL" = some (.int 60 t)
  zIsi : mg "isinstance" = none
  zInt : mg "int" = none
  zBool : mg "bool" = none
  zStr : mg "str" = none
  zRepr : mg "repr" = none
  zLen : mg "len" = none
  zList : mg "list" = none
  zTuple : mg "tuple" = none
  zRange : mg "range" = none
  zAbs : mg "abs" = none
  zEnum : mg "enumerate" = none
  zSum : mg "sum" = none
  zIter : mg "iter" = none
section
variable {P : Program} {w : World} {K : PySem.W.Frag} {mg : Str → Option Value} {base : Heap} {C fWhole fBetw fDay fChk : Addr}
def spWhole (K : PySem.W.Frag) : Sp := fun vs H Q _ => ∃ (x : V) (t : String) (b1 b2 : Bool), vs = [x] ∧ TyX K H x (.type t) ∧ kitB t "int" = some b1 ∧ kitB t "bool" = some b2 ∧ Q (.bl (b1 && !b2)) H
theorem scWhole : FnScope ["value"] ["value"] (defScope sWhole) := ⟨rfl, rfl, rfl, by decide +kernel, rfl, by decide +kernel, by decide +kernel⟩
theorem ok_whole {f : Addr} {fd : FuncData} (F : Fun K "is_whole" "is_whole" sWhole f fd) (T : Txt K mg C fWhole fBetw fDay fChk) : FnOk P w K mg base CX0 1 f fd ["value"] (spWhole K) := by
  refine F.ok scWhole (fun vs H Q E h => ?_) (fun cdv A outer s H vs Q E hr h => ?_)
  · obtain ⟨x, t, b1, b2, rfl, _⟩ := h
    rfl
  · obtain ⟨x, t, b1, b2, rfl, ty, h1, h2, k⟩ := h
    refine ⟨_, pss_one (ps_ret (pe_and (pe_callB call_isi (by rfl) T.zIsi (by decide +kernel) (pa_cons (pv 0) (pa_cons (pe_bltn (v := .ty "int") (by rfl) T.zInt (by decide +kernel) rfl) pa_nil)))
      (pe_one (pe_not (pe_callB call_isi (by rfl) T.zIsi (by decide +kernel) (pa_cons (pv 0) (pa_cons (pe_bltn (v := .ty "bool") (by rfl) T.zBool (by decide +kernel) rfl) pa_nil))))))), ?_⟩
    refine ⟨_, rfl, x, .ty "int", _, _, b1, rfl, .ty "int", ty, kit_ty h1, b1, rfl, ?_⟩
    cases b1 with
    | true => exact iteT ⟨_, rfl, x, .ty "bool", _, _, b2, rfl, .ty "bool", ty, kit_ty h2, b2, rfl, k⟩
    | false => exact iteF k
/-- value, low, high: low and high ints -/
def spBetw (K : PySem.W.Frag) : Sp := fun vs H Q _ => ∃ (x : V) (t : String) (b1 b2 : Bool) (lo hi : Int), vs = [x, .int lo, .int hi] ∧ TyX K H x (.type t) ∧ kitB t "int" = some b1 ∧ kitB t "bool" = some b2 ∧
  ((b1 && !b2) = false → Q (.bl false) H) ∧ ((b1 && !b2) = true → ∃ i, x = .int i ∧ Q (.bl (decide (lo ≤ i) && decide (i ≤ hi))) H)
theorem scBetw : FnScope ["value", "low", "high"] ["value", "low", "high"] (defScope sBetw) := ⟨rfl, rfl, rfl, by decide +kernel, rfl, by decide +kernel, by decide +kernel⟩
theorem ok_betw {f : Addr} {fd fdW : FuncData} (F : Fun K "is_between" "is_between" sBetw f fd) (T : Txt K mg C fWhole fBetw fDay fChk) (FW : Fun K "is_whole" "is_whole" sWhole fWhole fdW) (bW : Binds K fdW ["value"] []) :
    FnOk P w K mg base CX0 2 f fd ["value", "low", "high"] (spBetw K) := by
  have GW : FnOk P w K mg base CX0 1 fWhole fdW ["value"] (spWhole K) := ok_whole FW T
  refine F.ok scBetw (fun vs H Q E h => ?_) (fun cdv A outer s H vs Q E hr h => ?_)
  · obtain ⟨x, t, b1, b2, lo, hi, rfl, _⟩ := h
    rfl
  · obtain ⟨x, t, b1, b2, lo, hi, rfl, ty, h1, h2, k0, k1⟩ := h
    refine ⟨_, pss_one (ps_ret (pe_and (pe_call GW hr rfl T.gWhole FW.kp bW .nil pass0 (pa_cons (pv 0) pa_nil)) (pe_one (pe_chain op_le op_le (pv 1) (pv 0) (pv 2))))), ?_⟩
    refine ⟨_, rfl, x, t, b1, b2, rfl, ty, h1, h2, _, rfl, ?_⟩
    cases e : (b1 && !b2) with
    | false => exact iteF (k0 e)
    | true =>
      obtain ⟨i, rfl, k⟩ := k1 e
      refine iteT ⟨_, rfl, _, rfl, _, _, rfl, rfl, _, rfl, ?_⟩
      by_cases c : lo ≤ i
      · rw [decide_eq_true c] at k ⊢
        exact iteT ⟨_, rfl, _, _, rfl, rfl, k⟩
      · rw [decide_eq_false c] at k ⊢
        exact iteF k
end
structure PenAt (H : Hp) (p l : Addr) (N : Int) : Prop where
  ex : ∃ (ms : List Int) (n c : Int), H p = some (.lst [.ref l, .int n, .int c]) ∧ H l = some (.lst (ms.map V.int)) ∧ ms.length ≤ 63 ∧ 0 ≤ n ∧ n ≤ N ∧ 0 ≤ c
theorem PenAt.lst {H : Hp} {p l : Addr} {N : Int} (h : PenAt H p l N) : ∃ xs, H p = some (.lst xs) := let ⟨_, _, _, e, _⟩ := h.ex; ⟨_, e⟩
theorem PenAt.same {H H' : Hp} {p l : Addr} {N : Int} (h : PenAt H p l N) (s : Same H H') : PenAt H' p l N := by
  obtain ⟨ms, n, c, e1, e2, z⟩ := h.ex
  exact ⟨ms, n, c, s _ _ e1, s _ _ e2, z⟩
theorem PenAt.le {H : Hp} {p l : Addr} {N M : Int} (h : PenAt H p l N) (z : N ≤ M) : PenAt H p l M := by
  obtain ⟨ms, n, c, e1, e2, h1, h2, h3, h4⟩ := h.ex
  exact ⟨ms, n, c, e1, e2, h1, h2, by omega, h4⟩
/-- a store to another list that was not there when the pen stood -/
theorem PenAt.upd {H H0 : Hp} {p l q : Addr} {N M : Int} {o : HO} (h : PenAt H p l N) (h0 : PenAt H0 p l M) (hq : H0 q = none) : PenAt (upd H q o) p l N := by
  obtain ⟨ms, n, c, e1, e2, z⟩ := h.ex
  obtain ⟨_, _, _, f1, f2, _⟩ := h0.ex
  exact ⟨ms, n, c, by rw [upd_ne (ne_of_none f1 hq)]; exact e1, by rw [upd_ne (ne_of_none f2 hq)]; exact e2, z⟩
theorem pen_ne {H : Hp} {p l : Addr} {ms : List Int} {n c : Int} (h1 : H p = some (.lst [.ref l, .int n, .int c])) (h2 : H l = some (.lst (ms.map V.int))) : l ≠ p := fun z => by
  subst z
  rw [h1] at h2
  have e := HO.lst.inj (Option.some.inj h2)
  cases ms with
  | nil => cases e
  | cons a r => cases e
theorem dp_ints {K : PySem.W.Frag} {H : Hp} : ∀ ns : List Int, DpAll K H (ns.map V.int) (ns.map PyData.int)
  | [] => .nil
  | a :: r => .cons (.int a) (dp_ints r)
section
variable {P : Program} {w : World} {K : PySem.W.Frag} {mg : Str → Option Value} {base : Heap} {C fWhole fBetw fDay fChk fDraw : Addr} {fdD : FuncData}
def spPen (K : PySem.W.Frag) : Sp := fun vs H Q _ => ∃ (a : Addr) (ns : List Int), vs = [.ref a] ∧ SqL K H a (ns.map V.int) ∧ ns.length ≤ 63 ∧ ∀ p l H', Same H H' → PenAt H' p l 0 → Q (.ref p) H'
theorem scPen : FnScope ["_law_script"] ["_law_script"] (defScope sPen) := ⟨rfl, rfl, rfl, by decide +kernel, rfl, by decide +kernel, by decide +kernel⟩
theorem ok_pen {f : Addr} {fd : FuncData} (F : Fun K "_law_pen" "_law_pen" sPen f fd) (T : Txt K mg C fWhole fBetw fDay fChk) : FnOk P w K mg base CX0 1 f fd ["_law_script"] (spPen K) := by
  refine F.ok scPen (fun vs H Q E h => ?_) (fun cdv A outer s H vs Q E hr h => ?_)
  · obtain ⟨a, ns, rfl, _⟩ := h
    rfl
  · obtain ⟨a, ns, rfl, ha, hl, k⟩ := h
    refine ⟨_, pss_one (ps_ret (pe_lst (pa_cons (pe_callTy call_list_of (by rfl) T.zList (by decide +kernel) (pa_cons (pe_slice sl_list (pv 0) po_none (po_some pe_int)) pa_nil)) (pa_cons pe_int (pa_cons pe_int pa_nil))))), ?_⟩
    refine ⟨_, rfl, _, rfl, a, _, rfl, ha, fun q hq => ?_⟩
    refine ⟨q, _, rfl, .inl (SqL.of upd_same), fun l hl' => ⟨(by show 3 ≤ sizeLine; decide), fun p hp => ?_⟩⟩
    refine k p l _ ((same_new hq).trans ((same_new hl').trans (same_new hp))) ?_
    obtain ⟨x, y, e⟩ : ∃ x y, cutV (ns.map V.int) none (some 63) = ((ns.drop x).take y).map V.int := ⟨HT.sIx (ns.map V.int).length 0 none, HT.sIx (ns.map V.int).length (ns.map V.int).length (some 63) - HT.sIx (ns.map V.int).length 0 none, by unfold cutV; rw [List.map_take, List.map_drop]⟩
    refine ⟨(ns.drop x).take y, 0, 0, upd_same, ?_, ?_, by omega, by omega, by omega⟩
    · rw [upd_ne (ne_of_none upd_same hp), upd_same, e]
    · rw [List.length_take, List.length_drop]; omega
/-- a draw: an int below many -/
def spDraw : Sp := fun vs H Q _ => ∃ (p l : Addr) (N many : Int), vs = [.ref p, .int many] ∧ PenAt H p l N ∧ 0 < many ∧ many.natAbs.log2 < 9000 ∧ N ≤ 100000 ∧
  ∀ r H', 0 ≤ r → r < many → SameBut p H H' → PenAt H' p l (N + 1) → Q (.int r) H'
theorem scDraw : FnScope ["_law_pen_here", "_law_many", "_law_digit", "_law_at", "_law_cell", "_law_great", "_law_mixed"] ["_law_pen_here", "_law_many"] (defScope sDraw) := ⟨rfl, rfl, rfl, by decide +kernel, rfl, by decide +kernel, by decide +kernel⟩
theorem small_pow {z : Int} (h0 : 0 ≤ z) (h : z < 18446744073709551616) : CPow z 5 ∧ CPow z 3 := by
  have e : (2 : Nat) ^ 64 = 18446744073709551616 := by decide
  have hz : z.natAbs < 2 ^ 64 := by rw [e]; omega
  exact ⟨⟨by decide, by decide, hz⟩, ⟨by decide, by decide, hz⟩⟩
theorem small_mul {i j : Int} (h0 : -18446744073709551616 < i) (h : i < 18446744073709551616) : CMul i j := by
  have e : (2 : Int) ^ 64 = 18446744073709551616 := by decide
  exact .inl ⟨by rw [e]; exact h0, by rw [e]; exact h⟩
set_option maxHeartbeats 8000000 in
theorem ok_draw {f : Addr} {fd : FuncData} (F : Fun K "_law_draw" "_law_draw" sDraw f fd) (T : Txt K mg C fWhole fBetw fDay fChk) : FnOk P w K mg base CX0 1 f fd ["_law_pen_here", "_law_many"] spDraw := by
  refine F.ok scDraw (fun vs H Q E h => ?_) (fun cdv A outer s H vs Q E hr h => ?_)
  · obtain ⟨p, l, N, many, rfl, _⟩ := h
    rfl
  · obtain ⟨p, l, N, many, rfl, pen, hm, hlog, hN, k⟩ := h
    obtain ⟨ms, n, c, h1, h2, hms, hn0, hnN, hc⟩ := pen.ex
    have nlp := pen_ne h1 h2
    have z0 : ([V.ref l, V.int n, V.int c] : List V)[0]? = some (V.ref l) := rfl
    have z1 : ([V.ref l, V.int n, V.int c] : List V)[1]? = some (V.int n) := rfl
    have z2 : ([V.ref l, V.int n, V.int c] : List V)[2]? = some (V.int c) := rfl
    refine ⟨_, pss_cons (ps_if (pt_cmpR op_gt (pe_ix ix_list (pv 0) pe_int (fun _ _ => rfl)) pe_int (nomark _))
        (pss_cons (ps_set (i := 2) scDraw.nd rfl (Or.inl rfl) (pe_op op_mod (pe_callTy call_int1 (by rfl) T.zInt (by decide +kernel) (pa_cons (pe_ix ix_list (pv 0) pe_int (fun _ _ => rfl)) pa_nil)) (pv 1)))
        (pss_cons (ps_asg (pe_op op_fdivW (pe_callTy call_int1 (by rfl) T.zInt (by decide +kernel) (pa_cons (pe_ix ix_list (pv 0) pe_int (fun _ _ => rfl)) pa_nil)) (pv 1)) (pg_sub (pv 0) pe_int set_list))
        (pss_one (ps_ret (pv 2))))) pss_nil)
      (pss_cons (ps_set (i := 3) scDraw.nd rfl (Or.inl rfl) (pe_ix ix_list (pv 0) pe_int (fun _ _ => rfl)))
      (pss_cons (ps_asg (pe_op op_add (pv 3) pe_int) (pg_sub (pv 0) pe_int set_list))
      (pss_cons (ps_set (i := 4) scDraw.nd rfl (Or.inl rfl) (pe_op op_add (pe_op op_mul pe_int (pv 3)) pe_int))
      (pss_cons (ps_if (pt_cmpR (op_neD hr.units) (pe_ix ix_list (pv 0) pe_int (fun _ _ => rfl)) (pe_lst pa_nil) (nomark _))
        (pss_one (ps_set (i := 4) scDraw.nd rfl (Or.inl rfl) (pe_ix ix_list (pe_ix ix_list (pv 0) pe_int (fun _ _ => rfl))
          (pe_op op_mod (pe_callTy call_int1 (by rfl) T.zInt (by decide +kernel) (pa_cons (pv 3) pa_nil)) (pe_callB call_len_seq (by rfl) T.zLen PySem.boot_len (pa_cons (pe_ix ix_list (pv 0) pe_int (fun _ _ => rfl)) pa_nil))) (fun _ _ => rfl)))) pss_nil)
      (pss_cons (ps_if (PW.pt (pw_and (pt_cmpR op_lt (pv 3) (pe_callB call_len_seq (by rfl) T.zLen PySem.boot_len (pa_cons (pe_ix ix_list (pv 0) pe_int (fun _ _ => rfl)) pa_nil)) (nomark _))
          (pw_and1 (pt_cmpR op_ge (pe_callB call_abs (by rfl) T.zAbs (by decide +kernel) (pa_cons (pv 4) pa_nil)) (pe_op op_pow pe_int pe_int) (nomark _)))))
        (pss_cons (ps_set (i := 5) scDraw.nd rfl (Or.inl rfl) (pe_op op_add (pe_op op_mul pe_int (pe_op op_sub (pe_callB call_abs (by rfl) T.zAbs (by decide +kernel) (pa_cons (pv 4) pa_nil)) (pe_op op_pow pe_int pe_int)))
          (pe_callTy call_int1 (by rfl) T.zInt (by decide +kernel) (pa_cons (pe_cmpR op_lt (pv 4) pe_int (nomark _)) pa_nil))))
        (pss_cons (ps_asg (pe_op op_fdivW (pe_callTy call_int1 (by rfl) T.zInt (by decide +kernel) (pa_cons (pv 5) pa_nil)) (pv 1)) (pg_sub (pv 0) pe_int set_list))
        (pss_one (ps_ret (pe_op op_mod (pe_callTy call_int1 (by rfl) T.zInt (by decide +kernel) (pa_cons (pv 5) pa_nil)) (pv 1)))))) pss_nil)
      (pss_cons (ps_set (i := 6) scDraw.nd rfl (Or.inl rfl) (pe_op op_mod (pe_callTy call_int1 (by rfl) T.zInt (by decide +kernel) (pa_cons (pe_op op_pow (pe_op op_add (pe_op op_add (pe_op op_mod (pe_callTy call_int1 (by rfl) T.zInt (by decide +kernel) (pa_cons (pv 4) pa_nil)) pe_int) (pe_op op_mul pe_int (pv 3))) pe_int) pe_int) pa_nil)) pe_int))
      (pss_cons (ps_set (i := 6) scDraw.nd rfl (Or.inl rfl) (pe_op op_mod (pe_callTy call_int1 (by rfl) T.zInt (by decide +kernel) (pa_cons (pe_op op_pow (pe_op op_add (pe_op op_add (pe_op op_mul (pv 6) (pe_op op_add (pe_op op_mul pe_int (pv 3)) pe_int))
        (pe_op op_mul (pe_op op_mul pe_int (pv 3)) (pv 3))) pe_int) pe_int) pa_nil)) pe_int))
      (pss_one (ps_ret (pe_op op_mod (pe_callTy call_int1 (by rfl) T.zInt (by decide +kernel) (pa_cons (pe_op op_fdiv (pv 6) pe_int) pa_nil)) (pv 1)))))))))))
      , ?_⟩
    refine ⟨_, rfl, p, _, _, _, rfl, rfl, SqL.of h1, atI_nat (j := 2) z2, _, _, rfl, rfl, _, rfl, ?_⟩
    by_cases hcp : 0 < c
    · rw [decide_eq_true hcp]
      refine iteT ?_
      refine ⟨_, rfl, p, _, _, _, rfl, rfl, SqL.of h1, atI_nat (j := 2) z2, .inl ⟨_, rfl, _, rfl, _, _, rfl, rfl, hm, ?_⟩⟩
      refine ⟨_, rfl, p, _, _, _, rfl, rfl, SqL.of h1, atI_nat (j := 2) z2, .inl ⟨_, rfl, _, rfl, _, _, rfl, rfl, ⟨hm, hlog⟩, ?_⟩⟩
      refine ⟨_, rfl, p, _, _, 2, rfl, rfl, h1, rfl, _, rfl, ?_⟩
      refine k _ _ (Int.emod_nonneg _ (by omega)) (Int.emod_lt_of_pos _ hm) (fun b o nb e => by rw [upd_ne nb]; exact e) ⟨ms, n, c / many, upd_same, by rw [upd_ne nlp]; exact h2, hms, hn0, by omega, Int.ediv_nonneg hc (by omega)⟩
    · rw [decide_eq_false hcp]
      refine iteF ?_
      have hc0 : c = 0 := by omega
      subst hc0
      refine ⟨_, rfl, p, _, _, _, rfl, rfl, SqL.of h1, atI_nat (j := 1) z1, ?_⟩
      refine ⟨_, rfl, _, _, rfl, rfl, _, rfl, p, _, _, 1, rfl, rfl, h1, rfl, ?_⟩
      have g1 : (upd H p (.lst ([V.ref l, V.int n, V.int 0].set 1 (V.int (n + 1))))) p = some (.lst [V.ref l, V.int (n + 1), V.int 0]) := upd_same
      have g2 : (upd H p (.lst ([V.ref l, V.int n, V.int 0].set 1 (V.int (n + 1))))) l = some (.lst (ms.map V.int)) := by rw [upd_ne nlp]; exact h2
      have sb : SameBut p H (upd H p (.lst ([V.ref l, V.int n, V.int 0].set 1 (V.int (n + 1))))) := fun b o nb e => by rw [upd_ne nb]; exact e
      generalize (upd H p (.lst ([V.ref l, V.int n, V.int 0].set 1 (V.int (n + 1))))) = H1 at g1 g2 sb ⊢
      have y0 : ([V.ref l, V.int (n + 1), V.int 0] : List V)[0]? = some (V.ref l) := rfl
      refine ⟨_, rfl, _, _, rfl, rfl, small_mul (by omega) (by omega), _, _, rfl, rfl, ?_⟩
      refine ⟨_, rfl, p, _, _, _, rfl, rfl, SqL.of g1, atI_nat (j := 0) y0, Nat.zero_le _, fun q hq => ?_⟩
      have s2 : Same H1 (upd H1 q (.lst [])) := same_new hq
      refine ⟨_, _, .lst (SqL.of (s2 _ _ g2)) (dp_ints ms), .lst (SqL.of upd_same) .nil, PySem.W.shaped_ints ms, PySem.W.shaped_ints [], _, rfl, ?_⟩
      have sb2 : SameBut p H (upd H1 q (.lst [])) := sb.trans (Same.but s2)
      have k1 := s2 _ _ g1
      have k2 := s2 _ _ g2
      generalize upd H1 q (.lst []) = H2 at sb2 k1 k2 ⊢
      have dml : ∀ i : Int, 0 ≤ i → i < ms.length → ∃ z : Int, atI (ms.map V.int) i = some (V.int z) := fun i h0 h1 => by
        refine ⟨ms[i.toNat]'(by omega), at_of (j := i.toNat) (by omega) ?_⟩
        rw [List.getElem?_map, List.getElem?_eq_getElem (by omega)]
        rfl
      refine ite2 (fun hk => ?_) (fun hk => ?_)
      have hne : 0 < ms.length := by
        cases ms with
        | nil => exact absurd hk (by decide)
        | cons a r => simp
      have i0 : 0 ≤ n % (ms.length : Int) := Int.emod_nonneg _ (by omega)
      have i1 : n % (ms.length : Int) < ms.length := Int.emod_lt_of_pos _ (by omega)
      obtain ⟨z, hz⟩ := dml _ i0 i1
      have hz' : atI (ms.map V.int) (n % ((ms.map V.int).length : Int)) = some (V.int z) := by rw [List.length_map]; exact hz
      have hp' : (0 : Int) < ((ms.map V.int).length : Int) := by rw [List.length_map]; omega
      refine ⟨_, rfl, p, _, _, _, rfl, rfl, SqL.of k1, atI_nat (j := 0) y0, _, rfl, .inl ⟨_, rfl, _, rfl, p, _, _, _, rfl, rfl, SqL.of k1, atI_nat (j := 0) y0, l, _, rfl, .inl (SqL.of k2), _, _, rfl, rfl, hp', l, _, _, _, rfl, rfl, SqL.of k2, hz', ?_⟩⟩
      clear hz hz'
      rotate_left
      dsimp only
      generalize 92965 * n + 2765 = z
      all_goals
        -- at < len(cells) and abs(cell) >= 10 ** 18
        refine ⟨_, rfl, _, rfl, p, _, _, _, rfl, rfl, SqL.of k1, atI_nat (j := 0) y0, l, _, rfl, .inl (SqL.of k2), _, _, rfl, rfl, _, rfl, ?_⟩
        refine ite2 (fun h6 => ?_) (fun h6 => ?_)
        refine ⟨_, rfl, _, rfl, _, _, rfl, rfl, ⟨by decide, by decide, by decide⟩, _, _, rfl, rfl, _, rfl, ?_⟩
        refine ite2 (fun h7 => ?_) (fun h7 => ?_)
        have h8 := of_decide_eq_true h7
        have e18 : (10 : Int) ^ (18 : Int).toNat = 1000000000000000000 := by decide
        rw [e18] at h8
        refine ⟨_, rfl, _, rfl, _, _, rfl, rfl, ⟨by decide, by decide, by decide⟩, _, _, rfl, rfl, _, _, rfl, rfl, small_mul (by decide) (by decide), _, rfl, _, _, rfl, rfl, .inr ⟨_, rfl, _, _, rfl, rfl, ?_⟩⟩
        rw [e18]
        have hg : 0 ≤ 2 * ((if z < 0 then -z else z) - 1000000000000000000) + (if decide (z < 0) = true then 1 else 0) := by
          split <;> omega
        refine ⟨_, rfl, .inl ⟨_, rfl, _, rfl, _, _, rfl, rfl, ⟨hm, hlog⟩, _, rfl, p, _, _, 2, rfl, rfl, k1, rfl, ?_⟩⟩
        refine ⟨_, rfl, .inl ⟨_, rfl, _, rfl, _, _, rfl, rfl, hm, ?_⟩⟩
        exact k _ _ (Int.emod_nonneg _ (by omega)) (Int.emod_lt_of_pos _ hm) (sb2.trans fun b o nb e => by rw [upd_ne nb]; exact e) ⟨ms, n + 1, _, upd_same, by rw [upd_ne nlp]; exact k2, hms, by omega, by omega, Int.ediv_nonneg hg (by omega)⟩
        all_goals
          have pen2 : PenAt H2 p l (N + 1) := ⟨ms, n + 1, 0, k1, k2, hms, by omega, by omega, by omega⟩
          have q1 : 0 ≤ z % 2147483549 := Int.emod_nonneg _ (by decide)
          have q2 : z % 2147483549 < 2147483549 := Int.emod_lt_of_pos _ (by decide)
          refine ⟨_, rfl, .inl ⟨_, rfl, _, _, rfl, rfl, (by show (0 : Int) < 2147483549; decide), _, rfl, _, _, rfl, rfl, small_mul (by decide) (by decide), _, _, rfl, rfl, _, _, rfl, rfl, _, _, rfl, rfl, (small_pow (by omega) (by omega)).1, .inl ⟨_, rfl, _, _, rfl, rfl, (by show (0 : Int) < 2147483629; decide), ?_⟩⟩⟩
          have q3 : 0 ≤ (z % 2147483549 + 85955 * n + 2765) ^ (5 : Int).toNat % 2147483629 := Int.emod_nonneg _ (by decide)
          have q4 : (z % 2147483549 + 85955 * n + 2765) ^ (5 : Int).toNat % 2147483629 < 2147483629 := Int.emod_lt_of_pos _ (by decide)
          dsimp only
          generalize (z % 2147483549 + 85955 * n + 2765) ^ (5 : Int).toNat % 2147483629 = m1 at q3 q4
          have b1 : m1 * (2 * n + 731) ≤ 2147483648 * (2 * 100000 + 731) := Int.mul_le_mul (by omega) (by omega) (by omega) (by omega)
          have b2 : 0 ≤ m1 * (2 * n + 731) := Int.mul_nonneg q3 (by omega)
          have b3 : 76715 * n * n ≤ 76715 * 100000 * 100000 := Int.mul_le_mul (by omega) (by omega) (by omega) (by omega)
          have b4 : 0 ≤ 76715 * n * n := Int.mul_nonneg (by omega) (by omega)
          refine ⟨_, rfl, _, rfl, _, _, rfl, rfl, small_mul (by decide) (by decide), _, _, rfl, rfl, _, _, rfl, rfl, small_mul (by omega) (by omega), _, rfl, _, _, rfl, rfl, small_mul (by decide) (by decide), _, rfl, _, _, rfl, rfl, small_mul (by omega) (by omega), _, _, rfl, rfl, _, _, rfl, rfl, _, _, rfl, rfl, (small_pow (by omega) (by omega)).2, .inl ⟨_, rfl, _, _, rfl, rfl, (by show (0 : Int) < 2147483587; decide), ?_⟩⟩
          refine ⟨_, rfl, _, _, rfl, rfl, ⟨by decide, by decide⟩, .inl ⟨_, rfl, _, rfl, _, _, rfl, rfl, hm, ?_⟩⟩
          exact k _ _ (Int.emod_nonneg _ (by omega)) (Int.emod_lt_of_pos _ hm) sb2 pen2
end
section
variable {P : Program} {w : World} {K : PySem.W.Frag} {mg : Str → Option Value} {base : Heap} {C fWhole fBetw fDay fChk fDraw fPick : Addr} {fdD fdP : FuncData}
/-- a def of the module that keeps its promise -/
structure Df (P : Program) (w : World) (K : PySem.W.Frag) (mg : Str → Option Value) (base : Heap) (x : Str) (k : Nat) (f : Addr) (fd : FuncData) (ps : List Str) (sp : Sp) : Prop where
  F : FnOk P w K mg base CX0 k f fd ps sp
  b : Binds K fd ps []
  kp : PySem.W.keepIn K (.ref f) = true
  g : mg x = some (.ref f)
theorem log_small {n : Int} (h0 : 0 ≤ n) (h : n < 2 ^ 64) : n.natAbs.log2 < 9000 := by
  have e : (2 : Int) ^ 64 = 18446744073709551616 := by decide
  have e2 : (2 : Nat) ^ 64 = 18446744073709551616 := by decide
  exact Nat.lt_trans (PySem.Flt.log2_lt_of (k := 64) (by decide) (by rw [e2]; omega)) (by decide)
/-- one of a list's items -/
def spPick : Sp := fun vs H Q _ => ∃ (p l a : Addr) (N : Int) (xs : List V), vs = [.ref p, .ref a] ∧ PenAt H p l N ∧ N ≤ 100000 ∧ H a = some (.lst xs) ∧ a ≠ p ∧ 0 < xs.length ∧ xs.length ≤ 1000 ∧
  ∀ (i : Nat) (v : V) (H' : Hp), xs[i]? = some v → SameBut p H H' → PenAt H' p l (N + 1) → Q v H'
theorem scPick : FnScope ["_law_pen_here", "_law_some"] ["_law_pen_here", "_law_some"] (defScope sPick) := ⟨rfl, rfl, rfl, by decide +kernel, rfl, by decide +kernel, by decide +kernel⟩
theorem ok_pick {f : Addr} {fd : FuncData} (F : Fun K "_law_pick" "_law_pick" sPick f fd) (T : Txt K mg C fWhole fBetw fDay fChk) (D : Df P w K mg base "_law_draw" 1 fDraw fdD ["_law_pen_here", "_law_many"] spDraw) : FnOk P w K mg base CX0 2 f fd ["_law_pen_here", "_law_some"] spPick := by
  refine F.ok scPick (fun vs H Q E h => ?_) (fun cdv A outer s H vs Q E hr h => ?_)
  · obtain ⟨p, l, a, N, xs, rfl, _⟩ := h
    rfl
  · obtain ⟨p, l, a, N, xs, rfl, pen, hN, ha, nap, h0, h1, k⟩ := h
    refine ⟨_, pss_one (ps_ret (pe_ix ix_list (pv 1) (pe_call D.F hr rfl D.g D.kp D.b .nil pass0 (pa_cons (pv 0) (pa_cons (pe_callB call_len_seq (by rfl) T.zLen PySem.boot_len (pa_cons (pv 1) pa_nil)) pa_nil))) (fun _ _ => rfl))), ?_⟩
    refine ⟨_, rfl, _, rfl, _, rfl, a, _, rfl, .inl (SqL.of ha), p, l, N, _, rfl, pen, by omega, log_small (by omega) (by omega), hN, fun r H' r0 r1 sb pen' => ?_⟩
    have hv : xs[r.toNat]? = some (xs[r.toNat]'(by omega)) := List.getElem?_eq_getElem (by omega)
    exact ⟨a, _, _, _, rfl, rfl, SqL.of (sb _ _ nap ha), at_of (j := r.toNat) (by omega) hv, k _ _ _ hv sb pen'⟩
end
end My
namespace My
open PySem PySem.Spec PyProof.Rows L2
abbrev sBCI : Stmt := inClass (top 4) 0
abbrev sTMI : Stmt := inClass (top 5) 0
abbrev sBTI : Stmt := inClass (top 6) 0
theorem lt_ne : ¬ (("_lengths" : Str) = "_total") := by decide +kernel
def flds (t : Addr) (n : Int) : List (Str × V) := putF "_total" (.int n) (putF "_lengths" (.ref t) [])
theorem flds_l (t : Addr) (n : Int) : (flds t n).lookup ("_lengths" : Str) = some (.ref t) := by
  unfold flds
  rw [lookup_putF, if_neg lt_ne, lookup_putF, if_pos rfl]
/-- lengths that a cycle may have -/
structure Good (ls : List Int) : Prop where
  pos : ∀ l ∈ ls, 1 ≤ l ∧ l ≤ 60
  ne : 0 < ls.length
  few : ls.length ≤ 12
  sum : ls.sum ≤ 60
/-- a Cycle of these lengths stands at p -/
structure CycAt (C : Addr) (H : Hp) (p : Addr) (ls : List Int) : Prop where
  ob : ∃ dx t, H p = some (.ins C dx (flds t ls.sum)) ∧ H t = some (.tup (ls.map V.int))
  ok : Good ls
theorem CycAt.ext {C : Addr} {H H' : Hp} {p : Addr} {ls : List Int} (c : CycAt C H p ls) (s : LamX.ExtN H H') : CycAt C H' p ls :=
  ⟨let ⟨dx, t, h1, h2⟩ := c.ob; ⟨dx, t, s _ _ h1 (fun _ z => by cases z), s _ _ h2 (fun _ z => by cases z)⟩, c.ok⟩
theorem CycAt.same {C : Addr} {H H' : Hp} {p : Addr} {ls : List Int} (c : CycAt C H p ls) (s : Same H H') : CycAt C H' p ls :=
  ⟨let ⟨dx, t, h1, h2⟩ := c.ob; ⟨dx, t, s _ _ h1, s _ _ h2⟩, c.ok⟩
theorem CycAt.but {C : Addr} {H H' : Hp} {p q : Addr} {ls : List Int} (c : CycAt C H p ls) (s : SameBut q H H') {xs : List V} (hq : H q = some (.lst xs)) : CycAt C H' p ls :=
  ⟨let ⟨dx, t, h1, h2⟩ := c.ob; ⟨dx, t, s _ _ (ne_of h1 hq (by intro z; cases z)) h1, s _ _ (ne_of h2 hq (by intro z; cases z)) h2⟩, c.ok⟩
inductive AV (H : Hp) : V → Prop where
  | non : AV H .non
  | bl (b : Bool) : AV H (.bl b)
  | int (i : Int) : AV H (.int i)
  | str (z : Str) : AV H (.str z)
  | tup {a : Addr} {xs : List V} (h : H a = some (.tup xs)) : AV H (.ref a)
  | lst {a : Addr} {xs : List V} (h : H a = some (.lst xs)) : AV H (.ref a)
  | dct {a : Addr} (h : H a = some (.dK [])) : AV H (.ref a)
theorem AV.ext {H H' : Hp} {v : V} (o : AV H v) (e : LamX.ExtN H H') : AV H' v := by
  cases o with
  | non => exact .non
  | bl b => exact .bl b
  | int i => exact .int i
  | str z => exact .str z
  | tup h => exact .tup (e _ _ h fun ps z => by cases z)
  | lst h => exact .lst (e _ _ h fun ps z => by cases z)
  | dct h => exact .dct (e _ _ h fun ps z => by cases z)
theorem AV.same {H H' : Hp} {v : V} (o : AV H v) (e : Same H H') : AV H' v := o.ext (.of e)
theorem AV.but {H H' : Hp} {v : V} {p : Addr} {ys : List V} (o : AV H v) (e : SameBut p H H') (hp : H' p = some (.lst ys)) : AV H' v := by
  have go : ∀ {a : Addr} {ob : HO}, H a = some ob → (a ≠ p → H' a = some ob → AV H' (.ref a)) → AV H' (.ref a) := fun {a ob} h k => by
    by_cases z : a = p
    · subst z
      exact .lst hp
    · exact k z (e _ _ z h)
  cases o with
  | non => exact .non
  | bl b => exact .bl b
  | int i => exact .int i
  | str z => exact .str z
  | tup h => exact go h fun _ q => .tup q
  | lst h => exact go h fun _ q => .lst q
  | dct h => exact go h fun _ q => .dct q
def isI : V → Bool
  | .int _ => true
  | _ => false
/-- what kind of thing it is -/
structure Kinds (K : PySem.W.Frag) (H : Hp) (v : V) : Prop where
  ex : ∃ (t : String) (b1 b2 : Bool), TyX K H v (.type t) ∧ kitB t "int" = some b1 ∧ kitB t "bool" = some b2 ∧ (b1 && !b2) = isI v
theorem AV.kinds {K : PySem.W.Frag} {H : Hp} {v : V} (o : AV H v) : Kinds K H v := by
  cases o with
  | non => exact ⟨"NoneType", false, false, .base .non, by decide +kernel, by decide +kernel, rfl⟩
  | bl b => exact ⟨"bool", true, true, .base (.bl b), by decide +kernel, by decide +kernel, rfl⟩
  | int i => exact ⟨"int", true, false, .base (.int i), by decide +kernel, by decide +kernel, rfl⟩
  | str z => exact ⟨"str", false, false, .base (.str z), by decide +kernel, by decide +kernel, rfl⟩
  | tup h => exact ⟨"tuple", false, false, .base (.tup h), by decide +kernel, by decide +kernel, rfl⟩
  | lst h => exact ⟨"list", false, false, .base (.lst h), by decide +kernel, by decide +kernel, rfl⟩
  | dct h => exact ⟨"dict", false, false, .base (.dK h), by decide +kernel, by decide +kernel, rfl⟩
inductive Out where
  | cyc (k : Nat)
  | many (w : Str) (n : Int)
  | ok (ls : List Int)
def okV : V → Bool
  | .int i => decide (1 ≤ i) && decide (i ≤ 60)
  | _ => false
def intOf : V → Int
  | .int i => i
  | _ => 0
def firstBad : List V → Option Nat
  | [] => none
  | x :: r => if okV x then (firstBad r).map (· + 1) else some 0
def outOf (xs : List V) : Out :=
  match firstBad xs with
  | some k => .cyc k
  | none => if xs.length = 0 then .cyc 0 else if 12 < xs.length then .many "blocks" 12 else if 60 < (xs.map intOf).sum then .many "days" 60 else .ok (xs.map intOf)
theorem bad_none : ∀ {xs : List V}, firstBad xs = none → (∀ x ∈ xs, okV x = true) ∧ xs = (xs.map intOf).map V.int
  | [], _ => ⟨fun x h => absurd h (by simp), rfl⟩
  | x :: r, h => by
    unfold firstBad at h
    by_cases e : okV x = true
    · rw [if_pos e] at h
      obtain ⟨h1, h2⟩ := bad_none (Option.map_eq_none_iff.mp h)
      refine ⟨fun y hy => ?_, ?_⟩
      · rcases List.mem_cons.mp hy with z | z
        · rw [z]; exact e
        · exact h1 y z
      · cases x with
        | int i => exact congrArg (V.int i :: ·) h2
        | _ => cases e
    · rw [if_neg e] at h
      cases h
theorem bad_at : ∀ {xs : List V} {i : Nat} {x : V}, xs[i]? = some x → (∀ j, j < i → ∀ y, xs[j]? = some y → okV y = true) → okV x = false → firstBad xs = some i
  | [], i, x, h, _, _ => by simp at h
  | y :: r, 0, x, h, _, e => by
    have z : y = x := by simpa using h
    unfold firstBad
    rw [z, e]
    rfl
  | y :: r, i + 1, x, h, a, e => by
    have e0 := a 0 (Nat.succ_pos _) y (by simp)
    unfold firstBad
    rw [e0, if_pos rfl, bad_at (xs := r) (i := i) (x := x) (by simpa using h) (fun j hj z hz => a (j + 1) (Nat.succ_lt_succ hj) z (by simpa using hz)) e]
    rfl
theorem bad_all : ∀ {xs : List V}, (∀ (j : Nat) (y : V), xs[j]? = some y → okV y = true) → firstBad xs = none
  | [], _ => rfl
  | x :: r, h => by
    unfold firstBad
    rw [h 0 x (by simp), if_pos rfl, bad_all (xs := r) fun j y hy => h (j + 1) y (by simpa using hy)]
    rfl
theorem out_ok {xs : List V} {ls : List Int} (h : outOf xs = .ok ls) : Good ls ∧ xs = ls.map V.int := by
  unfold outOf at h
  split at h
  · cases h
  · rename_i e
    obtain ⟨h1, h2⟩ := bad_none e
    split at h
    · cases h
    · split at h
      · cases h
      · split at h
        · cases h
        · cases h
          refine ⟨⟨fun l hl => ?_, ?_, ?_, ?_⟩, h2⟩
          · obtain ⟨x, hx, rfl⟩ := List.mem_map.mp hl
            have := h1 x hx
            cases x with
            | int i =>
              unfold okV at this
              rw [Bool.and_eq_true, decide_eq_true_eq, decide_eq_true_eq] at this
              exact this
            | _ => cases this
          · rw [List.length_map]; omega
          · rw [List.length_map]; omega
          · omega
def spErI (f : Str) (C : Addr) : Sp := fun vs H Q _ => ∃ (a : Addr) (y : V), vs = [.ref a, y] ∧ H a = some (exo a C none) ∧ ∀ dx, H dx = none → dx ≠ a → Q .non (upd (upd H dx (exd dx [(f, y)])) a (exo a C (some dx)))
def spErI2 (f g : Str) (C : Addr) : Sp := fun vs H Q _ => ∃ (a : Addr) (y z : V), vs = [.ref a, y, z] ∧ H a = some (exo a C none) ∧ ∀ dx, H dx = none → dx ≠ a → Q .non (upd (upd (upd H dx (exd dx [(f, y)])) a (exo a C (some dx))) dx (exd dx [(g, z), (f, y)]))
/-- what is known of an error's class at C -/
structure ErC (K : PySem.W.Frag) (mg : Str → Option Value) (x f : Str) (C fI : Addr) : Prop where
  oex : OexC K C
  iC : PySem.W.findIn K (.ref C) "__init__" = some (some (.ref fI))
  tI : PySem.W.typeIn K (.ref fI) = some (.type "function")
  g : mg x = some (.ref C)
  no : PySem.W.findIn K (.ref C) f = some none
  xf : XfC K C
  ec : ExcC K C
/-- the errors' classes, their __init__ with their promises -/
structure ErM (P : Program) (w : World) (K : PySem.W.Frag) (mg : Str → Option Value) (base : Heap) (cBC fBC cTM fTM : Addr) (dBC dTM : FuncData) : Prop where
  c : ErC K mg "BadCycle" "at" cBC fBC
  F : FnOk P w K mg base CX0 1 fBC dBC ["self", "at"] (spErI "at" cBC)
  b : Binds K dBC ["self", "at"] []
  c2 : ErC K mg "TooMany" "what" cTM fTM
  c3 : ErC K mg "TooMany" "most" cTM fTM
  F2 : FnOk P w K mg base CX0 1 fTM dTM ["self", "what", "most"] (spErI2 "what" "most" cTM)
  b2 : Binds K dTM ["self", "what", "most"] []
theorem er_made {f : Str} {C : Addr} {y : V} {H : Hp} {Q : XK} (k : ∀ d H', Same H H' → H' d = some (.xd [(f, y)]) → Q (.ref C) (some d) H') :
    ([y] : List V).length ≤ 1000 ∧ ∀ a, H a = none → spErI f C (.ref a :: ([y] ++ [])) (upd H a (exo a C none)) (fun v H2 => v = .non ∧ ∃ (d : Addr) (fs : List (Str × V)), H2 a = some (exo a C (some d)) ∧ H2 d = some (exd d fs) ∧ H d = none ∧ Q (.ref C) (some d) (upd (L2.del H2 a) d (.xd fs))) (fun _ _ _ => False) := by
  refine ⟨(by show 1 ≤ 1000; decide), fun a na => ⟨a, y, rfl, upd_same, fun dx nd ne => ⟨rfl, dx, [(f, y)], upd_same, ?_, ?_, ?_⟩⟩⟩
  · rw [upd_ne ne, upd_same]
  · rw [upd_ne ne] at nd
    exact nd
  · have nd' : H dx = none := by
      rw [upd_ne ne] at nd
      exact nd
    refine k dx _ (fun b o e => ?_) upd_same
    have n1 := ne_of_none e na
    have n2 := ne_of_none e nd'
    rw [upd_ne n2, L2.del_ne n1, upd_ne n1, upd_ne n2, upd_ne n1]
    exact e
theorem er_made2 {f g : Str} {C : Addr} {y z : V} {H : Hp} {Q : XK} (k : ∀ d H', Same H H' → H' d = some (.xd [(g, z), (f, y)]) → Q (.ref C) (some d) H') :
    ([y, z] : List V).length ≤ 1000 ∧ ∀ a, H a = none → spErI2 f g C (.ref a :: ([y, z] ++ [])) (upd H a (exo a C none)) (fun v H2 => v = .non ∧ ∃ (d : Addr) (fs : List (Str × V)), H2 a = some (exo a C (some d)) ∧ H2 d = some (exd d fs) ∧ H d = none ∧ Q (.ref C) (some d) (upd (L2.del H2 a) d (.xd fs))) (fun _ _ _ => False) := by
  refine ⟨(by show 2 ≤ 1000; decide), fun a na => ⟨a, y, z, rfl, upd_same, fun dx nd ne => ⟨rfl, dx, [(g, z), (f, y)], ?_, upd_same, ?_, ?_⟩⟩⟩
  · rw [upd_ne (Ne.symm ne), upd_same]
  · rw [upd_ne ne] at nd
    exact nd
  · have nd' : H dx = none := by
      rw [upd_ne ne] at nd
      exact nd
    refine k dx _ (fun b o e => ?_) upd_same
    have n1 := ne_of_none e na
    have n2 := ne_of_none e nd'
    rw [upd_ne n2, L2.del_ne n1, upd_ne n2, upd_ne n1, upd_ne n2, upd_ne n1]
    exact e
/-- what is wished of the errors -/
def Errs (cBC cTM : Addr) (o : Out) (H : Hp) (E : XK) : Prop :=
  match o with
  | .cyc k => ∀ dd H', Same H H' → H' dd = some (.xd [("at", .int (k : Nat))]) → E (.ref cBC) (some dd) H'
  | .many w n => ∀ dd H', Same H H' → H' dd = some (.xd [("most", .int n), ("what", .str w)]) → E (.ref cTM) (some dd) H'
  | .ok _ => True
theorem Errs.same {cBC cTM : Addr} {o : Out} {H H1 : Hp} {E : XK} (h : Errs cBC cTM o H E) (s : Same H H1) : Errs cBC cTM o H1 E := by
  cases o with
  | cyc k => exact fun dd H' s' => h dd H' (s.trans s')
  | many w n => exact fun dd H' s' => h dd H' (s.trans s')
  | ok ls => trivial
section
variable {P : Program} {w : World} {K : PySem.W.Frag} {mg : Str → Option Value} {base : Heap} {C fWhole fBetw fDay fChk cBC fBC cTM fTM : Addr} {dBC dTM : FuncData}
theorem scBCI : FnScope ["self", "at"] ["self", "at"] (defScope sBCI) := ⟨rfl, rfl, rfl, by decide +kernel, rfl, by decide +kernel, by decide +kernel⟩
theorem ok_bci {f : Addr} {fd : FuncData} (F : Fun K "__init__" "BadCycle.__init__" sBCI f fd) (Z : ErC K mg "BadCycle" "at" cBC fBC) : FnOk P w K mg base CX0 1 f fd ["self", "at"] (spErI "at" cBC) := by
  refine F.ok scBCI (fun vs H Q E h => ?_) (fun cdv A outer s H vs Q E hr h => ?_)
  · obtain ⟨a, y, rfl, _⟩ := h
    rfl
  · obtain ⟨a, y, rfl, ha, k⟩ := h
    refine ⟨_, pss_one (ps_ost (pv 0) (pv 1)), ?_⟩
    exact ⟨_, rfl, _, rfl, a, cBC, rfl, Z.oex, Z.no, .inl ⟨ha, fun dx n ne => k dx n ne⟩⟩
theorem scTMI : FnScope ["self", "what", "most"] ["self", "what", "most"] (defScope sTMI) := ⟨rfl, rfl, rfl, by decide +kernel, rfl, by decide +kernel, by decide +kernel⟩
theorem ok_tmi {f : Addr} {fd : FuncData} (F : Fun K "__init__" "TooMany.__init__" sTMI f fd) (Z : ErC K mg "TooMany" "what" cTM fTM) (Z2 : ErC K mg "TooMany" "most" cTM fTM) : FnOk P w K mg base CX0 1 f fd ["self", "what", "most"] (spErI2 "what" "most" cTM) := by
  refine F.ok scTMI (fun vs H Q E h => ?_) (fun cdv A outer s H vs Q E hr h => ?_)
  · obtain ⟨a, y, z, rfl, _⟩ := h
    rfl
  · obtain ⟨a, y, z, rfl, ha, k⟩ := h
    refine ⟨_, pss_cons (ps_ost (pv 0) (pv 1)) (pss_one (ps_ost (pv 0) (pv 2))), ?_⟩
    refine ⟨_, rfl, _, rfl, a, cTM, rfl, Z.oex, Z.no, .inl ⟨ha, fun dx n ne => ?_⟩⟩
    exact ⟨_, rfl, _, rfl, a, cTM, rfl, Z2.oex, Z2.no, .inr ⟨dx, _, upd_same, by rw [upd_ne ne, upd_same], (by show 1 ≤ 900; decide), k dx n ne⟩⟩
theorem scBTI : FnScope ["self", "line", "word"] ["self", "line", "word"] (defScope sBTI) := ⟨rfl, rfl, rfl, by decide +kernel, rfl, by decide +kernel, by decide +kernel⟩
theorem ok_bti {cBT fBT f : Addr} {fd : FuncData} (F : Fun K "__init__" "BadText.__init__" sBTI f fd) (Z : ErC K mg "BadText" "line" cBT fBT) (Z2 : ErC K mg "BadText" "word" cBT fBT) : FnOk P w K mg base CX0 1 f fd ["self", "line", "word"] (spErI2 "line" "word" cBT) := by
  refine F.ok scBTI (fun vs H Q E h => ?_) (fun cdv A outer s H vs Q E hr h => ?_)
  · obtain ⟨a, y, z, rfl, _⟩ := h
    rfl
  · obtain ⟨a, y, z, rfl, ha, k⟩ := h
    refine ⟨_, pss_cons (ps_ost (pv 0) (pv 1)) (pss_one (ps_ost (pv 0) (pv 2))), ?_⟩
    refine ⟨_, rfl, _, rfl, a, cBT, rfl, Z.oex, Z.no, .inl ⟨ha, fun dx n ne => ?_⟩⟩
    exact ⟨_, rfl, _, rfl, a, cBT, rfl, Z2.oex, Z2.no, .inr ⟨dx, _, upd_same, by rw [upd_ne ne, upd_same], (by show 1 ≤ 900; decide), k dx n ne⟩⟩
def spChk (cBC cTM : Addr) : Sp := fun vs H Q E => ∃ (t : Addr) (xs : List V), vs = [.ref t] ∧ H t = some (.tup xs) ∧ (∀ x ∈ xs, AV H x) ∧ Errs cBC cTM (outOf xs) H E ∧ ∀ ls, outOf xs = .ok ls → ∀ H', Same H H' → Q .non H'
theorem scChk : FnScope ["lengths", "at", "length"] ["lengths"] (defScope sChk) := ⟨rfl, rfl, rfl, by decide +kernel, rfl, by decide +kernel, by decide +kernel⟩
theorem ok_chk {f : Addr} {fd fdW fdB : FuncData} (F : Fun K "check_lengths" "check_lengths" sChk f fd) (T : Txt K mg C fWhole fBetw fDay fChk) (FW : Fun K "is_whole" "is_whole" sWhole fWhole fdW) (bW : Binds K fdW ["value"] [])
    (FB : Fun K "is_between" "is_between" sBetw fBetw fdB) (bB : Binds K fdB ["value", "low", "high"] []) (Z : ErM P w K mg base cBC fBC cTM fTM dBC dTM) : FnOk P w K mg base (L2.CX P w) 3 f fd ["lengths"] (spChk cBC cTM) := by
  have GB : FnOk P w K mg base CX0 2 fBetw fdB ["value", "low", "high"] (spBetw K) := ok_betw FB T FW bW
  obtain ⟨tb, gb⟩ := T.gMB
  obtain ⟨tt, gt⟩ := T.gMT
  refine F.okX scChk (fun vs H Q E h => ?_) (fun cdv A outer s H vs Q E hr h => ?_)
  · obtain ⟨t, xs, rfl, _⟩ := h
    rfl
  · obtain ⟨t, xs, rfl, ht, av, er, k⟩ := h
    refine ⟨_, pss_cons (ps_for (passes_of rfl) rfl (pi_enumT (by rfl) T.zEnum (pa_cons (pv 0) pa_nil)) (pg_tup rfl (pgs_cons (pg_name (i := 1) scChk.nd rfl (.inl rfl)) (pgs_cons (pg_name (i := 2) scChk.nd rfl (.inl rfl)) pgs_nil)))
        (pss_one (ps_if (pt_not (pt_val (pe_call GB hr rfl T.gBetw FB.kp bB .nil pass0 (pa_cons (pv 2) (pa_cons pe_int (pa_cons (pe_glob (v := .int 60) rfl gt ⟨_, rfl⟩) pa_nil))))))
          (pss_one (ps_raise rfl (takes_of rfl rfl rfl rfl) (pmk_oex Z.c.oex Z.c.iC Z.c.tI Z.F (hr.mono (by decide)) Z.b .nil pass0 rfl Z.c.g (pa_cons (pv 1) pa_nil)))) pss_nil)))
      (pss_cons (ps_if (pt_not (pt_truth (pv 0) (by intro _; rfl))) (pss_one (ps_raise rfl (takes_of rfl rfl rfl rfl) (pmk_oex Z.c.oex Z.c.iC Z.c.tI Z.F (hr.mono (by decide)) Z.b .nil pass0 rfl Z.c.g (pa_cons pe_int pa_nil)))) pss_nil)
      (pss_cons (ps_if (pt_cmpR op_gt (pe_callB call_len_seq (by rfl) T.zLen PySem.boot_len (pa_cons (pv 0) pa_nil)) (pe_glob (v := .int 12) rfl gb ⟨_, rfl⟩) (nomark _))
        (pss_one (ps_raise rfl (takes_of rfl rfl rfl rfl) (pmk_oex Z.c2.oex Z.c2.iC Z.c2.tI Z.F2 (hr.mono (by decide)) Z.b2 .nil pass0 rfl Z.c2.g (pa_cons pe_str (pa_cons (pe_glob (v := .int 12) rfl gb ⟨_, rfl⟩) pa_nil))))) pss_nil)
      (pss_one (ps_if (pt_cmpR op_gt (pe_callB (cr_sumT rfl) (by rfl) T.zSum (by decide +kernel) (pa_cons (pv 0) pa_nil)) (pe_glob (v := .int 60) rfl gt ⟨_, rfl⟩) (nomark _))
        (pss_one (ps_raise rfl (takes_of rfl rfl rfl rfl) (pmk_oex Z.c2.oex Z.c2.iC Z.c2.tI Z.F2 (hr.mono (by decide)) Z.b2 .nil pass0 rfl Z.c2.g (pa_cons pe_str (pa_cons (pe_glob (v := .int 60) rfl gt ⟨_, rfl⟩) pa_nil))))) pss_nil)))), ?_⟩
    refine ⟨_, rfl, t, xs, rfl, SqT.of ht, for_enumT (K := K) (a := t) (xs := xs) (fun i σ H' => ∃ (u v : Option V), σ = [some (.ref t), u, v] ∧ Same H H' ∧ ∀ j, j < i → ∀ y, xs[j]? = some y → okV y = true)
      ⟨none, none, rfl, Same.refl H, fun j hj => absurd hj (Nat.not_lt_zero _)⟩ (fun i σ H' _ ⟨_, _, _, s1, _⟩ => SqT.of (s1 _ _ ht)) ?_ ?_⟩
    · rintro i x σ H' Tn hi ⟨u, v, rfl, s1, ok⟩ hT
      have s2 := s1.trans (same_new (o := .tup [.int (i : Nat), x]) hT)
      obtain ⟨ty, b1, b2, hty, h1, h2, h3⟩ := (AV.kinds (K := K) ((av x (List.mem_of_getElem? hi)).same s2)).ex
      refine ⟨Tn, _, rfl, SqT.of upd_same, rfl, _, _, rfl, _, _, rfl, rfl, ?_⟩
      have bad : okV x = false → Errs cBC cTM (.cyc i) H E := fun e => by
        have z : outOf xs = .cyc i := by unfold outOf; rw [bad_at hi ok e]
        rw [z] at er
        exact er
      refine ⟨_, rfl, x, ty, b1, b2, 1, 60, rfl, hty, h1, h2, (fun q => ?_), fun q => ?_⟩
      · have e : okV x = false := by
          rw [h3] at q
          cases x with
          | int i => cases q
          | _ => rfl
        exact ⟨_, rfl, iteT ⟨_, rfl, er_made ((bad e).same s2)⟩⟩
      · rw [h3] at q
        obtain ⟨z, rfl⟩ : ∃ z, x = .int z := by
          cases x with
          | int i => exact ⟨i, rfl⟩
          | _ => cases q
        refine ⟨z, rfl, _, rfl, ?_⟩
        cases e : (decide (1 ≤ z) && decide (z ≤ 60)) with
        | false => exact iteT ⟨_, rfl, er_made ((bad e).same s2)⟩
        | true =>
          refine iteF ⟨_, _, rfl, s2, fun j hj y hy => ?_⟩
          by_cases c : j = i
          · subst c
            rw [hi] at hy
            cases hy
            exact e
          · exact ok j (by omega) y hy
    · rintro σ H' ⟨u, v, rfl, s1, ok⟩
      have ht' := s1 _ _ ht
      have none_ : firstBad xs = none := bad_all fun j y hy => ok j (List.getElem?_eq_some_iff.mp hy).1 y hy
      obtain ⟨_, hmap⟩ := bad_none none_
      refine ⟨_, rfl, _, .inr (.inl ⟨_, SqT.of ht', rfl⟩), ?_⟩
      have eO : outOf xs = if xs.length = 0 then .cyc 0 else if 12 < xs.length then .many "blocks" 12 else if 60 < (xs.map intOf).sum then .many "days" 60 else .ok (xs.map intOf) := by unfold outOf; rw [none_]
      by_cases e0 : xs.length = 0
      · have en : xs = [] := List.length_eq_zero_iff.mp e0
        rw [if_pos e0] at eO
        rw [eO] at er
        have e1 : xs.isEmpty = true := by rw [en]; rfl
        rw [e1]
        exact iteT (er_made (er.same s1))
      · have e1 : xs.isEmpty = false := by
          cases xs with
          | nil => exact absurd rfl e0
          | cons a r => rfl
        rw [if_neg e0] at eO
        rw [e1]
        refine iteF ?_
        refine ⟨_, rfl, t, _, rfl, .inr (SqT.of ht'), _, _, rfl, rfl, _, rfl, ?_⟩
        by_cases e2 : 12 < xs.length
        · rw [if_pos e2] at eO
          rw [eO] at er
          rw [decide_eq_true (by omega)]
          exact iteT (er_made2 (er.same s1))
        · rw [if_neg e2] at eO
          rw [decide_eq_false (by omega)]
          refine iteF ?_
          refine ⟨_, rfl, t, xs.map intOf, rfl, SqT.of (by rw [← hmap]; exact ht'), _, _, rfl, rfl, _, rfl, ?_⟩
          by_cases e3 : 60 < (xs.map intOf).sum
          · rw [if_pos e3] at eO
            rw [eO] at er
            rw [decide_eq_true e3]
            exact iteT (er_made2 (er.same s1))
          · rw [if_neg e3] at eO
            rw [decide_eq_false e3]
            exact iteF (k _ eO _ s1)
end
end My
namespace My
open PySem PySem.Spec PyProof.Rows L2
/-- what may come of the making of a Cycle from these values -/
structure MkC (C cBC cTM : Addr) (xs : List V) (H : Hp) (Q : VK) (E : XK) : Prop where
  av : ∀ x ∈ xs, AV H x
  len : xs.length ≤ 1000
  er : Errs cBC cTM (outOf xs) H E
  ok : ∀ ls, outOf xs = .ok ls → ∀ p H', Same H H' → CycAt C H' p ls → Q (.ref p) H'
theorem MkC.same {C cBC cTM : Addr} {xs : List V} {H H1 : Hp} {Q : VK} {E : XK} (m : MkC C cBC cTM xs H Q E) (s : Same H H1) : MkC C cBC cTM xs H1 Q E :=
  ⟨fun x hx => (m.av x hx).same s, m.len, m.er.same s, fun ls e p H' s' c => m.ok ls e p H' (s.trans s') c⟩
def spInitO (C cBC cTM : Addr) : Sp := fun vs H Q E => ∃ (p t dx : Addr) (xs : List V), vs = [.ref p, .ref t] ∧ H p = some (.ins C dx []) ∧ H t = some (.tup xs) ∧ (∀ x ∈ xs, AV H x) ∧ Errs cBC cTM (outOf xs) H E ∧
  ∀ ls, outOf xs = .ok ls → ∀ H', (∀ b o, H b = some o → b ≠ p → H' b = some o) → H' p = some (.ins C dx (flds t ls.sum)) → Q .non H'
def spStarO (C cBC cTM : Addr) : Sp := fun vs H Q E => ∃ ws rest, vs = ws ++ rest ∧ ws.length = (["self"] : List Str).length ∧ rest.length ≤ sizeLine ∧ ∀ p, H p = none → spInitO C cBC cTM (ws ++ [V.ref p]) (upd H p (.tup rest)) Q E
theorem MkC.star {C cBC cTM : Addr} {xs : List V} {H : Hp} {Q : VK} {E : XK} (m : MkC C cBC cTM xs H Q E) {x dx : Addr} (nx : H x = none) (nd : H dx = none) (ne : dx ≠ x) :
    spStarO C cBC cTM (V.ref x :: xs) (upd (upd H dx (.own x)) x (.ins C dx [])) (fun v H2 => v = .non ∧ Q (.ref x) H2) E := by
  refine ⟨[.ref x], xs, rfl, rfl, Nat.le_trans m.len (by decide), fun t nt => ?_⟩
  have nxt : x ≠ t := fun z => by
    rw [← z, upd_same] at nt
    cases nt
  have s1 : Same H (upd (upd H dx (.own x)) x (.ins C dx [])) := fun b o e => by
    rw [upd_ne (ne_of_none e nx), upd_ne (ne_of_none e nd)]
    exact e
  have s2 : Same H (upd (upd (upd H dx (.own x)) x (.ins C dx [])) t (.tup xs)) := s1.trans (same_new nt)
  have hx : (upd (upd (upd H dx (.own x)) x (.ins C dx [])) t (.tup xs)) x = some (.ins C dx []) := by
    rw [upd_ne nxt, upd_same]
  refine ⟨x, t, dx, xs, rfl, hx, upd_same, fun y hy => (m.av y hy).same s2, m.er.same s2, fun ls e H' keep hx' => ⟨rfl, ?_⟩⟩
  obtain ⟨g, hxs⟩ := out_ok e
  refine m.ok ls e x H' (fun b o eb => keep _ _ (s2 _ _ eb) (ne_of_none eb nx)) ⟨⟨dx, t, hx', ?_⟩, g⟩
  rw [← hxs]
  exact keep _ _ upd_same (Ne.symm nxt)
section
variable {P : Program} {w : World} {K : PySem.W.Frag} {mg : Str → Option Value} {base : Heap} {C fWhole fBetw fDay fChk cBC fBC cTM fTM : Addr} {dBC dTM : FuncData}
theorem scInit : FnScope ["self", "lengths"] ((["self"] : List Str) ++ (["lengths"] : List Str)) (defScope sInit) := ⟨rfl, rfl, rfl, by decide +kernel, rfl, by decide +kernel, by decide +kernel⟩
theorem ok_init {f : Addr} {fd fdC : FuncData} (F : Fun K "__init__" "Cycle.__init__" sInit f fd) (T : Txt K mg C fWhole fBetw fDay fChk) (GC : FnOk P w K mg base (L2.CX P w) 3 fChk fdC ["lengths"] (spChk cBC cTM)) (bC : Binds K fdC ["lengths"] []) (kC : PySem.W.keepIn K (.ref fChk) = true) :
    FnR P w K mg base (L2.CX P w) 4 f (spStarO C cBC cTM) := by
  obtain ⟨oc, od, kV, doc, pm, an, cdv, ct, osl, rfl, lk, hcd⟩ := F.ex
  refine StX.fn_star (sp := spInitO C cBC cTM) lk hcd scInit StX.cxUp (StX.bind_star1 (B := fun us => bindArgs (PySem.W.fnOf "__init__" "Cycle.__init__" (defArgs sInit) (defBody sInit) (defScope sInit) .none kV doc pm an cdv ct) ⟨us, []⟩) (p1 := "self") (pv := "lengths") (fun a => by rfl) fun a r rs => by rfl) fun A outer s H vs Q E hr h => ?_
  obtain ⟨p, t, dx, xs, rfl, hp, ht, av, er, k⟩ := h
  have nt : t ≠ p := ne_of ht hp (by intro z; cases z)
  refine ⟨_, (pss_cons (ps_expr (pe_call (E := E) GC hr rfl T.gChk kC bC .nil (passes_call (takes_of rfl rfl rfl rfl) fun _ _ _ _ h => h) (pa_cons (pv 1) pa_nil))) (pss_cons (ps_fld (pv 0) (pv 1) rfl)
    (pss_one (ps_fld (pv 0) (pe_callB (cr_sumT rfl) (by rfl) T.zSum (by decide +kernel) (pa_cons (pv 1) pa_nil)) rfl)))), ?_⟩
  refine ⟨_, rfl, t, xs, rfl, ht, av, er, fun ls e H1 s1 => ?_⟩
  obtain ⟨g, hxs⟩ := out_ok e
  have ht1 := s1 _ _ ht
  rw [hxs] at ht1
  refine ⟨_, rfl, _, rfl, p, C, dx, _, rfl, s1 _ _ hp, T.cl, T.nL, (by show 0 < 1000; decide), ?_⟩
  refine ⟨_, rfl, t, ls, rfl, SqT.of (by rw [upd_ne nt]; exact ht1), _, rfl, p, C, dx, _, rfl, upd_same, T.cl, T.nT, (by show 1 < 1000; decide), ?_⟩
  refine k ls e _ (fun b o e hb => ?_) upd_same
  rw [upd_ne hb, upd_ne hb]
  exact s1 _ _ e
/-- Cycle.of(lengths) -/
def spOf (C cBC cTM : Addr) : Sp := fun vs H Q E => ∃ (a : Addr) (xs : List V), vs = [.ref C, .ref a] ∧ (H a = some (.tup xs) ∨ H a = some (.lst xs)) ∧ MkC C cBC cTM xs H Q E
theorem scOf : FnScope ["cls", "lengths"] ["cls", "lengths"] (defScope sOf) := ⟨rfl, rfl, rfl, by decide +kernel, rfl, by decide +kernel, by decide +kernel⟩
theorem ok_of {f fI : Addr} {fd : FuncData} (F : Fun K "of" "Cycle.of" sOf f fd) (T : Txt K mg C fWhole fBetw fDay fChk) (M : Mk K C fI) (GI : FnR P w K mg base (L2.CX P w) 4 fI (spStarO C cBC cTM)) : FnOk P w K mg base (L2.CX P w) 6 f fd ["cls", "lengths"] (spOf C cBC cTM) := by
  refine F.okX scOf (fun vs H Q E h => ?_) (fun cdv A outer s H vs Q E hr h => ?_)
  · obtain ⟨a, xs, rfl, _⟩ := h
    rfl
  · obtain ⟨a, xs, rfl, ha, m⟩ := h
    refine ⟨_, pss_cons (ps_if (pt_not (pt_val (pe_callB call_isiT (by rfl) T.zIsi (by decide +kernel) (pa_cons (pv 1) (pa_cons (pe_tup (pa_cons (pe_bltn (v := .ty "list") (by rfl) T.zList (by decide +kernel) rfl) (pa_cons (pe_bltn (v := .ty "tuple") (by rfl) T.zTuple (by decide +kernel) rfl) pa_nil))) pa_nil))))) pss_never pss_nil)
      (pss_one (ps_ret (pe_makeStar (E := E) (i := 0) M GI (hr.mono (by decide)) rfl (.inl rfl) (passes_call (takes_of rfl rfl rfl rfl) fun _ _ _ _ h => h) (pv 1)))), ?_⟩
    refine ⟨_, rfl, (by show 2 ≤ sizeLine; decide), fun tp htp => ?_⟩
    have s0 : Same H (upd H tp (.tup [.ty "list", .ty "tuple"])) := same_new htp
    have m0 := m.same s0
    rcases ha with ha | ha
    · refine ⟨_, tp, _, _, [.type "list", .type "tuple"], true, rfl, upd_same, .cons (.ty _) (.cons (.ty _) .nil), .base (.tup (s0 _ _ ha)), kitAny_cons (b := false) (kit_ty (by decide +kernel)) (fun _ => kitAny_cons (b := true) (kit_ty (by decide +kernel)) (fun q => nomatch q) (fun _ => rfl)) (fun q => nomatch q), _, rfl, ?_⟩
      refine iteF ⟨rfl, _, rfl, a, xs, rfl, .inl (SqT.of (s0 _ _ ha)), fun x dx nx ndx nex => m0.star nx ndx nex⟩
    · refine ⟨_, tp, _, _, [.type "list", .type "tuple"], true, rfl, upd_same, .cons (.ty _) (.cons (.ty _) .nil), .base (.lst (s0 _ _ ha)), kitAny_cons (b := true) (kit_ty (by decide +kernel)) (fun q => nomatch q) (fun _ => rfl), _, rfl, ?_⟩
      refine iteF ⟨rfl, _, rfl, a, xs, rfl, .inr (SqL.of (s0 _ _ ha)), fun x dx nx ndx nex => m0.star nx ndx nex⟩
def spGetL (C : Addr) : Sp := fun vs H Q _ => ∃ (p : Addr) (ls : List Int), vs = [.ref p] ∧ CycAt C H p ls ∧ ∀ t, H t = some (.tup (ls.map V.int)) → Q (.ref t) H
theorem scLengths : FnScope ["self"] ["self"] (defScope sLengths) := ⟨rfl, rfl, rfl, by decide +kernel, rfl, by decide +kernel, by decide +kernel⟩
theorem ok_lengths {f : Addr} {fd : FuncData} (F : Fun K "lengths" "Cycle.lengths" sLengths f fd) (T : Txt K mg C fWhole fBetw fDay fChk) : FnOk P w K mg base CX0 1 f fd ["self"] (spGetL C) := by
  refine F.ok scLengths (fun vs H Q E h => ?_) (fun cdv A outer s H vs Q E hr h => ?_)
  · obtain ⟨p, ls, rfl, _⟩ := h
    rfl
  · obtain ⟨p, ls, rfl, ⟨⟨dx, t, h1, h2⟩, g⟩, k⟩ := h
    refine ⟨_, pss_one (ps_ret (pe_fld (pv 0) rfl)), ?_⟩
    exact ⟨_, rfl, p, C, dx, _, _, rfl, h1, T.cl, T.nL, flds_l _ _, k t h2⟩
theorem eqvAll_ints : ∀ ns ms : List Int, PyData.eqvAll (ns.map PyData.int) (ms.map PyData.int) = decide (ns = ms)
  | [], [] => by simp [PyData.eqvAll]
  | [], _ :: _ => by simp [PyData.eqvAll]
  | _ :: _, [] => by simp [PyData.eqvAll]
  | n :: r, m :: t => by
    simp only [List.map_cons, PyData.eqvAll, PyData.eqv, eqvAll_ints r t]
    rw [Bool.eq_iff_iff, Bool.and_eq_true, beq_iff_eq, decide_eq_true_eq, decide_eq_true_eq, List.cons.injEq]
theorem eqv_tints (xs ys : List Int) : PyData.eqv (.tuple (xs.map PyData.int)) (.tuple (ys.map PyData.int)) = decide (xs = ys) := eqvAll_ints xs ys
theorem shaped_tints (ns : List Int) : SeqAt.shaped (.tuple (ns.map PyData.int)) = true := by
  have h1 := PySem.W.depthAll_ints ns
  have h2 : PyData.depth (.tuple (ns.map PyData.int)) ≤ 64 := by simp only [PyData.depth]; omega
  show (PyData.canLay0 (.tuple (ns.map PyData.int)) && decide (PyData.depth (.tuple (ns.map PyData.int)) ≤ 64)) = true
  rw [Bool.and_eq_true]
  exact ⟨by simp only [PyData.canLay0]; exact PySem.W.canLayAll0_ints ns, decide_eq_true h2⟩
/-- what isinstance asks of a Cycle -/
structure CyK (K : PySem.W.Frag) (C : Addr) : Prop where
  ins : C8.InsC K C
  self : PySem.W.kitOne K (.ref C) (.ref C) = some true
theorem CyK.ty {K : PySem.W.Frag} {C : Addr} {H : Hp} {p : Addr} {ls : List Int} (M : CyK K C) (c : CycAt C H p ls) : TyX K H (.ref p) (.ref C) := let ⟨_, _, h, _⟩ := c.ob; let i := M.ins; .base (.ins h i.cl i.ha i.hn i.htk i.hm)
def spEqC (K : PySem.W.Frag) (C : Addr) : Sp := fun vs H Q _ => ∃ (p : Addr) (v : V) (ls : List Int), vs = [.ref p, v] ∧ CycAt C H p ls ∧
  ((∃ q ms, v = .ref q ∧ CycAt C H q ms ∧ Q (.bl (decide (ls = ms))) H) ∨ (∃ t, TyX K H v t ∧ PySem.W.kitOne K t (.ref C) = some false ∧ Q (.bl false) H))
theorem scEq : FnScope ["self", "other"] ["self", "other"] (defScope sEq) := ⟨rfl, rfl, rfl, by decide +kernel, rfl, by decide +kernel, by decide +kernel⟩
theorem ok_eq {f : Addr} {fd : FuncData} (F : Fun K "__eq__" "Cycle.__eq__" sEq f fd) (T : Txt K mg C fWhole fBetw fDay fChk) (M : CyK K C) : FnOk P w K mg base CX0 1 f fd ["self", "other"] (spEqC K C) := by
  refine F.ok scEq (fun vs H Q E h => ?_) (fun cdv A outer s H vs Q E hr h => ?_)
  · obtain ⟨p, v, ls, rfl, _⟩ := h
    rfl
  · obtain ⟨p, v, ls, rfl, c, h⟩ := h
    obtain ⟨dx, t, h1, h2⟩ := c.ob
    refine ⟨_, pss_one (ps_ret (pe_and (pe_callB call_isi (by rfl) T.zIsi (by decide +kernel) (pa_cons (pv 1) (pa_cons (pe_glob (v := .ref C) rfl T.gCyc rfl) pa_nil))) (pe_one (pe_cmpR (op_eqD hr.units) (pe_fld (pv 0) rfl) (pe_fld (pv 1) rfl) (nomark _))))), ?_⟩
    rcases h with ⟨q, ms, rfl, cq, k⟩ | ⟨ty, hty, kt, k⟩
    · obtain ⟨dy, u, g1, g2⟩ := cq.ob
      refine ⟨_, rfl, .ref q, .ref C, _, _, _, rfl, .own _, M.ty cq, M.self, _, rfl, ?_⟩
      refine iteT ⟨_, rfl, p, C, dx, _, _, rfl, h1, T.cl, T.nL, flds_l _ _, _, rfl, q, C, dy, _, _, rfl, g1, T.cl, T.nL, flds_l _ _, ?_⟩
      refine ⟨_, _, .tup (SqT.of h2) (dp_ints ls), .tup (SqT.of g2) (dp_ints ms), shaped_tints ls, shaped_tints ms, ?_⟩
      rw [eqv_tints]
      exact k
    · exact ⟨_, rfl, v, .ref C, _, _, false, rfl, .own _, hty, kt, _, rfl, iteF k⟩
/-- the text of lengths -/
def textL (ls : List Int) : Str := Txt.join " " (ls.map fun l => (toString l : String))
def spStrC (C : Addr) : Sp := fun vs H Q _ => ∃ (p : Addr) (ls : List Int), vs = [.ref p] ∧ CycAt C H p ls ∧ ∀ H', Same H H' → Q (.str (textL ls)) H'
theorem int_len {l : Int} (h : 1 ≤ l ∧ l ≤ 60) : (Str.ofString (toString l)).length ≤ 3 := by
  have e : (10 : Nat) ^ 2 = 100 := by decide
  have h2 : l.natAbs < 10 ^ 2 := by rw [e]; omega
  rw [PySem.ofString_length]
  exact int_text_length_le10 (k := 2) (by decide) h2
theorem log60 {n : Int} (h0 : 0 ≤ n) (h : n ≤ 1000) : n.natAbs.log2 < 1920 := by
  have e2 : (2 : Nat) ^ 64 = 18446744073709551616 := by decide
  exact Nat.lt_trans (PySem.Flt.log2_lt_of (k := 64) (by decide) (by rw [e2]; omega)) (by decide)
theorem lens_le : ∀ {ls : List Int}, (∀ l ∈ ls, 1 ≤ l ∧ l ≤ 60) → ((ls.map fun l => (Str.ofString (toString l : String))).map (·.length)).sum ≤ 3 * ls.length
  | [], _ => by simp
  | a :: r, h => by
    have h1 := int_len (h a (by simp))
    have h2 := lens_le (ls := r) fun l hl => h l (by simp [hl])
    simp only [List.map_cons, List.sum_cons, List.length_cons]
    omega
theorem scStr : FnScope ["self", "length"] ["self"] (defScope sStr) := ⟨rfl, rfl, rfl, by decide +kernel, rfl, by decide +kernel, by decide +kernel⟩
theorem ok_str {f : Addr} {fd : FuncData} (F : Fun K "__str__" "Cycle.__str__" sStr f fd) (T : Txt K mg C fWhole fBetw fDay fChk) : FnOk P w K mg base CX0 1 f fd ["self"] (spStrC C) := by
  refine F.ok scStr (fun vs H Q E h => ?_) (fun cdv A outer s H vs Q E hr h => ?_)
  · obtain ⟨p, ls, rfl, _⟩ := h
    rfl
  · obtain ⟨p, ls, rfl, ⟨⟨dx, t, h1, h2⟩, g⟩, k⟩ := h
    refine ⟨_, pss_one (ps_ret (pe_join pe_str (pe_lc (own := [("length", 1)]) (g := gName 1) (tt := tYes) rfl scStr.nd (pi_tup (pe_fld (pv 0) rfl)) (blkOk_by (N := ["self", "length"]) (sc := defScope sStr) (by decide +kernel)) (fun _ _ _ _ _ => pg_name (i := 1) scStr.nd rfl (Or.inl rfl)) (fun _ _ _ _ _ => pts_nil)
      (fun _ _ _ _ _ => pe_callTy call_str_int (by rfl) T.zStr (by decide +kernel) (pa_cons (pv 1) pa_nil))))), ?_⟩
    refine ⟨⟨_, rfl⟩, _, rfl, p, C, dx, _, _, rfl, h1, T.cl, T.nL, flds_l _ _, t, rfl, ⟨_, SqT.of h2⟩, fun D hD => ?_⟩
    refine lc_tup (K := K) (a := t) (xs := ls.map V.int) (fun i H' => H' D = some (.lst ((ls.take i).map fun l => V.str (toString l : String))) ∧ ∀ b o, b ≠ D → H b = some o → H' b = some o) ⟨upd_same, fun b o nb e => by rw [upd_ne nb]; exact e⟩ (fun i H' _ ⟨_, q⟩ => SqT.of (q _ _ (ne_of_none h2 hD) h2)) ?_ ?_
    · rintro i y H' hy ⟨hD', q⟩
      obtain ⟨l, hl, rfl⟩ : ∃ l, ls[i]? = some l ∧ y = V.int l := by
        rw [List.getElem?_map] at hy
        cases e : ls[i]? with
        | none => rw [e] at hy; cases hy
        | some z => rw [e] at hy; exact ⟨z, rfl, (Option.some.inj hy).symm⟩
      have gl := g.pos l (List.mem_of_getElem? hl)
      refine ⟨rfl, ?_⟩
      unfold tYes
      dsimp only
      rw [if_pos rfl]
      refine ⟨_, rfl, l, rfl, log60 (by omega) (by omega), _, hD', ?_, ?_, fun b o nb e => ?_⟩
      · rw [List.length_map]
        have := g.few
        exact Nat.lt_of_le_of_lt (List.length_take_le _ _) (Nat.lt_of_lt_of_le (show i < 13 by have := (List.getElem?_eq_some_iff.mp hl).1; omega) (by decide))
      · rw [upd_same, List.take_succ, hl]
        simp
      · rw [upd_ne nb]
        exact q b o nb e
    · rintro H4 ⟨hD', q⟩
      rw [List.length_map, List.take_of_length_le (Nat.le_refl _)] at hD'
      refine ⟨" ", D, ls.map fun l => (toString l : String), rfl, rfl, .inl (SqL.of (by rw [hD', List.map_map]; rfl)), ?_, k _ fun b o e => q b o (ne_of_none e hD) e⟩
      have hs := lens_le g.pos
      have hl := g.few
      have l1 : (Str.ofString " ").length = 1 := rfl
      rw [l1, List.length_map]
      have : ((ls.map fun l => (toString l : String)).map (fun s : String => (Str.ofString s).length)).sum = ((ls.map fun l => (Str.ofString (toString l : String))).map (·.length)).sum := by rw [List.map_map, List.map_map]; rfl
      omega
end
end My
namespace My
open PySem PySem.Spec PyProof.Rows L2
def nine61 : Str := repS "9" 61
def numsW : List Str := (List.range 60).map fun (i : Nat) => (toString (1 + (i : Int)) : String)
def oddW : List Str := ["", "0", "1", "7", "60", "61", "07", "-1", "+1", "1.0", "7\n", "x", "1_0", nine61, "30"]
def WSet : List Str := numsW ++ oddW
def valW (w : Str) : Option Int :=
  if Txt.isascii (Txt.removeprefix w "-") = false then none else if Txt.isdigit (Txt.removeprefix w "-") = false then none else if 60 < ((Txt.removeprefix w "-").length : Int) then none
  else if (Txt.startswith (Txt.removeprefix w "-") "0" && !decide (V.str w = V.str "0")) = true then none else PySem.intText? w
def valOf (w : Str) : Int := (valW w).getD 0
def okW (w : Str) : Bool := match valW w with
  | some v => decide (1 ≤ v) && decide (v ≤ 60)
  | none => false
/-- int(w), where it comes to it, is one -/
def reachW (w : Str) : Bool := Txt.isascii (Txt.removeprefix w "-") && Txt.isdigit (Txt.removeprefix w "-") && decide (((Txt.removeprefix w "-").length : Int) ≤ 60) && !(Txt.startswith (Txt.removeprefix w "-") "0" && !decide (V.str w = V.str "0"))
theorem w_len : WSet.all (fun w => decide (w.length ≤ 61)) = true := by decide +kernel
theorem w_sp : WSet.all (fun w => !(TL.tl w).contains 32) = true := by decide +kernel
theorem w_int : WSet.all (fun w => !reachW w || (PySem.intText? w).isSome) = true := by decide +kernel
theorem w_ok : WSet.all (fun w => okW w == numsW.contains w) = true := by decide +kernel
theorem w_all {p : Str → Bool} (h : WSet.all p = true) {w : Str} (m : w ∈ WSet) : p w = true := List.all_eq_true.mp h w m
theorem W_len {w : Str} (m : w ∈ WSet) : w.length ≤ 61 := of_decide_eq_true (w_all w_len m)
theorem W_sp {w : Str} (m : w ∈ WSet) : 32 ∉ TL.tl w := fun h => by
  have := w_all w_sp m
  rw [Bool.not_eq_true', List.contains_iff_mem.mpr h] at this
  cases this
theorem W_ok {w : Str} (m : w ∈ WSet) : numsW.contains w = okW w := (beq_iff_eq.mp (w_all w_ok m)).symm
theorem W_int {w : Str} (m : w ∈ WSet) (r : reachW w = true) : ∃ n, PySem.intText? w = some n := by
  have := w_all w_int m
  rw [r] at this
  exact Option.isSome_iff_exists.mp this
theorem ok_val {w : Str} (h : okW w = true) : valW w = some (valOf w) ∧ 1 ≤ valOf w ∧ valOf w ≤ 60 ∧ PySem.intText? w = some (valOf w) := by
  unfold okW at h
  unfold valOf
  cases e : valW w with
  | none => rw [e] at h; cases h
  | some v =>
    rw [e] at h
    have h' := h
    rw [Bool.and_eq_true, decide_eq_true_eq, decide_eq_true_eq] at h'
    refine ⟨rfl, h'.1, h'.2, ?_⟩
    unfold valW at e
    split at e
    · cases e
    · split at e
      · cases e
      · split at e
        · cases e
        · split at e
          · cases e
          · exact e
theorem w_rp : WSet.all (fun w => decide ((Txt.removeprefix w "-").length ≤ 61)) = true := by decide +kernel
theorem W_rp {w : Str} (m : w ∈ WSet) : (Txt.removeprefix w "-").length ≤ 61 := of_decide_eq_true (w_all w_rp m)
theorem split_W {ws : List Str} (ne : ws ≠ []) (h : ∀ w ∈ ws, w ∈ WSet) : Txt.split (Txt.join " " ws) " " = ws := TL.split_join (y := " ") (s := 32) (S := []) (by decide +kernel) (by decide +kernel) ne fun w hw => W_sp (h w hw)
theorem lens_W : ∀ {ws : List Str}, (∀ w ∈ ws, w ∈ WSet) → (ws.map (·.length)).sum ≤ 61 * ws.length
  | [], _ => by simp
  | a :: r, h => by
    have h1 := W_len (h a (by simp))
    have h2 := lens_W (ws := r) fun w hw => h w (by simp [hw])
    simp only [List.map_cons, List.sum_cons, List.length_cons]
    omega
theorem line_len {ws : List Str} (h : ∀ w ∈ ws, w ∈ WSet) : (Txt.join " " ws).length ≤ 62 * ws.length := by
  rw [TL.join_eq]
  have h1 := StrLaws.join_length_le " " ws
  have h2 := lens_W h
  have h3 : (Str.ofString " ").length = 1 := rfl
  rw [h3] at h1
  omega
/-- what a line of these words comes to: cyc k says that word k can't stand -/
def badW : List Str → Option Nat
  | [] => none
  | w :: r => if okW w then (badW r).map (· + 1) else some 0
def outR (ws : List Str) : Out := match badW ws with
  | some k => .cyc k
  | none => outOf ((ws.map valOf).map V.int)
theorem badW_at : ∀ {ws : List Str} {i : Nat} {w : Str}, ws[i]? = some w → (∀ j, j < i → ∀ y, ws[j]? = some y → okW y = true) → okW w = false → badW ws = some i
  | [], i, w, h, _, _ => by simp at h
  | y :: r, 0, w, h, _, e => by
    have z : y = w := by simpa using h
    unfold badW
    rw [z, e]
    rfl
  | y :: r, i + 1, w, h, a, e => by
    have e0 := a 0 (Nat.succ_pos _) y (by simp)
    unfold badW
    rw [e0, if_pos rfl, badW_at (ws := r) (i := i) (w := w) (by simpa using h) (fun j hj z hz => a (j + 1) (Nat.succ_lt_succ hj) z (by simpa using hz)) e]
    rfl
theorem badW_all : ∀ {ws : List Str}, (∀ (j : Nat) (y : Str), ws[j]? = some y → okW y = true) → badW ws = none
  | [], _ => rfl
  | w :: r, h => by
    unfold badW
    rw [h 0 w (by simp), if_pos rfl, badW_all (ws := r) fun j y hy => h (j + 1) y (by simpa using hy)]
    rfl
theorem badW_none : ∀ {ws : List Str}, badW ws = none → ∀ w ∈ ws, okW w = true
  | [], _, w, h => absurd h (by simp)
  | w :: r, h, y, hy => by
    unfold badW at h
    by_cases e : okW w = true
    · rw [if_pos e] at h
      rcases List.mem_cons.mp hy with z | z
      · rw [z]; exact e
      · exact badW_none (Option.map_eq_none_iff.mp h) y z
    · rw [if_neg e] at h
      cases h
theorem good_all : ∀ {ls : List Int}, (∀ l ∈ ls, 1 ≤ l ∧ l ≤ 60) → firstBad (ls.map V.int) = none
  | [], _ => rfl
  | a :: r, h => by
    have h1 := h a (by simp)
    show (if okV (.int a) = true then (firstBad (r.map V.int)).map (· + 1) else some 0) = none
    have e : okV (.int a) = true := by show (decide (1 ≤ a) && decide (a ≤ 60)) = true; rw [decide_eq_true h1.1, decide_eq_true h1.2]; rfl
    rw [if_pos e, good_all (ls := r) fun l hl => h l (by simp [hl])]
    rfl
theorem int_back : ∀ ls : List Int, (ls.map V.int).map intOf = ls
  | [] => rfl
  | a :: r => congrArg (a :: ·) (int_back r)
theorem vals_ok {ws : List Str} (h : badW ws = none) : ∀ l ∈ ws.map valOf, 1 ≤ l ∧ l ≤ 60 := fun l hl => by
  obtain ⟨w, hw, rfl⟩ := List.mem_map.mp hl
  have := ok_val (badW_none h w hw)
  exact ⟨this.2.1, this.2.2.1⟩
theorem out_vals {ls : List Int} (h : ∀ l ∈ ls, 1 ≤ l ∧ l ≤ 60) (ne : ls ≠ []) : outOf (ls.map V.int) = if 12 < ls.length then .many "blocks" 12 else if 60 < ls.sum then .many "days" 60 else .ok ls := by
  have n0 : ¬ ls.length = 0 := fun z => ne (List.length_eq_zero_iff.mp z)
  unfold outOf
  rw [good_all h]
  dsimp only
  rw [List.length_map, int_back, if_neg n0]
/-- an instance of Words: its words at L, the next one's index -/
structure WdAt (Cw : Addr) (H : Hp) (p L : Addr) (ws : List Str) (i : Nat) : Prop where
  ob : ∃ (dx : Addr) (fs : List (Str × V)), H p = some (.ins Cw dx fs) ∧ fs.lookup ("_words" : Str) = some (.ref L) ∧ fs.lookup ("_row" : Str) = some (.int 0) ∧ fs.lookup ("_at" : Str) = some (.int (i : Nat)) ∧ fs.lookup ("is_over" : Str) = none ∧ fs.lookup ("take_integer" : Str) = none ∧ fs.length ≤ 3 + i
  li : H L = some (.lst (ws.map V.str))
theorem WdAt.same {Cw : Addr} {H H' : Hp} {p L : Addr} {ws : List Str} {i : Nat} (o : WdAt Cw H p L ws i) (s : Same H H') : WdAt Cw H' p L ws i :=
  ⟨let ⟨dx, fs, h, r⟩ := o.ob; ⟨dx, fs, s _ _ h, r⟩, s _ _ o.li⟩
/-- all but the object at p, an instance, is as it was -/
def Keeps (p : Addr) (H H' : Hp) : Prop := ∀ b o, H b = some o → b ≠ p → H' b = some o
theorem keeps_same {p : Addr} {H H' : Hp} (s : Same H H') : Keeps p H H' := fun b o e _ => s b o e
theorem Keeps.trans {p : Addr} {H H1 H2 : Hp} (a : Keeps p H H1) (b : Keeps p H1 H2) : Keeps p H H2 := fun c o e n => b c o (a c o e n) n
/-- what the module has for words -/
structure TxtW (K : PySem.W.Frag) (mg : Str → Option Value) (Cw fWr fOv fTk : Addr) : Prop where
  cw : Cls K Cw
  nW : NoAttr K Cw "_words"
  nR : NoAttr K Cw "_row"
  nA : NoAttr K Cw "_at"
  gWds : mg "Words" = some (.ref Cw)
  gWrit : mg "written_integer" = some (.ref fWr)
  mOv : Meth K Cw "is_over" fOv
  mTk : Meth K Cw "take_integer" fTk
/-- an error with two fields -/
structure ErM2 (P : Program) (w : World) (K : PySem.W.Frag) (mg : Str → Option Value) (base : Heap) (x f g : Str) (C fI : Addr) (fd : FuncData) : Prop where
  c2 : ErC K mg x f C fI
  c3 : ErC K mg x g C fI
  F2 : FnOk P w K mg base CX0 1 fI fd ["self", f, g] (spErI2 f g C)
  b2 : Binds K fd ["self", f, g] []
section
variable {P : Program} {w : World} {K : PySem.W.Frag} {mg : Str → Option Value} {base : Heap} {C Cw fWhole fBetw fDay fChk fWr fOv fTk cBT fBT : Addr} {dBT dWr dOv : FuncData}
def optV : Option Int → V
  | some v => .int v
  | none => .non
def spWrit : Sp := fun vs H Q _ => ∃ w : Str, vs = [.str w] ∧ w ∈ WSet ∧ Q (optV (valW w)) H
theorem scWrit : FnScope ["word", "figures"] ["word"] (defScope sWrit) := ⟨rfl, rfl, rfl, by decide +kernel, rfl, by decide +kernel, by decide +kernel⟩
theorem ok_writ {f : Addr} {fd : FuncData} (F : Fun K "written_integer" "written_integer" sWrit f fd) (T : Txt K mg C fWhole fBetw fDay fChk) : FnOk P w K mg base CX0 1 f fd ["word"] spWrit := by
  refine F.ok scWrit (fun vs H Q E h => ?_) (fun cdv A outer s H vs Q E hr h => ?_)
  · obtain ⟨w, rfl, _⟩ := h
    rfl
  · obtain ⟨w, rfl, m, k⟩ := h
    refine ⟨_, pss_cons (ps_set (i := 1) scWrit.nd rfl (Or.inl rfl) (pe_m1 PySem.F.slot_str_removeprefix PySem.F.type_str_removeprefix mt_removeprefix (pv 0) pe_str))
      (pss_cons (ps_if (PW.pt (pw_or (pt_not (pt_val (pe_m0 PySem.F.slot_str_isascii PySem.F.type_str_isascii mt_isascii (pv 1)))) (pw_or (pt_not (pt_val (pe_m0 PySem.F.slot_str_isdigit PySem.F.type_str_isdigit mt_isdigit (pv 1))))
          (pw_or1 (pt_cmpR op_gt (pe_callB call_len_str (by rfl) T.zLen PySem.boot_len (pa_cons (pv 1) pa_nil)) pe_int (nomark _)))))) (pss_one (ps_ret pe_non)) pss_nil)
      (pss_cons (ps_if (PW.pt (pw_and (pt_val (pe_m1 PySem.F.slot_str_startswith PySem.F.type_str_startswith mt_startswith (pv 1) pe_str)) (pw_and1 (pt_cmpR op_ne (pv 0) pe_str (nomark _))))) (pss_one (ps_ret pe_non)) pss_nil)
      (pss_one (ps_ret (pe_callTy call_int_str (by rfl) T.zInt (by decide +kernel) (pa_cons (pv 0) pa_nil)))))), ?_⟩
    have l61 := W_len m
    have lf := W_rp m
    have kk : Q (optV (valW w)) H := k
    unfold valW at kk
    refine ⟨_, rfl, ⟨w, rfl⟩, w, "-", rfl, rfl, Nat.le_of_lt (small1000 (by omega)), ?_⟩
    refine ⟨_, rfl, ⟨_, rfl⟩, _, rfl, rfl, trivial, _, rfl, ?_⟩
    cases e1 : Txt.isascii (Txt.removeprefix w "-") with
    | false => rw [if_pos e1] at kk; exact iteT kk
    | true =>
      rw [if_neg (by rw [e1]; decide)] at kk
      refine iteF ⟨_, rfl, ⟨_, rfl⟩, _, rfl, rfl, trivial, _, rfl, ?_⟩
      cases e2 : Txt.isdigit (Txt.removeprefix w "-") with
      | false => rw [if_pos e2] at kk; exact iteT kk
      | true =>
        rw [if_neg (by rw [e2]; decide)] at kk
        refine iteF ⟨_, rfl, _, rfl, Nat.le_of_lt (small1000 (by omega)), _, _, rfl, rfl, _, rfl, ?_⟩
        by_cases e3 : 60 < ((Txt.removeprefix w "-").length : Int)
        · rw [if_pos e3] at kk
          rw [decide_eq_true e3]
          exact iteT kk
        · rw [if_neg e3] at kk
          rw [decide_eq_false e3]
          refine iteF ⟨_, rfl, ⟨_, rfl⟩, _, "0", rfl, rfl, _, rfl, ?_⟩
          have go : (Txt.startswith (Txt.removeprefix w "-") "0" && !decide (V.str w = V.str "0")) = false → tRet (tCB (fun xs H Q => ∃ a n, xs = [.str a] ∧ PySem.intText? a = some n ∧ a.length ≤ 640 ∧ Q (.int n) H) (tCons (tVar 0) tNil)) { nx := fun x H' => Q V.non H', rt := Q } [some (.str w), some (.str (Txt.removeprefix w "-"))] H := fun e4 => by
            rw [if_neg (by rw [e4]; decide)] at kk
            have rw_ : reachW w = true := by
              unfold reachW
              rw [e1, e2, decide_eq_true (show ((Txt.removeprefix w "-").length : Int) ≤ 60 by omega), e4]
              rfl
            obtain ⟨n, hn⟩ := W_int m rw_
            rw [hn] at kk
            exact ⟨_, rfl, w, n, rfl, hn, by omega, kk⟩
          cases e4 : Txt.startswith (Txt.removeprefix w "-") "0" with
          | false => exact iteF (go (by rw [e4]; rfl))
          | true =>
            refine iteT ⟨_, rfl, rfl, _, rfl, ?_⟩
            cases e5 : decide (V.str w = V.str "0") with
            | false =>
              rw [if_pos (by rw [e4, e5]; rfl)] at kk
              exact iteT kk
            | true => exact iteF (go (by rw [e4, e5]; rfl))
def spOver (Cw : Addr) : Sp := fun vs H Q _ => ∃ (p L : Addr) (ws : List Str) (i : Nat), vs = [.ref p] ∧ WdAt Cw H p L ws i ∧ Q (.bl (decide (i = ws.length))) H
theorem scOver : FnScope ["self"] ["self"] (defScope sOver) := ⟨rfl, rfl, rfl, by decide +kernel, rfl, by decide +kernel, by decide +kernel⟩
theorem ok_over {f : Addr} {fd : FuncData} (F : Fun K "is_over" "Words.is_over" sOver f fd) (T : Txt K mg C fWhole fBetw fDay fChk) (TW : TxtW K mg Cw fWr fOv fTk) : FnOk P w K mg base CX0 1 f fd ["self"] (spOver Cw) := by
  refine F.ok scOver (fun vs H Q E h => ?_) (fun cdv A outer s H vs Q E hr h => ?_)
  · obtain ⟨p, L, ws, i, rfl, _⟩ := h
    rfl
  · obtain ⟨p, L, ws, i, rfl, o, k⟩ := h
    obtain ⟨dx, fs, h1, hW, hR, hA, _, _, hl⟩ := o.ob
    refine ⟨_, pss_one (ps_ret (pe_cmpR op_eq (pe_fld (pv 0) rfl) (pe_callB call_len_seq (by rfl) T.zLen PySem.boot_len (pa_cons (pe_fld (pv 0) rfl) pa_nil)) (nomark _))), ?_⟩
    refine ⟨_, rfl, p, Cw, dx, _, _, rfl, h1, TW.cw, TW.nA, hA, _, rfl, p, Cw, dx, _, _, rfl, h1, TW.cw, TW.nW, hW, L, _, rfl, .inl (SqL.of o.li), rfl, ?_⟩
    rw [List.length_map]
    have e : decide (V.int (i : Nat) = V.int (ws.length : Nat)) = decide (i = ws.length) := by
      rw [Bool.eq_iff_iff, decide_eq_true_eq, decide_eq_true_eq]
      constructor
      · intro z
        have := V.int.inj z
        omega
      · intro z
        rw [z]
    rw [e]
    exact k
def spTake (Cw cBT : Addr) : Sp := fun vs H Q E => ∃ (p L : Addr) (ws : List Str) (i : Nat), vs = [.ref p, .int 1, .int 60] ∧ WdAt Cw H p L ws i ∧ (∀ x ∈ ws, x ∈ WSet) ∧ ws.length ≤ 200 ∧ i ≤ ws.length ∧
  (∀ x, ws[i]? = some x → okW x = true → ∀ H', Keeps p H H' → WdAt Cw H' p L ws (i + 1) → Q (.int (valOf x)) H') ∧
  ((∀ x, ws[i]? = some x → okW x = false) → ∀ dd H', Same H H' → H' dd = some (.xd [("word", .int (i : Nat)), ("line", .int 0)]) → E (.ref cBT) (some dd) H')
theorem scTake : FnScope ["self", "low", "high", "value"] ["self", "low", "high"] (defScope sTake) := ⟨rfl, rfl, rfl, by decide +kernel, rfl, by decide +kernel, by decide +kernel⟩
theorem ok_take {f : Addr} {fd : FuncData} (F : Fun K "take_integer" "Words.take_integer" sTake f fd) (TW : TxtW K mg Cw fWr fOv fTk) (OV : FnOk P w K mg base CX0 1 fOv dOv ["self"] (spOver Cw)) (bOv : Binds K dOv ["self"] []) (WR : FnOk P w K mg base CX0 1 fWr dWr ["word"] spWrit) (bWr : Binds K dWr ["word"] []) (kWr : PySem.W.keepIn K (.ref fWr) = true)
    (Z : ErM2 P w K mg base "BadText" "line" "word" cBT fBT dBT) : FnOk P w K mg base (L2.CX P w) 3 f fd ["self", "low", "high"] (spTake Cw cBT) := by
  refine F.okX scTake (fun vs H Q E h => ?_) (fun cdv A outer s H vs Q E hr h => ?_)
  · obtain ⟨p, L, ws, i, rfl, _⟩ := h
    rfl
  · obtain ⟨p, L, ws, i, rfl, o, hW, hl, hi, k1, k0⟩ := h
    have hr1 : Room 1 _ := hr.mono (by decide)
    obtain ⟨dx, fs, h1, fW, fR, fA, fO, fT, fl⟩ := o.ob
    refine ⟨_, pss_cons (ps_if (pt_val (pe_meth0 (pv 0) TW.cw TW.mOv OV hr1 bOv .nil pass0)) (pss_one (ps_raise rfl (takes_of rfl rfl rfl rfl) (pmk_oex Z.c2.oex Z.c2.iC Z.c2.tI Z.F2 hr Z.b2 .nil pass0 rfl Z.c2.g (pa_cons (pe_fld (pv 0) rfl) (pa_cons (pe_fld (pv 0) rfl) pa_nil))))) pss_nil)
      (pss_cons (ps_set (i := 3) scTake.nd rfl (Or.inl rfl) (pe_call WR hr1 rfl TW.gWrit kWr bWr .nil pass0 (pa_cons (pe_ix ix_list (pe_fld (pv 0) rfl) (pe_fld (pv 0) rfl) (fun _ _ => rfl)) pa_nil)))
      (pss_cons (ps_if (PW.pt (pw_or (pt_cmp (pc_isN (pv 3))) (pw_or (pt_cmpR op_lt (pv 3) (pv 1) (nomark _)) (pw_or1 (pt_cmpR op_gt (pv 3) (pv 2) (nomark _)))))) (pss_one (ps_raise rfl (takes_of rfl rfl rfl rfl) (pmk_oex Z.c2.oex Z.c2.iC Z.c2.tI Z.F2 hr Z.b2 .nil pass0 rfl Z.c2.g (pa_cons (pe_fld (pv 0) rfl) (pa_cons (pe_fld (pv 0) rfl) pa_nil))))) pss_nil)
      (pss_cons (ps_fld (pv 0) (pe_op op_add (pe_fld (pv 0) rfl) pe_int) rfl)
      (pss_one (ps_ret (pv 3)))))), ?_⟩
    refine ⟨_, rfl, p, dx, _, rfl, h1, fO, p, L, ws, i, rfl, o, _, rfl, ?_⟩
    by_cases e : i = ws.length
    · rw [decide_eq_true e]
      have no : ∀ x, ws[i]? = some x → okW x = false := fun x hx => by rw [e] at hx; simp at hx
      exact iteT ⟨_, rfl, p, Cw, dx, _, _, rfl, h1, TW.cw, TW.nR, fR, _, rfl, p, Cw, dx, _, _, rfl, h1, TW.cw, TW.nA, fA, er_made2 (k0 no)⟩
    · rw [decide_eq_false e]
      obtain ⟨x, hx⟩ : ∃ x, ws[i]? = some x := ⟨_, List.getElem?_eq_getElem (by omega)⟩
      have hxV : (ws.map V.str)[i]? = some (V.str x) := by rw [List.getElem?_map, hx]; rfl
      have mx := hW x (List.mem_of_getElem? hx)
      refine iteF ⟨_, rfl, p, Cw, dx, _, _, rfl, h1, TW.cw, TW.nW, fW, _, rfl, p, Cw, dx, _, _, rfl, h1, TW.cw, TW.nA, fA, L, _, _, _, rfl, rfl, SqL.of o.li, atI_nat hxV, x, rfl, mx, ?_⟩
      have bad : okW x = false → ∀ y, ws[i]? = some y → okW y = false := fun q y hy => by rw [hx] at hy; cases hy; exact q
      cases e2 : valW x with
      | none =>
        have q : okW x = false := by unfold okW; rw [e2]
        refine ⟨_, rfl, _, rfl, iteT ⟨_, rfl, p, Cw, dx, _, _, rfl, h1, TW.cw, TW.nR, fR, _, rfl, p, Cw, dx, _, _, rfl, h1, TW.cw, TW.nA, fA, er_made2 (k0 (bad q))⟩⟩
      | some v =>
        refine ⟨_, rfl, _, rfl, iteF ⟨_, rfl, _, rfl, _, _, rfl, rfl, _, rfl, ?_⟩⟩
        by_cases c1 : v < 1
        · have q : okW x = false := by unfold okW; rw [e2]; show (decide (1 ≤ v) && decide (v ≤ 60)) = false; rw [decide_eq_false (by omega)]; rfl
          rw [decide_eq_true c1]
          exact iteT ⟨_, rfl, p, Cw, dx, _, _, rfl, h1, TW.cw, TW.nR, fR, _, rfl, p, Cw, dx, _, _, rfl, h1, TW.cw, TW.nA, fA, er_made2 (k0 (bad q))⟩
        · rw [decide_eq_false c1]
          refine iteF ⟨_, rfl, _, rfl, _, _, rfl, rfl, _, rfl, ?_⟩
          by_cases c2 : 60 < v
          · have q : okW x = false := by unfold okW; rw [e2]; show (decide (1 ≤ v) && decide (v ≤ 60)) = false; rw [decide_eq_false (show ¬ v ≤ 60 by omega), Bool.and_false]
            rw [decide_eq_true c2]
            exact iteT ⟨_, rfl, p, Cw, dx, _, _, rfl, h1, TW.cw, TW.nR, fR, _, rfl, p, Cw, dx, _, _, rfl, h1, TW.cw, TW.nA, fA, er_made2 (k0 (bad q))⟩
          · have q : okW x = true := by unfold okW; rw [e2]; show (decide (1 ≤ v) && decide (v ≤ 60)) = true; rw [decide_eq_true (show 1 ≤ v by omega), decide_eq_true (show v ≤ 60 by omega)]; rfl
            rw [decide_eq_false c2]
            have ev : v = valOf x := by unfold valOf; rw [e2]; rfl
            have fl' := length_putF "_at" (.int ((i : Int) + 1)) fs
            refine iteF ⟨_, rfl, p, Cw, dx, _, _, rfl, h1, TW.cw, TW.nA, fA, _, _, rfl, rfl, _, rfl, p, Cw, dx, _, rfl, h1, TW.cw, TW.nA, (by omega), _, rfl, ?_⟩
            show Q (.int v) _
            rw [ev]
            refine k1 x hx q _ (fun b ob eb nb => by rw [upd_ne nb]; exact eb) ⟨⟨dx, _, upd_same, ?_, ?_, ?_, ?_, ?_, ?_⟩, ?_⟩
            · rw [lookup_putF, if_neg (by decide +kernel)]; exact fW
            · rw [lookup_putF, if_neg (by decide +kernel)]; exact fR
            · rw [lookup_putF, if_pos rfl]
              have : ((i + 1 : Nat) : Int) = (i : Int) + 1 := by omega
              rw [this]
            · rw [lookup_putF, if_neg (by decide +kernel)]; exact fO
            · rw [lookup_putF, if_neg (by decide +kernel)]; exact fT
            · exact Nat.le_trans (length_putF _ _ fs) (by omega)
            · rw [upd_ne (ne_of o.li h1 (by intro z; cases z))]
              exact o.li
end
end My
namespace My
open PySem PySem.Spec PyProof.Rows L2
def badX (k : Nat) : List (Str × V) := [("word", .int (k : Nat)), ("line", .int 0)]
/-- what is wished of the errors of a read -/
def ErrsR (cBT cTM : Addr) (o : Out) (H : Hp) (E : XK) : Prop :=
  match o with
  | .cyc k => ∀ dd H', Same H H' → H' dd = some (.xd (badX k)) → E (.ref cBT) (some dd) H'
  | .many w n => ∀ dd H', Same H H' → H' dd = some (.xd [("most", .int n), ("what", .str w)]) → E (.ref cTM) (some dd) H'
  | .ok _ => True
theorem ErrsR.same {cBT cTM : Addr} {o : Out} {H H1 : Hp} {E : XK} (h : ErrsR cBT cTM o H E) (s : Same H H1) : ErrsR cBT cTM o H1 E := by
  cases o with
  | cyc k => exact fun dd H' s' => h dd H' (s.trans s')
  | many w n => exact fun dd H' s' => h dd H' (s.trans s')
  | ok ls => trivial
/-- a line of words -/
structure LineOk (ws : List Str) : Prop where
  ne : ws ≠ []
  mem : ∀ w ∈ ws, w ∈ WSet
  few : ws.length ≤ 200
section
variable {P : Program} {w : World} {K : PySem.W.Frag} {mg : Str → Option Value} {base : Heap} {C Cw fWhole fBetw fDay fChk fWr fOv fTk fWI fWO fTL cBT fBT cBC cTM : Addr} {dBT dWr dOv dTk dWI dWO dTL : FuncData}
def spWdsI (Cw : Addr) : Sp := fun vs H Q _ => ∃ (p dx : Addr) (ws : List Str), vs = [.ref p, .str (Txt.join " " ws), .int 0] ∧ H p = some (.ins Cw dx []) ∧ LineOk ws ∧ ∀ L H', Keeps p H H' → WdAt Cw H' p L ws 0 → Q .non H'
theorem scWdsI : FnScope ["self", "text", "row"] ["self", "text", "row"] (defScope sWdsI) := ⟨rfl, rfl, rfl, by decide +kernel, rfl, by decide +kernel, by decide +kernel⟩
theorem ok_wdsI {f : Addr} {fd : FuncData} (F : Fun K "__init__" "Words.__init__" sWdsI f fd) (TW : TxtW K mg Cw fWr fOv fTk) : FnOk P w K mg base CX0 1 f fd ["self", "text", "row"] (spWdsI Cw) := by
  refine F.ok scWdsI (fun vs H Q E h => ?_) (fun cdv A outer s H vs Q E hr h => ?_)
  · obtain ⟨p, dx, ws, rfl, _⟩ := h
    rfl
  · obtain ⟨p, dx, ws, rfl, hp, lo, k⟩ := h
    refine ⟨_, pss_cons (ps_fld (pv 0) (pe_split (pv 1) pe_str) rfl) (pss_cons (ps_fld (pv 0) (pv 2) rfl) (pss_one (ps_fld (pv 0) pe_int rfl))), ?_⟩
    have ll := line_len lo.mem
    have hf := lo.few
    refine ⟨_, rfl, ⟨_, rfl⟩, _, " ", rfl, rfl, by decide +kernel, (by rw [sizeLine_eq]; omega), fun L nL => ?_⟩
    rw [split_W lo.ne lo.mem]
    have s1 := same_new (o := .lst (ws.map V.str)) nL
    have pL : p ≠ L := ne_of_none hp nL
    refine ⟨_, rfl, p, Cw, dx, _, rfl, s1 _ _ hp, TW.cw, TW.nW, (by show 0 < 1000; decide), ?_⟩
    refine ⟨_, rfl, _, rfl, p, Cw, dx, _, rfl, upd_same, TW.cw, TW.nR, (by show 1 < 1000; decide), ?_⟩
    refine ⟨_, rfl, p, Cw, dx, _, rfl, upd_same, TW.cw, TW.nA, (by show 2 < 1000; decide), ?_⟩
    refine k L _ (fun b o e nb => ?_) ⟨⟨dx, _, upd_same, by rw [lookup_putF, if_neg (by decide +kernel), lookup_putF, if_neg (by decide +kernel), lookup_putF, if_pos rfl], by rw [lookup_putF, if_neg (by decide +kernel), lookup_putF, if_pos rfl], by rw [lookup_putF, if_pos rfl]; rfl, by rw [lookup_putF, if_neg (by decide +kernel), lookup_putF, if_neg (by decide +kernel), lookup_putF, if_neg (by decide +kernel)]; rfl, by rw [lookup_putF, if_neg (by decide +kernel), lookup_putF, if_neg (by decide +kernel), lookup_putF, if_neg (by decide +kernel)]; rfl, (by show 3 ≤ 3; decide)⟩, ?_⟩
    · rw [upd_ne nb, upd_ne nb, upd_ne nb]
      exact s1 _ _ e
    · rw [upd_ne (Ne.symm pL), upd_ne (Ne.symm pL), upd_ne (Ne.symm pL), upd_same]
/-- what is no text -/
def NoStr (K : PySem.W.Frag) (H : Hp) (v : V) : Prop := ∃ t, TyX K H v t ∧ PySem.W.kitOne K t (.type "str") = some false
def spWdsOf (K : PySem.W.Frag) (Cw cBT : Addr) : Sp := fun vs H Q E => ∃ v : V, vs = [v] ∧ ((∃ ws, v = .str (Txt.join " " ws) ∧ LineOk ws ∧ ∀ p L H', H p = none → Same H H' → WdAt Cw H' p L ws 0 → Q (.ref p) H') ∨
  (NoStr K H v ∧ ∀ dd H', Same H H' → H' dd = some (.xd (badX 0)) → E (.ref cBT) (some dd) H'))
theorem scWdsOf : FnScope ["text"] ["text"] (defScope sWdsOf) := ⟨rfl, rfl, rfl, by decide +kernel, rfl, by decide +kernel, by decide +kernel⟩
theorem ok_wdsOf {f : Addr} {fd : FuncData} (F : Fun K "words_of" "words_of" sWdsOf f fd) (T : Txt K mg C fWhole fBetw fDay fChk) (TW : TxtW K mg Cw fWr fOv fTk) (MW : Mk K Cw fWI) (WI : FnOk P w K mg base CX0 1 fWI dWI ["self", "text", "row"] (spWdsI Cw)) (bWI : Binds K dWI ["self", "text", "row"] [])
    (Z : ErM2 P w K mg base "BadText" "line" "word" cBT fBT dBT) : FnOk P w K mg base (L2.CX P w) 3 f fd ["text"] (spWdsOf K Cw cBT) := by
  refine F.okX scWdsOf (fun vs H Q E h => ?_) (fun cdv A outer s H vs Q E hr h => ?_)
  · obtain ⟨v, rfl, _⟩ := h
    rfl
  · obtain ⟨v, rfl, h⟩ := h
    refine ⟨_, pss_cons (ps_if (pt_not (pt_val (pe_callB call_isi (by rfl) T.zIsi (by decide +kernel) (pa_cons (pv 0) (pa_cons (pe_bltn (v := .ty "str") (by rfl) T.zStr (by decide +kernel) rfl) pa_nil)))))
      (pss_one (ps_raise rfl (takes_of rfl rfl rfl rfl) (pmk_oex Z.c2.oex Z.c2.iC Z.c2.tI Z.F2 hr Z.b2 .nil pass0 rfl Z.c2.g (pa_cons pe_int (pa_cons pe_int pa_nil))))) pss_nil)
      (pss_one (ps_ret (pe_make MW WI hr rfl TW.gWds bWI .nil pass0 (pa_cons (pv 0) (pa_cons pe_int pa_nil))))), ?_⟩
    rcases h with ⟨ws, rfl, lo, k⟩ | ⟨⟨t, ty, kt⟩, k⟩
    · refine ⟨_, rfl, .str (Txt.join " " ws), .ty "str", _, _, true, rfl, .ty "str", .base (.str _), kit_ty (by decide +kernel), true, rfl, iteF ⟨_, rfl, fun x dx nx nd ne => ?_⟩⟩
      have s1 : Same H (upd (upd H dx (.own x)) x (.ins Cw dx [])) := fun b o e => by
        rw [upd_ne (ne_of_none e nx), upd_ne (ne_of_none e nd)]
        exact e
      exact ⟨x, dx, ws, rfl, upd_same, lo, fun L H' kp o => ⟨rfl, k x L H' nx (fun b ob e => kp _ _ (s1 _ _ e) (ne_of_none e nx)) o⟩⟩
    · exact ⟨_, rfl, v, .ty "str", _, _, false, rfl, .ty "str", ty, kt, false, rfl, iteT (er_made2 k)⟩
def spTakeL (Cw cBT : Addr) : Sp := fun vs H Q E => ∃ (p L : Addr) (ws : List Str), vs = [.ref p] ∧ WdAt Cw H p L ws 0 ∧ LineOk ws ∧
  (∀ k, badW ws = some k → ∀ dd H', Keeps p H H' → H' dd = some (.xd (badX k)) → E (.ref cBT) (some dd) H') ∧ (badW ws = none → ∀ a H', Keeps p H H' → H' a = some (.lst ((ws.map valOf).map V.int)) → Q (.ref a) H')
theorem scTakeL : FnScope ["words", "lengths"] ["words"] (defScope sTakeL) := ⟨rfl, rfl, rfl, by decide +kernel, rfl, by decide +kernel, by decide +kernel⟩
theorem ok_takeL {f : Addr} {fd : FuncData} (F : Fun K "take_lengths" "take_lengths" sTakeL f fd) (T : Txt K mg C fWhole fBetw fDay fChk) (TW : TxtW K mg Cw fWr fOv fTk) (OV : FnOk P w K mg base CX0 1 fOv dOv ["self"] (spOver Cw)) (bOv : Binds K dOv ["self"] [])
    (TK : FnOk P w K mg base (L2.CX P w) 3 fTk dTk ["self", "low", "high"] (spTake Cw cBT)) (bTk : Binds K dTk ["self", "low", "high"] []) : FnOk P w K mg base (L2.CX P w) 4 f fd ["words"] (spTakeL Cw cBT) := by
  obtain ⟨tt, gt⟩ := T.gMT
  refine F.okX scTakeL (fun vs H Q E h => ?_) (fun cdv A outer s H vs Q E hr h => ?_)
  · obtain ⟨p, L, ws, rfl, _⟩ := h
    rfl
  · obtain ⟨p, L, ws, rfl, o, lo, k1, k0⟩ := h
    have hr1 : Room 1 _ := hr.mono (by decide)
    refine ⟨_, pss_cons (ps_set (i := 1) scTakeL.nd rfl (Or.inl rfl) (pe_lst (pa_cons (pe_meth (E := E) (pv 0) TW.cw TW.mTk TK hr bTk .nil (passes_call (takes_of rfl rfl rfl rfl) fun _ _ _ _ h => h) (pa_cons pe_int (pa_cons (pe_glob (v := .int 60) rfl gt ⟨_, rfl⟩) pa_nil))) pa_nil)))
      (pss_cons (ps_while (passes_of rfl) (pt_not (pt_val (pe_meth0 (pv 0) TW.cw TW.mOv OV hr1 bOv .nil pass0)))
        (pss_one (ps_expr (pe_bm PySem.F.plainAttrs_list PySem.F.slot_list_append PySem.F.type_list_append mt_append (pv 1) (pa_cons (pe_meth (E := E) (pv 0) TW.cw TW.mTk TK hr bTk .nil (passes_call (takes_of rfl rfl rfl rfl) fun _ _ _ _ h => h) (pa_cons pe_int (pa_cons (pe_glob (v := .int 60) rfl gt ⟨_, rfl⟩) pa_nil))) pa_nil)))))
      (pss_one (ps_ret (pv 1)))), ?_⟩
    obtain ⟨dx, fs, h1, fW, fR, fA, fO, fT, fl⟩ := o.ob
    have hf := lo.few
    have n0 : 0 < ws.length := by
      cases hw : ws with
      | nil => exact absurd hw lo.ne
      | cons a r => simp
    refine ⟨_, rfl, p, dx, _, rfl, h1, fT, p, L, ws, 0, rfl, o, lo.mem, lo.few, Nat.zero_le _, fun x hx okx H1 kp1 o1 => ?_, fun no dd H1 s1 hd => ?_⟩
    rotate_left
    · obtain ⟨x, hx⟩ : ∃ x, ws[0]? = some x := ⟨_, List.getElem?_eq_getElem n0⟩
      exact k1 0 (badW_at hx (fun j hj => absurd hj (Nat.not_lt_zero _)) (no x hx)) dd H1 (keeps_same s1) hd
    · refine ⟨(by show 1 ≤ sizeLine; decide), fun a na => ?_⟩
      have nH : ∀ {b ob}, H b = some ob → b ≠ a := fun {b ob} e z => by
        subst z
        by_cases y : b = p
        · subst y
          obtain ⟨_, _, q, _⟩ := o1.ob
          rw [q] at na
          cases na
        · rw [kp1 _ _ e y] at na
          cases na
      have pa' : p ≠ a := nH h1
      have La' : L ≠ a := nH o.li
      have nHa : H a = none := by
        cases e : H a with
        | none => rfl
        | some ob => exact absurd rfl (nH e)
      refine ⟨fun m σ H' => ∃ i : Nat, m = ws.length - i ∧ 1 ≤ i ∧ i ≤ ws.length ∧ σ = [some (.ref p), some (.ref a)] ∧ WdAt Cw H' p L ws i ∧ Keeps p H H' ∧ H' a = some (.lst (((ws.take i).map valOf).map V.int)) ∧ ∀ j, j < i → ∀ y, ws[j]? = some y → okW y = true,
        ⟨_, 1, rfl, Nat.le_refl _, n0, rfl, o1.same (same_new na), kp1.trans (keeps_same (same_new na)), ?_, ?_⟩, ?_⟩
      · rw [upd_same]
        have : ws.take 1 = [x] := by
          cases hw : ws with
          | nil => rw [hw] at hx; cases hx
          | cons b r => rw [hw] at hx; cases hx; rfl
        rw [this]
        rfl
      · intro j hj y hy
        have : j = 0 := by omega
        subst this
        rw [hx] at hy
        cases hy
        exact okx
      · rintro m σ H2 ⟨i, rfl, i1, il, rfl, o2, kp2, ha2, ok2⟩
        obtain ⟨dx2, fs2, h2, fW2, fR2, fA2, fO2, fT2, fl2⟩ := o2.ob
        refine ⟨_, rfl, p, dx2, _, rfl, h2, fO2, p, L, ws, i, rfl, o2, _, rfl, ?_⟩
        by_cases e : i = ws.length
        · rw [decide_eq_true e]
          have all : badW ws = none := badW_all fun j y hy => ok2 j (by have := (List.getElem?_eq_some_iff.mp hy).1; omega) y hy
          rw [e, List.take_of_length_le (Nat.le_refl _)] at ha2
          exact iteF ⟨_, rfl, k0 all a H2 kp2 ha2⟩
        · rw [decide_eq_false e]
          refine iteT ⟨fun σ' H' => ∃ i' : Nat, i' = i + 1 ∧ σ' = [some (.ref p), some (.ref a)] ∧ WdAt Cw H' p L ws i' ∧ Keeps p H H' ∧ H' a = some (.lst (((ws.take i').map valOf).map V.int)) ∧ ∀ j, j < i' → ∀ y, ws[j]? = some y → okW y = true, ?_, ?_⟩
          · rintro σ' H' ⟨i', rfl, q1, q2, q3, q4, q5⟩
            exact ⟨_, by omega, i + 1, rfl, by omega, by omega, q1, q2, q3, q4, q5⟩
          · refine ⟨_, rfl, .inl ⟨rfl, _, SqL.of ha2⟩, _, rfl, p, dx2, _, rfl, h2, fT2, p, L, ws, i, rfl, o2, lo.mem, lo.few, il, fun y hy oky H3 kp3 o3 => ?_, fun no dd H3 s3 hd => ?_⟩
            · have ha3 := kp3 _ _ ha2 (Ne.symm pa')
              refine ⟨a, _, .int (valOf y), rfl, rfl, ha3, ?_, i + 1, rfl, rfl, ⟨?_, ?_⟩, ?_, ?_, ?_⟩
              · rw [List.length_map, List.length_map]
                exact small1000 (Nat.le_trans (List.length_take_le _ _) (by omega))
              · obtain ⟨d, f3, q⟩ := o3.ob
                exact ⟨d, f3, by rw [upd_ne pa']; exact q.1, q.2⟩
              · rw [upd_ne La']
                exact o3.li
              · intro b ob eb nb
                rw [upd_ne (nH eb)]
                exact kp3 _ _ (kp2 _ _ eb nb) nb
              · rw [upd_same, List.take_succ, hy]
                simp
              · intro j hj z hz
                by_cases c : j = i
                · subst c
                  rw [hy] at hz
                  cases hz
                  exact oky
                · exact ok2 j (by omega) z hz
            · obtain ⟨y, hy⟩ : ∃ y, ws[i]? = some y := ⟨_, List.getElem?_eq_getElem (by omega)⟩
              exact k1 i (badW_at hy ok2 (no y hy)) dd H3 (kp2.trans (keeps_same s3)) hd
def spRead (K : PySem.W.Frag) (C cBT cTM : Addr) : Sp := fun vs H Q E => ∃ v : V, vs = [.ref C, v] ∧ ((∃ ws, v = .str (Txt.join " " ws) ∧ LineOk ws ∧ ErrsR cBT cTM (outR ws) H E ∧ ∀ ls, outR ws = .ok ls → ∀ q H', Same H H' → CycAt C H' q ls → Q (.ref q) H') ∨
  (NoStr K H v ∧ ∀ dd H', Same H H' → H' dd = some (.xd (badX 0)) → E (.ref cBT) (some dd) H'))
theorem scRead : FnScope ["cls", "text", "words", "lengths"] ["cls", "text"] (defScope sRead) := ⟨rfl, rfl, rfl, by decide +kernel, rfl, by decide +kernel, by decide +kernel⟩
theorem ok_read {f fI : Addr} {fd : FuncData} (F : Fun K "read" "Cycle.read" sRead f fd) (M : Mk K C fI) (GI : FnR P w K mg base (L2.CX P w) 4 fI (spStarO C cBC cTM))
    (WO : FnOk P w K mg base (L2.CX P w) 3 fWO dWO ["text"] (spWdsOf K Cw cBT)) (bWO : Binds K dWO ["text"] []) (kWO : PySem.W.keepIn K (.ref fWO) = true) (gWO : mg "words_of" = some (.ref fWO))
    (TL : FnOk P w K mg base (L2.CX P w) 4 fTL dTL ["words"] (spTakeL Cw cBT)) (bTL : Binds K dTL ["words"] []) (kTL : PySem.W.keepIn K (.ref fTL) = true) (gTL : mg "take_lengths" = some (.ref fTL)) : FnOk P w K mg base (L2.CX P w) 6 f fd ["cls", "text"] (spRead K C cBT cTM) := by
  refine F.okX scRead (fun vs H Q E h => ?_) (fun cdv A outer s H vs Q E hr h => ?_)
  · obtain ⟨v, rfl, _⟩ := h
    rfl
  · obtain ⟨v, rfl, h⟩ := h
    refine ⟨_, pss_cons (ps_set (i := 2) scRead.nd rfl (Or.inl rfl) (pe_call (E := E) WO (hr.mono (by decide)) rfl gWO kWO bWO .nil (passes_call (takes_of rfl rfl rfl rfl) fun _ _ _ _ h => h) (pa_cons (pv 1) pa_nil)))
      (pss_cons (ps_set (i := 3) scRead.nd rfl (Or.inl rfl) (pe_call (E := E) TL (hr.mono (by decide)) rfl gTL kTL bTL .nil (passes_call (takes_of rfl rfl rfl rfl) fun _ _ _ _ h => h) (pa_cons (pv 2) pa_nil)))
      (pss_one (ps_ret (pe_makeStar (E := E) (i := 0) M GI (hr.mono (by decide)) rfl (.inl rfl) (passes_call (takes_of rfl rfl rfl rfl) fun _ _ _ _ h => h) (pv 3))))), ?_⟩
    rcases h with ⟨ws, rfl, lo, er, k⟩ | ⟨nos, k⟩
    · refine ⟨_, rfl, _, rfl, .inl ⟨ws, rfl, lo, fun p L H1 np s1 o1 => ?_⟩⟩
      have up : ∀ {H2 : Hp}, Keeps p H1 H2 → Same H H2 := fun kp b ob e => kp _ _ (s1 _ _ e) (ne_of_none e np)
      refine ⟨_, rfl, p, L, ws, rfl, o1, lo, fun n e dd H2 kp hd => ?_, fun e a H2 kp ha => ?_⟩
      · have z : outR ws = .cyc n := by unfold outR; rw [e]
        rw [z] at er
        exact er dd H2 (up kp) hd
      · have z : outR ws = outOf ((ws.map valOf).map V.int) := by unfold outR; rw [e]
        have ne : ws.map valOf ≠ [] := fun q => lo.ne (List.map_eq_nil_iff.mp q)
        have e2 := out_vals (vals_ok e) ne
        refine ⟨rfl, _, rfl, a, _, rfl, .inr (SqL.of ha), fun x dx nx nd nex => MkC.star ⟨fun y hy => ?_, ?_, ?_, fun ls el q H3 s3 c => k ls (z.trans el) q H3 ((up kp).trans s3) c⟩ nx nd nex⟩
        · obtain ⟨i, _, rfl⟩ := List.mem_map.mp hy
          exact .int i
        · rw [List.length_map, List.length_map]
          have := lo.few
          omega
        · have er2 := er.same (up kp)
          rw [z, e2] at er2
          rw [e2]
          split at er2
          · rename_i c
            rw [if_pos c]
            exact er2
          · rename_i c
            rw [if_neg c]
            split at er2
            · rename_i c2
              rw [if_pos c2]
              exact er2
            · rename_i c2
              rw [if_neg c2]
              trivial
    · exact ⟨_, rfl, v, rfl, .inr ⟨nos, k⟩⟩
end
end My
namespace My
open PySem PySem.Spec PyProof.Rows L2
abbrev sLens : Stmt := top 26
abbrev sBent : Stmt := top 29
section
variable {P : Program} {w : World} {K : PySem.W.Frag} {mg : Str → Option Value} {base : Heap} {C fWhole fBetw fDay fChk fDraw fPick : Addr} {fdD fdP : FuncData}
theorem good_of {ls : List Int} (h : (decide (∀ l ∈ ls, 1 ≤ l ∧ l ≤ 60) && decide (0 < ls.length) && decide (ls.length ≤ 12) && decide (ls.sum ≤ 60)) = true) : Good ls := by
  simp only [Bool.and_eq_true, decide_eq_true_eq] at h
  exact ⟨h.1.1.1, h.1.1.2, h.1.2, h.2⟩
theorem sum_five : ∀ {ls : List Int}, (∀ l ∈ ls, 1 ≤ l ∧ l ≤ 5) → ls.sum ≤ 5 * ls.length
  | [], _ => by simp
  | a :: r, h => by
    have h1 := (h a (by simp)).2
    have h2 := sum_five (ls := r) fun l hl => h l (by simp [hl])
    rw [List.sum_cons, List.length_cons]
    push_cast
    omega
/-- drawn lengths -/
def spLens : Sp := fun vs H Q _ => ∃ (p l : Addr) (N : Int), vs = [.ref p] ∧ PenAt H p l N ∧ N ≤ 50000 ∧ ∀ a ls H', SameBut p H H' → PenAt H' p l (N + 20) → H' a = some (.lst (ls.map V.int)) → a ≠ p → Good ls → Q (.ref a) H'
theorem scLens : FnScope ["_law_pen_here", "_law_some", "_law_k"] ["_law_pen_here"] (defScope sLens) := ⟨rfl, rfl, rfl, by decide +kernel, rfl, by decide +kernel, by decide +kernel⟩
theorem ok_lens {f : Addr} {fd : FuncData} (F : Fun K "_law_lengths" "_law_lengths" sLens f fd) (T : Txt K mg C fWhole fBetw fDay fChk) (D : Df P w K mg base "_law_draw" 1 fDraw fdD ["_law_pen_here", "_law_many"] spDraw)
    (G : Df P w K mg base "_law_pick" 2 fPick fdP ["_law_pen_here", "_law_some"] spPick) : FnOk P w K mg base CX0 3 f fd ["_law_pen_here"] spLens := by
  refine F.ok scLens (fun vs H Q E h => ?_) (fun cdv A outer s H vs Q E hr h => ?_)
  · obtain ⟨p, l, N, rfl, _⟩ := h
    rfl
  · obtain ⟨p, l, N, rfl, pen, hN, k⟩ := h
    have hr1 : Room 1 _ := hr.mono (by decide)
    refine ⟨_, pss_cons (ps_set (i := 1) scLens.nd rfl (Or.inl rfl) (pe_lst (pa_cons (pe_lst (pa_cons pe_int pa_nil)) (pa_cons (pe_lst (pa_cons pe_int (pa_cons pe_int pa_nil))) (pa_cons (pe_lst (pa_cons pe_int pa_nil)) (pa_cons (pe_lst (pa_cons pe_int (pa_cons pe_int (pa_cons pe_int pa_nil))))
        (pa_cons (pe_lst (pa_cons pe_int (pa_cons pe_int pa_nil))) (pa_cons (pe_lst (pa_cons pe_int pa_nil)) (pa_cons (pe_lst (pa_cons pe_int (pa_cons pe_int (pa_cons pe_int pa_nil)))) (pa_cons (pe_lst (pa_cons pe_int (pa_cons pe_int pa_nil)))
        (pa_cons (pe_lst (pa_cons pe_int (pa_cons pe_int (pa_cons pe_int pa_nil)))) (pa_cons (pe_lst (pa_cons pe_int (pa_cons pe_int (pa_cons pe_int (pa_cons pe_int pa_nil))))) pa_nil))))))))))))
      (pss_cons (ps_if (pt_cmpR op_gt (pe_call D.F hr1 rfl D.g D.kp D.b .nil pass0 (pa_cons (pv 0) (pa_cons pe_int pa_nil))) pe_int (nomark _))
        (pss_one (ps_ret (pe_call G.F hr rfl G.g G.kp G.b .nil pass0 (pa_cons (pv 0) (pa_cons (pv 1) pa_nil))))) pss_nil)
      (pss_one (ps_ret (pe_lc (own := [("_law_k", 2)]) (g := gName 2) (tt := tYes) rfl scLens.nd (pi_range1 rfl T.zRange (pa_cons (pe_op op_add pe_int (pe_call D.F hr1 rfl D.g D.kp D.b .nil pass0 (pa_cons (pv 0) (pa_cons pe_int pa_nil)))) pa_nil))
        (blkOk_by (N := ["_law_pen_here", "_law_some", "_law_k"]) (sc := defScope sLens) (by decide +kernel)) (fun _ _ _ _ _ => pg_name (i := 2) scLens.nd rfl (Or.inl rfl)) (fun _ _ _ _ _ => pts_nil)
        (fun _ _ _ _ _ => pe_op op_add pe_int (pe_call D.F hr1 (by rfl) D.g D.kp D.b .nil pass0 (pa_cons (pv 0) (pa_cons pe_int pa_nil)))))))), ?_⟩
    refine ⟨by decide, fun a0 n0 => ⟨by decide, fun a1 n1 => ⟨by decide, fun a2 n2 => ⟨by decide, fun a3 n3 => ⟨by decide, fun a4 n4 => ⟨by decide, fun a5 n5 => ⟨by decide, fun a6 n6 => ⟨by decide, fun a7 n7 => ⟨by decide, fun a8 n8 => ⟨by decide, fun a9 n9 => ⟨by show 10 ≤ sizeLine; decide, fun b nb => ?_⟩⟩⟩⟩⟩⟩⟩⟩⟩⟩⟩
    obtain ⟨px, hp⟩ := pen.lst
    have u0 : Same H H := Same.refl H
    have m0 := ne_of_none (u0 _ _ hp) n0
    have u1 := u0.trans (same_new (o := (HO.lst [V.int 7])) n0)
    have m1 := ne_of_none (u1 _ _ hp) n1
    have u2 := u1.trans (same_new (o := (HO.lst [V.int 2, V.int 3])) n1)
    have m2 := ne_of_none (u2 _ _ hp) n2
    have u3 := u2.trans (same_new (o := (HO.lst [V.int 1])) n2)
    have m3 := ne_of_none (u3 _ _ hp) n3
    have u4 := u3.trans (same_new (o := (HO.lst [V.int 4, V.int 4, V.int 5])) n3)
    have m4 := ne_of_none (u4 _ _ hp) n4
    have u5 := u4.trans (same_new (o := (HO.lst [V.int 1, V.int 2])) n4)
    have m5 := ne_of_none (u5 _ _ hp) n5
    have u6 := u5.trans (same_new (o := (HO.lst [V.int 60])) n5)
    have m6 := ne_of_none (u6 _ _ hp) n6
    have u7 := u6.trans (same_new (o := (HO.lst [V.int 5, V.int 1, V.int 1])) n6)
    have m7 := ne_of_none (u7 _ _ hp) n7
    have u8 := u7.trans (same_new (o := (HO.lst [V.int 3, V.int 3])) n7)
    have m8 := ne_of_none (u8 _ _ hp) n8
    have u9 := u8.trans (same_new (o := (HO.lst [V.int 28, V.int 28, V.int 4])) n8)
    have m9 := ne_of_none (u9 _ _ hp) n9
    have u10 := u9.trans (same_new (o := (HO.lst [V.int 2, V.int 1, V.int 2, V.int 1])) n9)
    have mb := ne_of_none (u10 _ _ hp) nb
    have t10 := same_new (o := (HO.lst [V.ref a0, V.ref a1, V.ref a2, V.ref a3, V.ref a4, V.ref a5, V.ref a6, V.ref a7, V.ref a8, V.ref a9])) nb
    have L9 := t10 _ _ (upd_same (a := a9) (o := (HO.lst [V.int 2, V.int 1, V.int 2, V.int 1])))
    have t9 := (same_new (o := (HO.lst [V.int 2, V.int 1, V.int 2, V.int 1])) n9).trans t10
    have L8 := t9 _ _ (upd_same (a := a8) (o := (HO.lst [V.int 28, V.int 28, V.int 4])))
    have t8 := (same_new (o := (HO.lst [V.int 28, V.int 28, V.int 4])) n8).trans t9
    have L7 := t8 _ _ (upd_same (a := a7) (o := (HO.lst [V.int 3, V.int 3])))
    have t7 := (same_new (o := (HO.lst [V.int 3, V.int 3])) n7).trans t8
    have L6 := t7 _ _ (upd_same (a := a6) (o := (HO.lst [V.int 5, V.int 1, V.int 1])))
    have t6 := (same_new (o := (HO.lst [V.int 5, V.int 1, V.int 1])) n6).trans t7
    have L5 := t6 _ _ (upd_same (a := a5) (o := (HO.lst [V.int 60])))
    have t5 := (same_new (o := (HO.lst [V.int 60])) n5).trans t6
    have L4 := t5 _ _ (upd_same (a := a4) (o := (HO.lst [V.int 1, V.int 2])))
    have t4 := (same_new (o := (HO.lst [V.int 1, V.int 2])) n4).trans t5
    have L3 := t4 _ _ (upd_same (a := a3) (o := (HO.lst [V.int 4, V.int 4, V.int 5])))
    have t3 := (same_new (o := (HO.lst [V.int 4, V.int 4, V.int 5])) n3).trans t4
    have L2 := t3 _ _ (upd_same (a := a2) (o := (HO.lst [V.int 1])))
    have t2 := (same_new (o := (HO.lst [V.int 1])) n2).trans t3
    have L1 := t2 _ _ (upd_same (a := a1) (o := (HO.lst [V.int 2, V.int 3])))
    have t1 := (same_new (o := (HO.lst [V.int 2, V.int 3])) n1).trans t2
    have L0 := t1 _ _ (upd_same (a := a0) (o := (HO.lst [V.int 7])))
    have t0 := (same_new (o := (HO.lst [V.int 7])) n0).trans t1
    have Lb := upd_same (H := upd (upd (upd (upd (upd (upd (upd (upd (upd (upd H a0 (HO.lst [V.int 7])) a1 (HO.lst [V.int 2, V.int 3])) a2 (HO.lst [V.int 1])) a3 (HO.lst [V.int 4, V.int 4, V.int 5])) a4 (HO.lst [V.int 1, V.int 2])) a5 (HO.lst [V.int 60])) a6 (HO.lst [V.int 5, V.int 1, V.int 1])) a7 (HO.lst [V.int 3, V.int 3])) a8 (HO.lst [V.int 28, V.int 28, V.int 4])) a9 (HO.lst [V.int 2, V.int 1, V.int 2, V.int 1])) (a := b) (o := (HO.lst [V.ref a0, V.ref a1, V.ref a2, V.ref a3, V.ref a4, V.ref a5, V.ref a6, V.ref a7, V.ref a8, V.ref a9]))
    generalize upd (upd (upd (upd (upd (upd (upd (upd (upd (upd (upd H a0 (HO.lst [V.int 7])) a1 (HO.lst [V.int 2, V.int 3])) a2 (HO.lst [V.int 1])) a3 (HO.lst [V.int 4, V.int 4, V.int 5])) a4 (HO.lst [V.int 1, V.int 2])) a5 (HO.lst [V.int 60])) a6 (HO.lst [V.int 5, V.int 1, V.int 1])) a7 (HO.lst [V.int 3, V.int 3])) a8 (HO.lst [V.int 28, V.int 28, V.int 4])) a9 (HO.lst [V.int 2, V.int 1, V.int 2, V.int 1])) b (HO.lst [V.ref a0, V.ref a1, V.ref a2, V.ref a3, V.ref a4, V.ref a5, V.ref a6, V.ref a7, V.ref a8, V.ref a9]) = H1 at L0 L1 L2 L3 L4 L5 L6 L7 L8 L9 t0 Lb ⊢
    have all : ∀ v, v ∈ ([V.ref a0, V.ref a1, V.ref a2, V.ref a3, V.ref a4, V.ref a5, V.ref a6, V.ref a7, V.ref a8, V.ref a9] : List V) → ∃ (a : Addr) (ls : List Int), v = .ref a ∧ H1 a = some (.lst (ls.map V.int)) ∧ a ≠ p ∧ Good ls := fun v hv => by
      simp only [List.mem_cons, List.not_mem_nil, or_false] at hv
      rcases hv with rfl | rfl | rfl | rfl | rfl | rfl | rfl | rfl | rfl | rfl
      · exact ⟨a0, [7], rfl, L0, Ne.symm m0, good_of (by decide)⟩
      · exact ⟨a1, [2, 3], rfl, L1, Ne.symm m1, good_of (by decide)⟩
      · exact ⟨a2, [1], rfl, L2, Ne.symm m2, good_of (by decide)⟩
      · exact ⟨a3, [4, 4, 5], rfl, L3, Ne.symm m3, good_of (by decide)⟩
      · exact ⟨a4, [1, 2], rfl, L4, Ne.symm m4, good_of (by decide)⟩
      · exact ⟨a5, [60], rfl, L5, Ne.symm m5, good_of (by decide)⟩
      · exact ⟨a6, [5, 1, 1], rfl, L6, Ne.symm m6, good_of (by decide)⟩
      · exact ⟨a7, [3, 3], rfl, L7, Ne.symm m7, good_of (by decide)⟩
      · exact ⟨a8, [28, 28, 4], rfl, L8, Ne.symm m8, good_of (by decide)⟩
      · exact ⟨a9, [2, 1, 2, 1], rfl, L9, Ne.symm m9, good_of (by decide)⟩
    clear L0 L1 L2 L3 L4 L5 L6 L7 L8 L9 m0 m1 m2 m3 m4 m5 m6 m7 m8 m9 u1 u2 u3 u4 u5 u6 u7 u8 u9 u10 t1 t2 t3 t4 t5 t6 t7 t8 t9 t10
    refine ⟨_, rfl, p, l, N, 3, rfl, pen.same t0, by decide, log_small (by decide) (by decide), by omega, fun r H2 r0 r1 sb pen1 => ⟨_, _, rfl, rfl, _, rfl, ?_⟩⟩
    refine ite2 (fun hk => ?_) (fun hk => ?_)
    · refine ⟨_, rfl, _, rfl, p, l, b, N + 1, _, rfl, pen1, by omega, sb _ _ (Ne.symm mb) Lb, Ne.symm mb, (by show 0 < 10; decide), (by show 10 ≤ 1000; decide), fun i v H3 hi sb2 pen2 => ?_⟩
      obtain ⟨a, ls, rfl, hL, nap, g⟩ := all v (List.mem_of_getElem? hi)
      exact k a ls H3 ((Same.but t0).trans (sb.trans sb2)) (pen2.le (by omega)) (sb2 _ _ nap (sb _ _ nap hL)) nap g
    · refine ⟨_, rfl, p, l, N + 1, 12, rfl, pen1, by decide, log_small (by decide) (by decide), by omega, fun r2 H3 q0 q1 sb2 pen2 => ⟨_, _, rfl, rfl, _, rfl, by omega, by omega, fun Dd hD => ?_⟩⟩
      obtain ⟨py, hpy⟩ := pen2.lst
      have nD : p ≠ Dd := ne_of_none hpy hD
      have sb3 : SameBut p H H3 := (Same.but t0).trans (sb.trans sb2)
      refine lc_range (lo := 0) (n := (1 + r2).toNat) (fun i H' => ∃ acc : List Int, H' Dd = some (.lst (acc.map V.int)) ∧ acc.length = i ∧ (∀ l ∈ acc, 1 ≤ l ∧ l ≤ 5) ∧ SameBut p H3 H' ∧ PenAt H' p l (N + 2 + i)) ?_ ?_ ?_
      · exact ⟨[], upd_same, rfl, (fun l hl => absurd hl (by simp)), Same.but (same_new hD), (pen2.same (same_new hD)).le (by omega)⟩
      · rintro i H4 hi ⟨acc, hA, hlen, hin, sb4, pen4⟩
        refine ⟨rfl, ?_⟩
        unfold tYes
        dsimp only
        rw [if_pos rfl]
        refine ⟨_, rfl, p, l, N + 2 + i, 5, rfl, pen4, by decide, log_small (by decide) (by decide), by omega, fun r3 H5 w0 w1 sb5 pen5 => ⟨_, _, rfl, rfl, acc.map V.int, sb5 _ _ (Ne.symm nD) hA, ?_, ?_⟩⟩
        · rw [List.length_map, hlen]
          exact small1000 (by omega)
        · refine ⟨acc ++ [1 + r3], by rw [upd_same, List.map_append]; rfl, by rw [List.length_append, hlen]; rfl, fun l hl => ?_, fun c o nc e => ?_, (pen5.upd pen2 hD).le (by omega)⟩
          · rcases List.mem_append.mp hl with h | h
            · exact hin l h
            · rw [List.mem_singleton.mp h]; omega
          · rw [upd_ne (ne_of_none e hD)]
            exact sb5 _ _ nc (sb4 _ _ nc e)
      · rintro H4 ⟨acc, hA, hlen, hin, sb4, pen4⟩
        refine k Dd acc H4 (sb3.trans sb4) (pen4.le (by omega)) hA (Ne.symm nD) ⟨fun l hl => ⟨(hin l hl).1, by have := (hin l hl).2; omega⟩, by omega, by omega, ?_⟩
        have := sum_five hin
        omega
def oddL : List Str := ["", "0", "1", "7", "60", "61", "07", "-1", "+1", "1.0", "7\n", "7 7", "x", "1_0", nine61, "30"]
theorem odd_all : oddL.all (fun x => decide (x.length ≤ 61) && (decide (x = "7 7") || WSet.contains x)) = true := by decide +kernel
theorem odd_in {x : Str} (h : x ∈ oddL) : x.length ≤ 61 ∧ (x = "7 7" ∨ x ∈ WSet) := by
  have := List.all_eq_true.mp odd_all x h
  rw [Bool.and_eq_true, Bool.or_eq_true, decide_eq_true_eq, decide_eq_true_eq, List.contains_iff_mem] at this
  exact this
theorem seven_in : ("7" : Str) ∈ WSet := by
  rw [← List.contains_iff_mem]
  decide +kernel
theorem empty_in : ("" : Str) ∈ WSet := by
  rw [← List.contains_iff_mem]
  decide +kernel
theorem seven_two : ("7 7" : Str) = "7" ++ " " ++ "7" := by decide +kernel
theorem join_nil : Txt.join " " ([] : List Str) = Txt.join " " [("" : Str)] := by decide +kernel
theorem lens_61 : ∀ {ws : List Str}, (∀ w ∈ ws, w.length ≤ 61) → (ws.map (·.length)).sum ≤ 61 * ws.length
  | [], _ => by simp
  | a :: r, h => by
    have h1 := h a (by simp)
    have h2 := lens_61 (ws := r) fun w hw => h w (by simp [hw])
    simp only [List.map_cons, List.sum_cons, List.length_cons]
    omega
theorem cut_to (ws : List Str) (k : Nat) : cutV (ws.map V.str) none (some ((k : Nat) : Int)) = (ws.take k).map V.str := by
  unfold cutV
  rw [HT.sIx_none, HT.sIx_nat, List.drop_zero, Nat.sub_zero, List.map_take, List.take_eq_take_iff]
  omega
theorem cut_from (ws : List Str) (k : Nat) : cutV (ws.map V.str) (some ((k : Nat) : Int)) none = (ws.drop k).map V.str := by
  unfold cutV
  rw [HT.sIx_none, HT.sIx_nat, List.map_drop, List.take_of_length_le (by rw [List.length_drop]; omega)]
  rw [List.length_map]
  by_cases c : k ≤ ws.length
  · rw [Nat.min_eq_left c]
  · rw [Nat.min_eq_right (by omega), List.drop_eq_nil_of_le (by rw [List.length_map]; omega), List.drop_eq_nil_of_le (by rw [List.length_map]; omega)]
/-- a line that is told by other words of the set -/
theorem line_of {A B : List Str} {x : Str} (hA : ∀ w ∈ A, w ∈ WSet) (hB : ∀ w ∈ B, w ∈ WSet) (hx : x = "7 7" ∨ x ∈ WSet) : ∃ ws : List Str, Txt.join " " (A ++ [x] ++ B) = Txt.join " " ws ∧ ws ≠ [] ∧ (∀ w ∈ ws, w ∈ WSet) ∧ ws.length ≤ A.length + B.length + 2 := by
  rcases hx with rfl | hx
  · refine ⟨A ++ ("7" : Str) :: ("7" : Str) :: B, ?_, by simp, fun w hw => ?_, ?_⟩
    · rw [List.append_assoc, TL.join_eq, TL.join_eq, ← join_two " " "7" "7" A B, ← seven_two]
      rfl
    · rcases List.mem_append.mp hw with h | h
      · exact hA w h
      · rcases List.mem_cons.mp h with rfl | h
        · exact seven_in
        · rcases List.mem_cons.mp h with rfl | h
          · exact seven_in
          · exact hB w h
    · rw [List.length_append, List.length_cons, List.length_cons]
      omega
  · refine ⟨A ++ [x] ++ B, rfl, by simp, fun w hw => ?_, ?_⟩
    · rcases List.mem_append.mp hw with h | h
      · rcases List.mem_append.mp h with h | h
        · exact hA w h
        · rw [List.mem_singleton.mp h]; exact hx
      · exact hB w h
    · rw [List.length_append, List.length_append, List.length_singleton]
      omega
theorem line_ws (ws : List Str) (h : ∀ w ∈ ws, w ∈ WSet) : ∃ ws' : List Str, Txt.join " " ws = Txt.join " " ws' ∧ ws' ≠ [] ∧ (∀ w ∈ ws', w ∈ WSet) ∧ ws'.length ≤ ws.length + 1 := by
  cases ws with
  | nil => exact ⟨[""], join_nil, by simp, fun w hw => by rw [List.mem_singleton.mp hw]; exact empty_in, Nat.le_refl _⟩
  | cons a r => exact ⟨a :: r, rfl, by simp, h, Nat.le_succ _⟩
def spBent : Sp := fun vs H Q _ => ∃ (p l : Addr) (N : Int) (ws : List Str), vs = [.ref p, .str (Txt.join " " ws)] ∧ PenAt H p l N ∧ N ≤ 50000 ∧ ws ≠ [] ∧ (∀ w ∈ ws, w ∈ WSet) ∧ ws.length ≤ 100 ∧
  ∀ ws' H', SameBut p H H' → PenAt H' p l (N + 3) → ws' ≠ [] → (∀ w ∈ ws', w ∈ WSet) → ws'.length ≤ ws.length + 2 → Q (.str (Txt.join " " ws')) H'
theorem scBent : FnScope ["_law_pen_here", "_law_line_so", "_law_words_so", "_law_spot", "_law_choice", "_law_odd"] ["_law_pen_here", "_law_line_so"] (defScope sBent) := ⟨rfl, rfl, rfl, by decide +kernel, rfl, by decide +kernel, by decide +kernel⟩
theorem ok_bent {f : Addr} {fd : FuncData} (F : Fun K "_law_bent" "_law_bent" sBent f fd) (T : Txt K mg C fWhole fBetw fDay fChk) (D : Df P w K mg base "_law_draw" 1 fDraw fdD ["_law_pen_here", "_law_many"] spDraw)
    (G : Df P w K mg base "_law_pick" 2 fPick fdP ["_law_pen_here", "_law_some"] spPick) : FnOk P w K mg base CX0 3 f fd ["_law_pen_here", "_law_line_so"] spBent := by
  refine F.ok scBent (fun vs H Q E h => ?_) (fun cdv A outer s H vs Q E hr h => ?_)
  · obtain ⟨p, l, N, ws, rfl, _⟩ := h
    rfl
  · obtain ⟨p, l, N, ws, rfl, pen, hN, ne, mem, few, k⟩ := h
    have hr1 : Room 1 _ := hr.mono (by decide)
    refine ⟨_, pss_cons (ps_set (i := 2) scBent.nd rfl (Or.inl rfl) (pe_split (pv 1) pe_str))
      (pss_cons (ps_par (i := 3) (j := 4) rfl scBent.nd rfl rfl (by decide) rfl rfl (pa_cons (pe_call D.F hr1 rfl D.g D.kp D.b .nil pass0 (pa_cons (pv 0) (pa_cons (pe_op op_add (pe_callB call_len_seq (by rfl) T.zLen PySem.boot_len (pa_cons (pv 2) pa_nil)) pe_int) pa_nil))) (pa_cons (pe_call D.F hr1 rfl D.g D.kp D.b .nil pass0 (pa_cons (pv 0) (pa_cons pe_int pa_nil))) pa_nil)) rfl)
      (pss_cons (ps_set (i := 5) scBent.nd rfl (Or.inl rfl) (pe_lst (pa_cons pe_str (pa_cons pe_str (pa_cons pe_str (pa_cons pe_str (pa_cons pe_str (pa_cons pe_str (pa_cons pe_str (pa_cons pe_str (pa_cons pe_str (pa_cons pe_str (pa_cons pe_str (pa_cons pe_str (pa_cons pe_str (pa_cons pe_str (pa_cons (pe_op op_mulS pe_str pe_int) (pa_cons pe_str pa_nil))))))))))))))))))
      (pss_cons (ps_if (pt_cmpR op_eq (pv 4) pe_int (nomark _)) (pss_one (ps_ret (pe_join pe_str (pe_op op_cat (pe_slice sl_list (pv 2) po_none (po_some (pv 3))) (pe_slice sl_list (pv 2) (po_some (pe_op op_add (pv 3) pe_int)) po_none))))) pss_nil)
      (pss_cons (ps_if (pt_cmpR op_eq (pv 4) pe_int (nomark _)) (pss_one (ps_ret (pe_join pe_str (pe_op op_cat (pe_slice sl_list (pv 2) po_none (po_some (pe_op op_add (pv 3) pe_int))) (pe_slice sl_list (pv 2) (po_some (pv 3)) po_none))))) pss_nil)
      (pss_cons (ps_if (pt_cmpR op_eq (pv 4) pe_int (nomark _)) (pss_one (ps_ret (pe_join pe_str (pe_op op_cat (pe_op op_cat (pe_slice sl_list (pv 2) po_none (po_some (pv 3))) (pe_lst (pa_cons (pe_call G.F (hr.mono (by decide)) rfl G.g G.kp G.b .nil pass0 (pa_cons (pv 0) (pa_cons (pv 5) pa_nil))) pa_nil))) (pe_slice sl_list (pv 2) (po_some (pv 3)) po_none))))) pss_nil)
      (pss_one (ps_ret (pe_join pe_str (pe_op op_cat (pe_op op_cat (pe_slice sl_list (pv 2) po_none (po_some (pv 3))) (pe_lst (pa_cons (pe_call G.F (hr.mono (by decide)) rfl G.g G.kp G.b .nil pass0 (pa_cons (pv 0) (pa_cons (pv 5) pa_nil))) pa_nil))) (pe_slice sl_list (pv 2) (po_some (pe_op op_add (pv 3) pe_int)) po_none)))))))))), ?_⟩
    have ll := line_len mem
    refine ⟨_, rfl, ⟨_, rfl⟩, _, " ", rfl, rfl, by decide +kernel, (by rw [sizeLine_eq]; omega), fun L nL => ?_⟩
    rw [split_W ne mem]
    obtain ⟨px, hp⟩ := pen.lst
    have s1 := same_new (o := .lst (ws.map V.str)) nL
    have Lp : L ≠ p := Ne.symm (ne_of_none hp nL)
    have hL : (upd H L (.lst (ws.map V.str))) L = some (.lst (ws.map V.str)) := upd_same
    have pen1 := pen.same s1
    generalize upd H L (.lst (ws.map V.str)) = H1 at s1 hL pen1 ⊢
    refine ⟨_, rfl, _, rfl, L, _, rfl, .inl (SqL.of hL), _, _, rfl, rfl, p, l, N, _, rfl, pen1, (by omega), log_small (by omega) (by rw [List.length_map]; omega), (by omega), fun r H2 r0 r1 sb2 pen2 => ?_⟩
    refine ⟨_, rfl, p, l, N + 1, 6, rfl, pen2, by decide, log_small (by decide) (by decide), (by omega), fun ch H3 _ _ sb3 pen3 => ?_⟩
    obtain ⟨i, rfl⟩ := Int.eq_ofNat_of_zero_le r0
    have hi : i ≤ ws.length := by rw [List.length_map] at r1; omega
    have sb4 : SameBut p H1 H3 := sb2.trans sb3
    refine ⟨_, _, rfl, ?_⟩
    trace_state
    refine ⟨_, _, rfl, rfl, (by decide), (by decide), (by decide +kernel), (by decide +kernel), (by decide +kernel), ?_⟩
    refine ⟨(by show 16 ≤ sizeLine; decide), fun O nO => ?_⟩
    obtain ⟨px4, hp4⟩ := pen3.lst
    have Op : O ≠ p := Ne.symm (ne_of_none hp4 nO)
    have sb5 : SameBut p H1 (upd H3 O (.lst (oddL.map V.str))) := sb4.trans (Same.but (same_new nO))
    have pen5 := pen3.same (same_new (o := .lst (oddL.map V.str)) nO)
    have hO : (upd H3 O (.lst (oddL.map V.str))) O = some (.lst (oddL.map V.str)) := upd_same
    change gName 5 (.ref O) _ (upd H3 O (.lst (oddL.map V.str))) _
    have hL5 : (upd H3 O (.lst (oddL.map V.str))) L = some (.lst (ws.map V.str)) := sb5 _ _ Lp hL
    generalize upd H3 O (.lst (oddL.map V.str)) = H5 at sb5 pen5 hO hL5 ⊢
    have sb0 : SameBut p H H5 := (Same.but s1).trans sb5
    obtain ⟨px5, hp5⟩ := pen5.lst
    clear nO sb4 nL sb3 sb2 r0 r1
    have tA : ∀ (j : Nat), ∀ w ∈ ws.take j, w ∈ WSet := fun j w h => mem w (List.mem_of_mem_take h)
    have tB : ∀ (j : Nat), ∀ w ∈ ws.drop j, w ∈ WSet := fun j w h => mem w (List.mem_of_mem_drop h)
    have plus : ((i : Nat) : Int) + 1 = ((i + 1 : Nat) : Int) := by omega
    -- the two that join two slices
    have two : ∀ (a b : Nat), a ≤ i + 1 → i ≤ b → ∀ (q : Addr) (H' : Hp), SameBut p H5 H' → PenAt H' p l (N + 3) → H' q = some (.lst ((ws.take a).map V.str ++ (ws.drop b).map V.str)) →
        ∃ (ys : List Str), (SqL K H' q (ys.map V.str) ∨ SqT K H' q (ys.map V.str)) ∧ (ys.map (·.length)).sum + ys.length * (Str.ofString " ").length ≤ 16777216 ∧ Q (.str (Txt.join " " ys)) H' := by
      intro a b ha hb q H' sb pn hq
      have mm : ∀ w ∈ ws.take a ++ ws.drop b, w ∈ WSet := fun w h => (List.mem_append.mp h).elim (tA a w) (tB b w)
      have lenY : (ws.take a ++ ws.drop b).length ≤ ws.length + 1 := by
        rw [List.length_append, List.length_take, List.length_drop]
        omega
      obtain ⟨ws', e, n', m', l'⟩ := line_ws _ mm
      refine ⟨ws.take a ++ ws.drop b, .inl (SqL.of (by rw [hq, List.map_append])), ?_, ?_⟩
      · have h1 := lens_61 (ws := ws.take a ++ ws.drop b) fun w h => W_len (mm w h)
        have l1 : (Str.ofString " ").length = 1 := rfl
        rw [l1]
        omega
      · rw [e]
        exact k ws' H' (sb0.trans sb) pn n' m' (by omega)
    have three : ∀ (b : Nat), i ≤ b → ∀ (x : Str) (q : Addr) (H' : Hp), x ∈ oddL → SameBut p H5 H' → PenAt H' p l (N + 3) → H' q = some (.lst (((ws.take i).map V.str ++ [V.str x]) ++ (ws.drop b).map V.str)) →
        ∃ (ys : List Str), (SqL K H' q (ys.map V.str) ∨ SqT K H' q (ys.map V.str)) ∧ (ys.map (·.length)).sum + ys.length * (Str.ofString " ").length ≤ 16777216 ∧ Q (.str (Txt.join " " ys)) H' := by
      intro b hb x q H' hx sb pn hq
      obtain ⟨lx, hx'⟩ := odd_in hx
      obtain ⟨ws', e, n', m', l'⟩ := line_of (tA i) (tB b) hx'
      have lenY : (ws.take i ++ [x] ++ ws.drop b).length ≤ ws.length + 1 := by
        rw [List.length_append, List.length_append, List.length_take, List.length_drop, List.length_singleton]
        omega
      refine ⟨ws.take i ++ [x] ++ ws.drop b, .inl (SqL.of (by rw [hq, List.map_append, List.map_append]; rfl)), ?_, ?_⟩
      · have h1 := lens_61 (ws := ws.take i ++ [x] ++ ws.drop b) fun w h => by
          rcases List.mem_append.mp h with h | h
          · rcases List.mem_append.mp h with h | h
            · exact W_len (tA i w h)
            · rw [List.mem_singleton.mp h]; exact lx
          · exact W_len (tB b w h)
        have l1 : (Str.ofString " ").length = 1 := rfl
        rw [l1]
        omega
      · rw [e]
        refine k ws' H' (sb0.trans sb) pn n' m' ?_
        have e1 : (ws.take i).length + (ws.drop b).length ≤ ws.length := by
          rw [List.length_take, List.length_drop]
          omega
        omega
    have szL : ∀ (a b : Nat), ((ws.take a).map V.str).length + ((ws.drop b).map V.str).length ≤ sizeLine := fun a b => by
      rw [List.length_map, List.length_map, List.length_take, List.length_drop, sizeLine_eq]
      omega
    have szM : ∀ (b : Nat) (x : V), ((ws.take i).map V.str ++ [x]).length + ((ws.drop b).map V.str).length ≤ sizeLine := fun b x => by
      rw [List.length_append, List.length_singleton, List.length_map, List.length_map, List.length_take, List.length_drop, sizeLine_eq]
      omega
    have szN : ∀ (x : V), ((ws.take i).map V.str).length + [x].length ≤ sizeLine := fun x => by
      rw [List.length_singleton, List.length_map, List.length_take, sizeLine_eq]
      omega
    have pen5' := pen5.le (M := N + 3) (by omega)
    refine ⟨_, rfl, rfl, _, rfl, ite2 (fun _ => ?_) (fun _ => ?_)⟩
    · refine ⟨⟨_, rfl⟩, _, rfl, _, rfl, _, rfl, L, _, rfl, SqL.of hL5, fun A nA => ?_⟩
      rw [cut_to]
      have s6 := same_new (o := .lst ((ws.take i).map V.str)) nA
      refine ⟨_, rfl, _, rfl, _, _, rfl, rfl, _, rfl, L, _, rfl, SqL.of (s6 _ _ hL5), fun B nB => ?_⟩
      rw [plus, cut_from]
      have s7 := same_new (o := .lst ((ws.drop (i + 1)).map V.str)) nB
      refine ⟨A, B, _, _, rfl, rfl, s7 _ _ upd_same, upd_same, szL i (i + 1), fun q nq => ?_⟩
      obtain ⟨ys, y1, y2, y3⟩ := two i (i + 1) (by omega) (by omega) q _ (Same.but (s6.trans (s7.trans (same_new nq)))) (pen5'.same (s6.trans (s7.trans (same_new nq)))) upd_same
      exact ⟨" ", q, ys, rfl, rfl, y1, y2, y3⟩
    refine ⟨_, rfl, rfl, _, rfl, ite2 (fun _ => ?_) (fun _ => ?_)⟩
    · refine ⟨⟨_, rfl⟩, _, rfl, _, rfl, _, _, rfl, rfl, _, rfl, L, _, rfl, SqL.of hL5, fun A nA => ?_⟩
      rw [plus, cut_to]
      have s6 := same_new (o := .lst ((ws.take (i + 1)).map V.str)) nA
      refine ⟨_, rfl, _, rfl, _, rfl, L, _, rfl, SqL.of (s6 _ _ hL5), fun B nB => ?_⟩
      rw [cut_from]
      have s7 := same_new (o := .lst ((ws.drop i).map V.str)) nB
      refine ⟨A, B, _, _, rfl, rfl, s7 _ _ upd_same, upd_same, szL (i + 1) i, fun q nq => ?_⟩
      obtain ⟨ys, y1, y2, y3⟩ := two (i + 1) i (by omega) (by omega) q _ (Same.but (s6.trans (s7.trans (same_new nq)))) (pen5'.same (s6.trans (s7.trans (same_new nq)))) upd_same
      exact ⟨" ", q, ys, rfl, rfl, y1, y2, y3⟩
    refine ⟨_, rfl, rfl, _, rfl, ite2 (fun _ => ?_) (fun _ => ?_)⟩
    · refine ⟨⟨_, rfl⟩, _, rfl, _, rfl, _, rfl, L, _, rfl, SqL.of hL5, fun A nA => ?_⟩
      rw [cut_to]
      have s6 := same_new (o := .lst ((ws.take i).map V.str)) nA
      have nAp : A ≠ p := Ne.symm (ne_of_none hp5 nA)
      refine ⟨_, rfl, _, rfl, p, l, O, _, _, rfl, pen5.same s6, (by omega), s6 _ _ hO, Op, (by show 0 < 16; decide), (by show 16 ≤ 1000; decide), fun j v H6 hj sb6 pen6 => ?_⟩
      obtain ⟨x, hx, rfl⟩ : ∃ x, x ∈ oddL ∧ v = .str x := by
        have := List.mem_of_getElem? hj
        obtain ⟨x, hx, e⟩ := List.mem_map.mp this
        exact ⟨x, hx, e.symm⟩
      have hA6 := sb6 _ _ nAp upd_same
      refine ⟨(by show 1 ≤ sizeLine; decide), fun R nR => ?_⟩
      have s7 := same_new (o := .lst [V.str x]) nR
      refine ⟨A, R, _, _, rfl, rfl, s7 _ _ hA6, upd_same, szN _, fun S nS => ?_⟩
      have s8 := same_new (o := .lst ((ws.take i).map V.str ++ [V.str x])) nS
      have sb8 := ((Same.but s6).trans sb6).trans (Same.but (s7.trans s8))
      refine ⟨_, rfl, _, rfl, _, rfl, L, _, rfl, SqL.of (sb8 _ _ Lp hL5), fun B nB => ?_⟩
      rw [cut_from]
      have s9 := same_new (o := .lst ((ws.drop i).map V.str)) nB
      refine ⟨S, B, _, _, rfl, rfl, s9 _ _ upd_same, upd_same, szM i _, fun q nq => ?_⟩
      obtain ⟨ys, y1, y2, y3⟩ := three i (by omega) x q _ hx (sb8.trans (Same.but (s9.trans (same_new nq)))) ((pen6.le (by omega)).same ((s7.trans s8).trans (s9.trans (same_new nq)))) upd_same
      exact ⟨" ", q, ys, rfl, rfl, y1, y2, y3⟩
    · refine ⟨⟨_, rfl⟩, _, rfl, _, rfl, _, rfl, L, _, rfl, SqL.of hL5, fun A nA => ?_⟩
      rw [cut_to]
      have s6 := same_new (o := .lst ((ws.take i).map V.str)) nA
      have nAp : A ≠ p := Ne.symm (ne_of_none hp5 nA)
      refine ⟨_, rfl, _, rfl, p, l, O, _, _, rfl, pen5.same s6, (by omega), s6 _ _ hO, Op, (by show 0 < 16; decide), (by show 16 ≤ 1000; decide), fun j v H6 hj sb6 pen6 => ?_⟩
      obtain ⟨x, hx, rfl⟩ : ∃ x, x ∈ oddL ∧ v = .str x := by
        have := List.mem_of_getElem? hj
        obtain ⟨x, hx, e⟩ := List.mem_map.mp this
        exact ⟨x, hx, e.symm⟩
      have hA6 := sb6 _ _ nAp upd_same
      refine ⟨(by show 1 ≤ sizeLine; decide), fun R nR => ?_⟩
      have s7 := same_new (o := .lst [V.str x]) nR
      refine ⟨A, R, _, _, rfl, rfl, s7 _ _ hA6, upd_same, szN _, fun S nS => ?_⟩
      have s8 := same_new (o := .lst ((ws.take i).map V.str ++ [V.str x])) nS
      have sb8 := ((Same.but s6).trans sb6).trans (Same.but (s7.trans s8))
      refine ⟨_, rfl, _, rfl, _, _, rfl, rfl, _, rfl, L, _, rfl, SqL.of (sb8 _ _ Lp hL5), fun B nB => ?_⟩
      rw [plus, cut_from]
      have s9 := same_new (o := .lst ((ws.drop (i + 1)).map V.str)) nB
      refine ⟨S, B, _, _, rfl, rfl, s9 _ _ upd_same, upd_same, szM (i + 1) _, fun q nq => ?_⟩
      obtain ⟨ys, y1, y2, y3⟩ := three (i + 1) (by omega) x q _ hx (sb8.trans (Same.but (s9.trans (same_new nq)))) ((pen6.le (by omega)).same ((s7.trans s8).trans (s9.trans (same_new nq)))) upd_same
      exact ⟨" ", q, ys, rfl, rfl, y1, y2, y3⟩
end
end My
namespace My
open PySem PySem.Spec PyProof.Rows L2
abbrev sHeard : Stmt := top 27
abbrev sDue : Stmt := top 28
/-- a wish about errors, told only of states with as many slots as the def has names -/
theorem takes_len {X : Cx} {W : WX} (tk : Takes X W) : Takes X (fun cls d σ H => σ.length = X.N.length → W cls d σ H) := fun u s' ⟨a, B, sI, pins, σ, H, cls, d, e, I, nb, up, sky, na, os, ag, w⟩ =>
  tk u s' ⟨a, B, sI, pins, σ, H, cls, d, e, I, nb, up, sky, na, os, ag, w I.len⟩
theorem okGc {P : Program} {w : World} {K : PySem.W.Frag} {mg : Str → Option Value} {base : Heap} {x qual : Str} {st : Stmt} {f c : Addr} {fd : FuncData} {N ps : List Str} {k : Nat} {sp : Sp} (F : Fun K x qual st f fd) (hc : fd.code = .ref c) (S : FnScope N ps (defScope st)) (len : ∀ vs H Q E, sp vs H Q E → vs.length = ps.length)
    (body : ∀ (A : Around) (outer : List Env) (s : Shared) (H : Hp) (vs : List V) (Q : VK) (E : XK), A.guards = some [] → Room k (A.deeper (envOfC qual (defScope st) s.heap.objs.size f (.ref c))) → sp vs H Q E →
      ∃ t, PSs (cxOf CX0 P w K mg base N qual (defScope st) f (.ref c) A outer s H E).nox (defBody st) t ∧ t { nx := fun _ H' => Q .non H', rt := Q } (start N vs) H) : FnG P w K mg base CX0 (k + 1) f fd ps sp := by
  obtain ⟨oc, od, kV, doc, pm, an, cdv, ct, osl, e, lk, hcd⟩ := F.ex
  have ec : cdv = .ref c := by rw [e] at hc; exact hc
  subst ec
  subst e
  refine ⟨len, fun A outer s H args us vs Q E gd room e0 bnd rv hs => ?_⟩
  have inK : K.In s.heap := e0.mod.kin.keeps fun b o e => (e0.bs b o e).1
  have nol : s.heap.NoLimit := e0.mod.nolimit.keeps fun b o e => (e0.bs b o e).1
  refine codeAny_call_function room.depth (inK _ _ lk) rfl S.co S.gen rfl (PySem.W.codeRec_of inK hcd) (bnd _ _ _ _ (wpAny_newFunctionEnv_cells S.kind (fun y hy => ?_) fun env he s1 x => ?_))
  · exact (S.par y.1 (List.of_mem_zip hy).1).elim .inl fun q => .inr ⟨q, PySem.W.cellsFrom_some _ _ _ (.inl q)⟩
  subst he
  refine ⟨nol.keeps x.toInCall.keep, codeAny_func ?_⟩
  obtain ⟨t, ht, hq⟩ := body A outer s H vs Q E gd (room.deeper _) hs
  refine wpAny_mono (ht.nox.run [] s1 (start N vs) H _ (inv_start S room.hd e0 (len _ _ _ _ hs) rv x) hq) (fun fl s' z => ?_) fun e s' z => z
  match fl, z with
  | .ret u, ⟨v, σ', H', J, ru, q⟩ => exact ⟨v, H', J.os, J.bare, J.base, J.hok, ru, q⟩
  | .next, ⟨σ', H', J, q⟩ => exact ⟨V.non, H', J.os, J.bare, J.base, J.hok, rfl, q⟩
  | .brk, ⟨_, _, _, q⟩ => exact q.elim
  | .cont, ⟨_, _, _, q⟩ => exact q.elim
section
variable {P : Program} {w : World} {K : PySem.W.Frag} {mg : Str → Option Value} {base : Heap} {cBT fBT cTM fTM cDE g c Pt : Addr} {fdH : FuncData}
/-- what heard wishes of an error -/
def Ech (cBT cTM : Addr) (Q : VK) : XK := fun cls d H' => ∃ dd : Addr, d = some dd ∧
  ((cls = .ref cBT ∧ ∃ k : Nat, H' dd = some (.xd (badX k)) ∧ ∀ t H'', Same H' H'' → H' t = none → H'' t = some (.tup [.str "text", .int 0, .int (k : Nat)]) → Q (.ref t) H'') ∨
   (cls = .ref cTM ∧ ∃ (w : Str) (n : Int), H' dd = some (.xd [("most", .int n), ("what", .str w)]) ∧ ∀ t H'', Same H' H'' → H' t = none → H'' t = some (.tup [.str "many", .str w, .int n]) → Q (.ref t) H''))
/-- heard: what it returns in a list, or what was raised -/
def TTc (K : PySem.W.Frag) (cBT cTM : Addr) : (XK → Hp → VK → Prop) → Hp → VK → Prop := fun tl H Q => ∀ (H1 : Hp) (Q1 : VK), Same H H1 → (∀ v H2, (∀ t H3, Same H2 H3 → H2 t = none → H3 t = some (.lst [v]) → Q (.ref t) H3) → Q1 v H2) → tl (Ech cBT cTM Q) H1 Q1
structure HeardT (K : PySem.W.Frag) (mg : Str → Option Value) (cBT cTM cDE fBT fTM : Addr) : Prop where
  en : ErC K mg "BadText" "line" cBT fBT
  en2 : ErC K mg "BadText" "word" cBT fBT
  eu : ErC K mg "TooMany" "what" cTM fTM
  eu2 : ErC K mg "TooMany" "most" cTM fTM
  gDE : mg "DayError" = some (.ref cDE)
  xn : PySem.W.exmOne K (.ref cBT) (.ref cDE) = some true
  xu : PySem.W.exmOne K (.ref cTM) (.ref cDE) = some true
  knn : PySem.W.kitOne K (.ref cBT) (.ref cBT) = some true
  kun : PySem.W.kitOne K (.ref cTM) (.ref cBT) = some false
  kuu : PySem.W.kitOne K (.ref cTM) (.ref cTM) = some true
  zIsi : mg "isinstance" = none
  zRepr : mg "repr" = none
theorem scHeard : FnScope ["_law_ask", "_law_caught", "_law_found", "error"] ["_law_ask"] (defScope sHeard) := ⟨rfl, rfl, rfl, by decide +kernel, rfl, by decide +kernel, by decide +kernel⟩
theorem heard_gives {X : Cx} {g : Addr} {cdg : Value} {q : Str} (T : HeardT X.K X.mg cBT cTM cDE fBT fTM) (gd : X.A.guards = some []) (hu : ∀ e : Env, (X.A.deeper e).units + 70 < cLine) :
    LamX.GivesTo X ["_law_ask", "_law_caught", "_law_found", "error"] "_law_heard" (defScope sHeard) g cdg (defBody sHeard) "_law_ask" q (TTc X.K cBT cTM) := by
  intro f c' s H Q tl act hc h
  refine ⟨_, pss_cons (ps_asg (pe_tup (pa_cons pe_non (pa_cons pe_non pa_nil))) (pg_tup rfl (pgs_cons (pg_name (i := 1) scHeard.nd rfl (.inl rfl)) (pgs_cons (pg_name (i := 2) scHeard.nd rfl (.inl rfl)) pgs_nil))))
    (pss_cons (ps_try_keep (X := (cxOf C8.CX0 X.prog X.w X.K X.mg X.base ["_law_ask", "_law_caught", "_law_found", "error"] "_law_heard" (defScope sHeard) g cdg X.A X.stack s H C8.E0).nox) (c := .ref cDE) (i := 3)
        (tb := fun W D σ H => ∃ Ec : XK, (∀ cls d σ' H', Ec cls d H' → σ'.length = 4 → W cls d σ' H') ∧ σ[0]? = some (some (.ref f)) ∧ H c' = some (LamX.CodeO c' q) ∧ tl Ec H (fun v H1 => D.nx (σ.set 2 (some v)) H1))
        rfl rfl rfl scHeard.nd rfl rfl ⟨rfl, by decide, .inl T.gDE⟩ (fun W pn xe tk _ => ?_) (fun a oe cls d pn _ _ => pss_one (ps_set (i := 1) scHeard.nd rfl (Or.inl rfl) (pv 3))))
    (pss_cons (ps_if (pt_cmp (pc_isN (pv 1))) (pss_one (ps_ret (pe_lst (pa_cons (pv 2) pa_nil)))) pss_nil)
    (pss_cons (ps_if (pt_val (pe_callB call_isK (by rfl) T.zIsi (by decide +kernel) (pa_cons (pv 1) (pa_cons (pe_glob (v := .ref cBT) rfl T.en.g rfl) pa_nil))))
      (pss_one (ps_ret (pe_tup (pa_cons pe_str (pa_cons (pe_kf (pv 1)) (pa_cons (pe_kf (pv 1)) pa_nil)))))) pss_nil)
    (pss_cons (ps_if (pt_val (pe_callB call_isK (by rfl) T.zIsi (by decide +kernel) (pa_cons (pv 1) (pa_cons (pe_glob (v := .ref cTM) rfl T.eu.g rfl) pa_nil))))
      (pss_one (ps_ret (pe_tup (pa_cons pe_str (pa_cons (pe_kf (pv 1)) (pa_cons (pe_kf (pv 1)) pa_nil)))))) pss_nil)
    pss_never)))), ?_⟩
  · refine ⟨fun pins s' σ H' D I h' => ?_⟩
    obtain ⟨Ec, hW, h1, h2, h3⟩ := h'
    exact PSs.run (pss_one (ps_set (i := 2) scHeard.nd rfl (Or.inl rfl) (act _ pn xe Ec _ _ (takes_len tk) (fun cls d σ' H' e l => hW cls d σ' H' e l)))) pins s' σ H' D I ⟨h1, h2, h3⟩
  · refine ⟨(by show 2 ≤ sizeLine; decide), fun t0 n0 => ?_⟩
    refine ⟨t0, _, rfl, SqT.of upd_same, rfl, _, _, rfl, _, _, rfl, rfl, ?_⟩
    have s0 : Same H (upd H t0 (.tup [.non, .non])) := same_new n0
    refine ⟨_, fun cls d σ' H' e l => ?_, rfl, s0 _ _ hc, h _ _ s0 fun v H2 k => ?_⟩
    rotate_left
    · exact ⟨_, rfl, _, rfl, iteT ⟨_, rfl, (by show 1 ≤ sizeLine; decide), fun t nt => k t _ (same_new nt) nt upd_same⟩⟩
    · obtain ⟨x0, x1, x2, x3, rfl⟩ : ∃ x0 x1 x2 x3, σ' = [x0, x1, x2, x3] := by
        match σ', l with
        | [x0, x1, x2, x3], _ => exact ⟨_, _, _, _, rfl⟩
      obtain ⟨dd, rfl, e⟩ := e
      rcases e with ⟨rfl, n, hdd, k⟩ | ⟨rfl, wd, n, hdd, k⟩
      · refine ⟨T.xn, fun a na => ⟨_, rfl, fun na' => ?_⟩⟩
        have s1 : Same H' (upd H' a (ErrO a (.ref cBT) (some dd))) := same_new na
        have ke : Kept (upd H' a (ErrO a (.ref cBT) (some dd))) a cBT dd (badX n) := ⟨upd_same, s1 _ _ hdd⟩
        refine ⟨_, rfl, _, rfl, iteF ?_⟩
        refine ⟨_, rfl, a, cBT, dd, badX n, .ref cBT, .ref cBT, true, rfl, ke, T.en.ec, (fun u q => q), T.knn, _, rfl, iteT ?_⟩
        refine ⟨_, rfl, a, cBT, dd, badX n, .int 0, rfl, ke, T.en.xf, T.en.no, rfl, _, rfl, a, cBT, dd, badX n, .int (n : Nat), rfl, ke, T.en2.xf, T.en2.no, rfl, ?_⟩
        refine ⟨(by show 3 ≤ sizeLine; decide), fun t nt => k t _ (s1.trans (same_new nt)) (s1.free nt) upd_same⟩
      · refine ⟨T.xu, fun a na => ⟨_, rfl, fun na' => ?_⟩⟩
        have s1 : Same H' (upd H' a (ErrO a (.ref cTM) (some dd))) := same_new na
        have ke : Kept (upd H' a (ErrO a (.ref cTM) (some dd))) a cTM dd [("most", .int n), ("what", .str wd)] := ⟨upd_same, s1 _ _ hdd⟩
        refine ⟨_, rfl, _, rfl, iteF ?_⟩
        refine ⟨_, rfl, a, cTM, dd, _, .ref cBT, .ref cBT, false, rfl, ke, T.eu.ec, (fun u q => q), T.kun, _, rfl, iteF ?_⟩
        refine ⟨_, rfl, a, cTM, dd, _, .ref cTM, .ref cTM, true, rfl, ke, T.eu.ec, (fun u q => q), T.kuu, _, rfl, iteT ?_⟩
        refine ⟨_, rfl, a, cTM, dd, _, .str wd, rfl, ke, T.eu.xf, T.eu.no, rfl, _, rfl, a, cTM, dd, _, .int n, rfl, ke, T.eu2.xf, T.eu2.no, rfl, ?_⟩
        refine ⟨(by show 3 ≤ sizeLine; decide), fun t nt => k t _ (s1.trans (same_new nt)) (s1.free nt) upd_same⟩
/-- heard(lambda: ..) -/
theorem pe_heard {X : Cx} {k : Nat} {params : Arguments} {body : Expr} {scope : Scope} {t : XK → TE} {p lpos pos : Pos} (qn : Str) (hq : X.env.qual = qn) (FH : Fun X.K "_law_heard" "_law_heard" sHeard g fdH) (bH : Binds X.K fdH ["_law_ask"] []) (gH : X.mg "_law_heard" = some (.ref g)) (T : HeardT X.K X.mg cBT cTM cDE fBT fTM)
    (gd : X.A.guards = some []) (TB : LamX.TabB X.base X.mg c Pt) (hcode : X.env.code = .ref c) (hr : Room (k + 2) X.A) (hgl : Gl X "_law_heard") (sc : Scope) (hsc : X.env.scope = sc) (hL : LamX.lamSB sc scope = true) (hdef : defaultsOf params X.env = ([], []))
    (hbind : ∀ (q : Str) (cl : List (Str × Addr)) (pm cv ctv : Value), bindArgs (PySem.W.kla_fn "<lambda>" q params body scope cl pm cv ctv) ⟨[], []⟩ = pure [])
    (hbody : ∀ (A : Around) (outer : List Env) (s : Shared) (H : Hp) (E : XK) (f c' : Addr), Room k (A.deeper (LamX.lamEnv X scope s.heap.objs.size f c')) → PE (LamX.lamCx X A outer s H E scope f c') body (t E)) :
    PE X (.Call (.Name "_law_heard" p) [.Lambda params body scope lpos] [] pos) (LamX.tLam [(Pt, qn ++ Str.ofString "<lambda>")] (TTc X.K cBT cTM) t) := by
  subst hq
  obtain ⟨oc, od, kV, doc, pm, an, cdv, ct, osl, rfl, lk, hcd⟩ := FH.ex
  refine LamX.pe_lamcall (Ng := ["_law_ask", "_law_caught", "_law_found", "error"]) hgl gH FH.kp lk hcd bH scHeard rfl (.inl rfl) (heard_gives T gd fun e => ?_) TB hcode List.mem_cons_self (fun q hq _ => by rw [List.mem_singleton.mp hq]) hr (by rw [hsc]; exact LamX.lamS_by hL) hdef hbind hbody
  have := (hr.deeper e).un
  omega
/-- for i, x in enumerate(list) -/
theorem for_enumL {K : PySem.W.Frag} {a : Addr} {xs : List V} {g : TG} {tb : TS} {D : Ends} {σ : L2.St} {H : Hp} (Pv : Nat → L2.St → Hp → Prop) (h0 : Pv 0 σ H) (hl : ∀ i σ H, i ≤ xs.length → Pv i σ H → SqL K H a xs)
    (hs : ∀ i x σ H T, xs[i]? = some x → Pv i σ H → H T = none → g (.ref T) σ (upd H T (.tup [.int (i : Nat), x])) fun σ2 H2 => tb { D with nx := Pv (i + 1), ct := Pv (i + 1), bk := D.nx } σ2 H2) (hd : ∀ σ H, Pv xs.length σ H → D.nx σ H) :
    ∃ W : Nat → Nat → L2.St → Hp → Prop, (∃ m, W 0 m σ H) ∧ ∀ i m σ H, W i m σ H →
      ((Ite K a).stop i H ∧ D.nx σ H) ∨ ((Ite K a).go i H ∧ ∃ N : L2.St → Hp → Prop, (∀ σ' H', N σ' H' → ∃ m', m' < m ∧ W (i + 1) m' σ' H') ∧ ∀ x H', (Ite K a).yld i H x H' → g x σ H' fun σ2 H2 => tb { D with nx := N, ct := N, bk := D.nx } σ2 H2) := by
  refine ⟨fun i m σ H => m = xs.length - i ∧ i ≤ xs.length ∧ Pv i σ H, ⟨xs.length, by simp, Nat.zero_le _, h0⟩, ?_⟩
  rintro i m σ H ⟨rfl, hi, p⟩
  have q := hl i σ H hi p
  by_cases hlt : i < xs.length
  · refine .inr ⟨⟨xs, xs[i], q, by simp [hlt]⟩, Pv (i + 1), fun σ' H' p' => ⟨xs.length - (i + 1), by omega, rfl, hlt, p'⟩, fun x H' y => ?_⟩
    obtain ⟨T, x, rfl, hT, rfl, y⟩ := y
    exact hs i x σ H T (y xs q) p hT
  · have e : i = xs.length := by omega
    subst e
    exact .inl ⟨⟨xs, q, Nat.le_refl _⟩, hd σ H p⟩
variable {C fWhole fBetw fDay fChk : Addr}
/-- what the law hears of a line that is refused -/
def dueR : Out → Option (List V)
  | .cyc k => some [.str "text", .int 0, .int (k : Nat)]
  | .many w n => some [.str "many", .str w, .int n]
  | .ok _ => none
inductive DueR (H : Hp) (o : Out) : V → Prop where
  | yes {us : List V} {t : Addr} (e : dueR o = some us) (h : H t = some (.tup us)) : DueR H o (.ref t)
  | no {t f : Addr} {ls : List Int} (e : o = .ok ls) (h : H t = some (.lst [.ref f])) (hf : H f = some (.lst (ls.map V.int))) : DueR H o (.ref t)
theorem inV_strs (x : Str) : ∀ l : List Str, inV (.str x) (l.map V.str) = l.contains x
  | [] => rfl
  | a :: r => by
    have ih := inV_strs x r
    rw [List.contains_cons, ← ih]
    show ((a == x) || inV (.str x) (r.map V.str)) = ((x == a) || inV (.str x) (r.map V.str))
    rw [show (a == x) = (x == a) from by rw [Bool.eq_iff_iff, beq_iff_eq, beq_iff_eq, eq_comm]]
theorem nums_len : numsW.length = 60 := by decide +kernel
theorem nums_at {i : Nat} (h : i < 60) : numsW[i]? = some (toString (1 + (i : Int)) : String) := by
  unfold numsW
  rw [List.getElem?_map, List.getElem?_range h]
  rfl
def spDue : Sp := fun vs H Q _ => ∃ (ws : List Str), vs = [.str (Txt.join " " ws)] ∧ LineOk ws ∧ ∀ v H', Same H H' → DueR H' (outR ws) v → Q v H'
theorem scDue : FnScope ["_law_line_so", "_law_found", "_law_at", "_law_word_so", "_law_number"] ["_law_line_so"] (defScope sDue) := ⟨rfl, rfl, rfl, by decide +kernel, rfl, by decide +kernel, by decide +kernel⟩
theorem ok_due {f : Addr} {fd : FuncData} (F : Fun K "_law_due" "_law_due" sDue f fd) (T : Txt K mg C fWhole fBetw fDay fChk) : FnOk P w K mg base CX0 1 f fd ["_law_line_so"] spDue := by
  refine F.ok scDue (fun vs H Q E h => ?_) (fun cdv A outer s H vs Q E hr h => ?_)
  · obtain ⟨ws, rfl, _⟩ := h
    rfl
  · obtain ⟨ws, rfl, lo, k⟩ := h
    have k1 : ∀ us, dueR (outR ws) = some us → ∀ t H', Same H H' → H' t = some (.tup us) → Q (.ref t) H' := fun us e t H' s h => k _ H' s (.yes e h)
    refine ⟨_, pss_cons (ps_set (i := 1) scDue.nd rfl (Or.inl rfl) (pe_lst pa_nil))
      (pss_cons (ps_for PassesOwn.never rfl (pi_enum (by rfl) T.zEnum (pa_cons (pe_split (pv 0) pe_str) pa_nil)) (pg_tup rfl (pgs_cons (pg_name (i := 2) scDue.nd rfl (.inl rfl)) (pgs_cons (pg_name (i := 3) scDue.nd rfl (.inl rfl)) pgs_nil)))
        (pss_cons (ps_if (pt_cmpR op_notIn_seq (pv 3) (pe_lc (own := [("_law_number", 4)]) (g := gName 4) (tt := tYes) rfl scDue.nd (pi_range2 rfl T.zRange (pa_cons pe_int (pa_cons pe_int pa_nil)))
            (blkOk_by (N := ["_law_line_so", "_law_found", "_law_at", "_law_word_so", "_law_number"]) (sc := defScope sDue) (by decide +kernel)) (fun _ _ _ _ _ => pg_name (i := 4) scDue.nd rfl (Or.inl rfl)) (fun _ _ _ _ _ => pts_nil)
            (fun _ _ _ _ _ => pe_callTy call_str_int (by rfl) T.zStr (by decide +kernel) (pa_cons (pv 4) pa_nil))) (by rfl))
          (pss_one (ps_ret (pe_tup (pa_cons pe_str (pa_cons pe_int (pa_cons (pv 2) pa_nil)))))) pss_nil)
        (pss_one (ps_expr (pe_bm PySem.F.plainAttrs_list PySem.F.slot_list_append PySem.F.type_list_append mt_append (pv 1) (pa_cons (pe_callTy call_int_str (by rfl) T.zInt (by decide +kernel) (pa_cons (pv 3) pa_nil)) pa_nil))))))
      (pss_cons (ps_if (pt_cmpR op_gt (pe_callB call_len_seq (by rfl) T.zLen PySem.boot_len (pa_cons (pv 1) pa_nil)) pe_int (nomark _)) (pss_one (ps_ret (pe_tup (pa_cons pe_str (pa_cons pe_str (pa_cons pe_int pa_nil)))))) pss_nil)
      (pss_one (ps_ret (pe_ifExp (pt_cmpR op_gt (pe_callB (cr_sum rfl) (by rfl) T.zSum (by decide +kernel) (pa_cons (pv 1) pa_nil)) pe_int (nomark _)) (pe_tup (pa_cons pe_str (pa_cons pe_str (pa_cons pe_int pa_nil)))) (pe_lst (pa_cons (pv 1) pa_nil))))))), ?_⟩
    have ll := line_len lo.mem
    have hf := lo.few
    refine ⟨(by show 0 ≤ sizeLine; decide), fun Fd nF => ?_⟩
    have s1 := same_new (o := .lst []) nF
    have hF : (upd H Fd (.lst [])) Fd = some (.lst []) := upd_same
    generalize upd H Fd (.lst []) = H1 at s1 hF ⊢
    refine ⟨_, rfl, ⟨_, rfl⟩, _, " ", rfl, rfl, by decide +kernel, (by rw [sizeLine_eq]; omega), fun L nL => ?_⟩
    rw [split_W lo.ne lo.mem]
    have s2 := same_new (o := .lst (ws.map V.str)) nL
    have hL : (upd H1 L (.lst (ws.map V.str))) L = some (.lst (ws.map V.str)) := upd_same
    have FL : Fd ≠ L := ne_of_none hF nL
    have hF2 := s2 _ _ hF
    have sH := s1.trans s2
    generalize upd H1 L (.lst (ws.map V.str)) = H2 at s2 hL hF2 sH ⊢
    refine ⟨L, _, rfl, SqL.of hL, for_enumL (K := K) (a := L) (xs := ws.map V.str) (fun i σ H' => ∃ (u v w : Option V), σ = [some (.str (Txt.join " " ws)), some (.ref Fd), u, v, w] ∧ Same H H' ∧ H' L = some (.lst (ws.map V.str)) ∧ H' Fd = some (.lst (((ws.take i).map valOf).map V.int)) ∧ ∀ j, j < i → ∀ y, ws[j]? = some y → okW y = true)
      ⟨none, none, none, rfl, sH, hL, hF2, fun j hj => absurd hj (Nat.not_lt_zero _)⟩ (fun i σ H' _ ⟨_, _, _, _, _, q, _⟩ => SqL.of q) ?_ ?_⟩
    · rintro i x σ H' Tn hi ⟨u, v, w', rfl, s3, hL3, hF3, ok⟩ hT
      obtain ⟨y, hy, rfl⟩ : ∃ y, ws[i]? = some y ∧ x = V.str y := by
        rw [List.getElem?_map] at hi
        cases e : ws[i]? with
        | none => rw [e] at hi; cases hi
        | some z => rw [e] at hi; exact ⟨z, rfl, (Option.some.inj hi).symm⟩
      have my := lo.mem y (List.mem_of_getElem? hy)
      have li : i < ws.length := (List.getElem?_eq_some_iff.mp hy).1
      have s4 := same_new (o := .tup [.int (i : Nat), .str y]) hT
      refine ⟨Tn, _, rfl, SqT.of upd_same, rfl, _, _, rfl, _, _, rfl, rfl, ?_⟩
      have hL4 := s4 _ _ hL3
      have hF4 := s4 _ _ hF3
      have sH4 := s3.trans s4
      generalize upd H' Tn (.tup [.int (i : Nat), .str y]) = H4 at s4 hL4 hF4 sH4 ⊢
      refine ⟨_, rfl, _, _, rfl, by decide, fun D hD => ?_⟩
      have FD : Fd ≠ D := ne_of_none hF4 hD
      have LD : L ≠ D := ne_of_none hL4 hD
      refine lc_range (lo := 1) (n := 60) (fun j H' => H' D = some (.lst ((numsW.take j).map V.str)) ∧ ∀ b o, b ≠ D → H4 b = some o → H' b = some o) ⟨upd_same, fun b o nb e => by rw [upd_ne nb]; exact e⟩ ?_ ?_
      · rintro j H5 hj ⟨hA, q⟩
        refine ⟨rfl, ?_⟩
        unfold tYes
        dsimp only
        rw [if_pos rfl]
        refine ⟨_, rfl, 1 + (j : Int), rfl, log60 (by omega) (by omega), _, hA, ?_, ?_, fun b o nb e => ?_⟩
        · rw [List.length_map]
          exact small1000 (Nat.le_trans (List.length_take_le _ _) (by omega))
        · rw [upd_same, List.take_succ, nums_at hj]
          simp
        · rw [upd_ne nb]
          exact q b o nb e
      · rintro H5 ⟨hD5, q⟩
        have s5 : Same H4 H5 := fun b o e => q b o (ne_of_none e hD) e
        have sH5 := sH4.trans s5
        have hL5 := s5 _ _ hL4
        have hF5 := s5 _ _ hF4
        rw [List.take_of_length_le (by rw [nums_len]; exact Nat.le_refl _)] at hD5
        refine ⟨D, numsW.map V.str, rfl, .inl (SqL.of hD5), rfl, by decide +kernel, _, rfl, ?_⟩
        rw [inV_strs, W_ok my]
        cases e : okW y with
        | false =>
          refine iteT ⟨_, rfl, (by show 3 ≤ sizeLine; decide), fun t nt => ?_⟩
          refine k1 _ ?_ t _ (sH5.trans (same_new nt)) upd_same
          unfold outR
          rw [badW_at hy ok e]
          rfl
        | true =>
          obtain ⟨e1, _, _, e2⟩ := ok_val e
          refine iteF ⟨_, rfl, .inl ⟨rfl, _, SqL.of hF5⟩, _, rfl, y, valOf y, rfl, e2, Nat.le_trans (W_len my) (by decide), Fd, _, .int (valOf y), rfl, rfl, hF5, ?_, ?_⟩
          · rw [List.length_map, List.length_map]
            exact small1000 (Nat.le_trans (List.length_take_le _ _) (by omega))
          · refine ⟨_, _, _, rfl, ?_, ?_, ?_, ?_⟩
            · intro b o eb
              rw [upd_ne (ne_of_none eb nF)]
              exact sH5 _ _ eb
            · rw [upd_ne (Ne.symm FL)]
              exact hL5
            · rw [upd_same, List.take_succ, hy]
              simp
            · intro j hj z hz
              by_cases c : j = i
              · subst c
                rw [hy] at hz
                cases hz
                exact e
              · exact ok j (by omega) z hz
    · rintro σ H' ⟨u, v, w', rfl, s3, hL3, hF3, ok⟩
      rw [List.length_map, List.take_of_length_le (Nat.le_refl _)] at hF3
      have none_ : badW ws = none := badW_all fun j y hy => ok j (by rw [List.length_map]; exact (List.getElem?_eq_some_iff.mp hy).1) y hy
      have ne : ws.map valOf ≠ [] := fun q => lo.ne (List.map_eq_nil_iff.mp q)
      have eO : outR ws = if 12 < (ws.map valOf).length then .many "blocks" 12 else if 60 < (ws.map valOf).sum then .many "days" 60 else .ok (ws.map valOf) := by
        have z : outR ws = outOf ((ws.map valOf).map V.int) := by unfold outR; rw [none_]
        rw [z, out_vals (vals_ok none_) ne]
      refine ⟨_, rfl, Fd, _, rfl, .inl (SqL.of hF3), _, _, rfl, rfl, _, rfl, ?_⟩
      rw [List.length_map]
      by_cases e2 : 12 < (ws.map valOf).length
      · rw [if_pos e2] at eO
        rw [decide_eq_true (by omega)]
        exact iteT ⟨(by show 3 ≤ sizeLine; decide), fun q nq => k1 _ (by rw [eO]; rfl) q _ (s3.trans (same_new nq)) upd_same⟩
      · rw [if_neg e2] at eO
        rw [decide_eq_false (by omega)]
        refine iteF ⟨_, rfl, Fd, ws.map valOf, rfl, SqL.of hF3, _, _, rfl, rfl, _, rfl, ?_⟩
        by_cases e3 : 60 < (ws.map valOf).sum
        · rw [if_pos e3] at eO
          rw [decide_eq_true e3]
          exact iteT ⟨(by show 3 ≤ sizeLine; decide), fun q nq => k1 _ (by rw [eO]; rfl) q _ (s3.trans (same_new nq)) upd_same⟩
        · rw [if_neg e3] at eO
          rw [decide_eq_false e3]
          refine iteF ⟨_, rfl, (by show 1 ≤ sizeLine; decide), fun t nt => k _ _ (s3.trans (same_new nt)) (.no eO upd_same ?_)⟩
          exact same_new nt _ _ hF3
end
end My
namespace My
open PySem PySem.Spec PyProof.Rows L2
abbrev sLaw : Stmt := top 30
def gD {α : Type} : List α → List α → List α
  | [a], [d] => [a, d]
  | _, _ => []
theorem rel_D {vs : List V} {us : List Value} {zs : List V} {ws : List Value} (r1 : Vals vs us) (r2 : Vals zs ws) : Vals (gD vs zs) (gD us ws) := by
  cases r1 with
  | nil => exact .nil
  | cons h1 t1 =>
    cases t1 with
    | cons _ _ => exact .nil
    | nil =>
      cases r2 with
      | nil => exact .nil
      | cons h2 t2 =>
        cases t2 with
        | nil => exact .cons h1 (.cons h2 .nil)
        | cons _ _ => exact .nil
theorem kb_of {K : PySem.W.Frag} {x qual : Str} {st : Stmt} {f : Addr} {fd : FuncData} (F : Fun K x qual st f fd) (h : ∀ (kV doc pm : Value) (an : Option Addr) (cdv ct a d : Value), bindArgs (PySem.W.fnOf x qual (defArgs st) (defBody st) (defScope st) .none kV doc pm an cdv ct) ⟨[a], [("text", d)]⟩ = pure [(("cls" : Str), a), (("text" : Str), d)]) :
    KBinds K fd ["cls", "text"] ["text"] gD gD := by
  obtain ⟨oc, od, kV, doc, pm, an, cdv, ct, osl, rfl, lk, hcd⟩ := F.ex
  refine ⟨fun s us ws _ hl => ?_, rel_D⟩
  match us, ws, hl with
  | [a], [d], _ => exact .of_eq (h kV doc pm an cdv ct a d)
  | [], _, hl => exact absurd hl (by simp [gD])
  | [_], [], hl => exact absurd hl (by simp [gD])
  | [_], _ :: _ :: _, hl => exact absurd hl (by simp [gD])
  | _ :: _ :: _, _, hl => exact absurd hl (by simp [gD])
theorem tabs_but {T : List (Addr × Str)} {H H' : Hp} {L : Addr} {xs : List V} (t : LamX.Tabs T H) (s : SameBut L H H') (hL : H L = some (.lst xs)) : LamX.Tabs T H' := fun q hq => by
  obtain ⟨ps, h1, h2, h3⟩ := t q hq
  refine ⟨ps, s _ _ (ne_of h1 hL (by intro z; cases z)) h1, h2, fun pos cv hc => ?_⟩
  obtain ⟨c, e1, e2⟩ := h3 pos cv hc
  exact ⟨c, e1, s _ _ (ne_of e2 hL (by intro z; unfold LamX.CodeO at z; cases z)) e2⟩
theorem tabs_same {T : List (Addr × Str)} {H H' : Hp} (t : LamX.Tabs T H) (s : Same H H') : LamX.Tabs T H' := t.ext s
theorem pen_ext {H H' : Hp} {p l : Addr} {N : Int} (h : PenAt H p l N) (s : LamX.ExtN H H') : PenAt H' p l N := by
  obtain ⟨ms, n, c, e1, e2, z⟩ := h.ex
  exact ⟨ms, n, c, s _ _ e1 (fun _ q => by cases q), s _ _ e2 (fun _ q => by cases q), z⟩
/-- a heard value -/
def HdR (C : Addr) (H : Hp) (t : Addr) (o : Out) : Prop :=
  match o with
  | .cyc k => H t = some (.tup [.str "text", .int 0, .int (k : Nat)])
  | .many w n => H t = some (.tup [.str "many", .str w, .int n])
  | .ok ls => ∃ m, H t = some (.lst [.ref m]) ∧ CycAt C H m ls
theorem HdR.ext {C t : Addr} {H H' : Hp} {o : Out} (h : HdR C H t o) (s : LamX.ExtN H H') : HdR C H' t o := by
  cases o with
  | cyc k => exact s _ _ h (fun _ q => by cases q)
  | many w n => exact s _ _ h (fun _ q => by cases q)
  | ok ls => exact let ⟨m, h1, h2⟩ := h; ⟨m, s _ _ h1 (fun _ q => by cases q), h2.ext s⟩
theorem DueR.ext {H H' : Hp} {o : Out} {v : V} (d : DueR H o v) (s : LamX.ExtN H H') : DueR H' o v := by
  cases d with
  | yes e h => exact .yes e (s _ _ h fun _ q => by cases q)
  | no e h hf => exact .no e (s _ _ h fun _ q => by cases q) (s _ _ hf fun _ q => by cases q)
/-- what a lambda's reading of a line asks, if heard gives it on -/
theorem heard_errs {C cBT cTM : Addr} {ws : List Str} {H : Hp} {Q : VK} (k : ∀ t H', Same H H' → H t = none → HdR C H' t (outR ws) → Q (.ref t) H') : ErrsR cBT cTM (outR ws) H (Ech cBT cTM Q) := by
  cases e : outR ws with
  | cyc n => exact fun dd H' s h => ⟨dd, rfl, .inl ⟨rfl, n, h, fun t H'' s' n' ht => k t H'' (s.trans s') (s.free n') (by rw [e]; exact ht)⟩⟩
  | many w n => exact fun dd H' s h => ⟨dd, rfl, .inr ⟨rfl, w, n, h, fun t H'' s' n' ht => k t H'' (s.trans s') (s.free n') (by rw [e]; exact ht)⟩⟩
  | ok ls => trivial
theorem heard_ok {C : Addr} {ws : List Str} {H : Hp} {Q Q1 : VK} (hQ : ∀ v H2, (∀ t H3, Same H2 H3 → H2 t = none → H3 t = some (.lst [v]) → Q (.ref t) H3) → Q1 v H2) (k : ∀ t H', Same H H' → H t = none → HdR C H' t (outR ws) → Q (.ref t) H') :
    ∀ ls, outR ws = .ok ls → ∀ q H', Same H H' → CycAt C H' q ls → Q1 (.ref q) H' := fun ls e q H' s c => hQ (.ref q) H' fun t H3 s3 n3 h3 => k t H3 (s.trans s3) (s.free n3) (by rw [e]; exact ⟨q, h3, c.same s3⟩)
theorem out_good {ls : List Int} (g : Good ls) : outOf (ls.map V.int) = .ok ls := by
  have h1 := g.ne
  have h2 := g.few
  have h3 := g.sum
  unfold outOf
  rw [good_all g.pos]
  dsimp only
  rw [List.length_map, int_back, if_neg (by omega), if_neg (by omega), if_neg (by omega)]
theorem mk_good {C cBC cTM : Addr} {ls : List Int} {H : Hp} {Q : VK} {E : XK} (g : Good ls) (k : ∀ p H', Same H H' → CycAt C H' p ls → Q (.ref p) H') : MkC C cBC cTM (ls.map V.int) H Q E := by
  have e := out_good g
  refine ⟨fun x hx => ?_, by rw [List.length_map]; exact Nat.le_trans g.few (by decide), ?_, fun ms em p H' s c => ?_⟩
  · obtain ⟨i, _, rfl⟩ := List.mem_map.mp hx
    exact .int i
  · rw [e]; trivial
  · rw [e] at em
    cases em
    exact k p H' s c
theorem star_good {C cBC cTM : Addr} {ls : List Int} {us : List V} {H : Hp} {R : Hp → Prop} {E : XK} (g : Good ls) (hu : us = ls.map V.int) {x dx : Addr} (nx : H x = none) (nd : H dx = none) (ne : dx ≠ x) (kk : ∀ H', Same H H' → CycAt C H' x ls → R H') :
    spStarO C cBC cTM (V.ref x :: us) (upd (upd H dx (.own x)) x (.ins C dx [])) (fun v H2 => v = .non ∧ R H2) E := by
  subst hu
  have m : MkC C cBC cTM (ls.map V.int) H (fun v H' => v = .ref x → R H') E := mk_good g fun p H' s c e => by
    cases e
    exact kk H' s c
  have z := m.star nx nd ne
  have e : (fun (v : V) (H2 : Hp) => v = V.non ∧ (V.ref x = V.ref x → R H2)) = (fun v H2 => v = V.non ∧ R H2) := by
    funext v H2
    simp
  rw [e] at z
  exact z
/-- what is due, as data -/
def dueD (o : Out) : PyData := match o with
  | .cyc k => .tuple [.str "text", .int 0, .int (k : Nat)]
  | .many w n => .tuple [.str "many", .str w, .int n]
  | .ok _ => .none
theorem strOk_of (s : String) : PyData.strOk (Str.ofString s) = true := by
  rw [show Str.ofString s = ⟨(s.toList.map Char.toNat).toArray⟩ from PySem.Str.ofString_eq_toList s]
  unfold PyData.strOk
  rw [List.all_toArray, List.all_eq_true]
  intro n hn
  obtain ⟨c, _, rfl⟩ := List.mem_map.mp hn
  have h := c.valid
  rw [decide_eq_true_eq]
  have e : c.toNat = c.val.toNat := rfl
  unfold UInt32.isValidChar Nat.isValidChar at h
  omega
theorem out_word {xs : List V} {w : Str} {n : Int} (h : outOf xs = .many w n) : PyData.strOk w = true := by
  unfold outOf at h
  split at h
  · cases h
  · split at h
    · cases h
    · split at h
      · cases h
        exact strOk_of "blocks"
      · split at h
        · cases h
          exact strOk_of "days"
        · cases h
theorem outR_word {ws : List Str} {w : Str} {n : Int} (h : outR ws = .many w n) : PyData.strOk w = true := by
  unfold outR at h
  split at h
  · cases h
  · exact out_word h
theorem due_shaped {ws : List Str} {us : List V} (h : dueR (outR ws) = some us) : SeqAt.shaped (dueD (outR ws)) = true := by
  cases e : outR ws with
  | cyc k =>
    show (PyData.canLay0 _ && decide (PyData.depth _ ≤ 64)) = true
    rw [Bool.and_eq_true, decide_eq_true_eq]
    refine ⟨?_, ?_⟩
    · simp only [dueD, PyData.canLay0, PyData.canLayAll0, strOk_of, Bool.and_self]
    · simp [dueD, PyData.depth, PyData.depthAll]
  | many w n =>
    show (PyData.canLay0 _ && decide (PyData.depth _ ≤ 64)) = true
    rw [Bool.and_eq_true, decide_eq_true_eq]
    refine ⟨?_, ?_⟩
    · simp only [dueD, PyData.canLay0, PyData.canLayAll0, strOk_of, outR_word e, Bool.and_self]
    · simp [dueD, PyData.depth, PyData.depthAll]
  | ok ls =>
    rw [e] at h
    cases h
theorem due_dp {K : PySem.W.Frag} {H : Hp} {t : Addr} {o : Out} {us : List V} (e : dueR o = some us) (h : H t = some (.tup us)) : Dp K H (.ref t) (dueD o) := by
  cases o with
  | cyc k => cases e; exact .tup (SqT.of h) (.cons (.str _) (.cons (.int _) (.cons (.int _) .nil)))
  | many w n => cases e; exact .tup (SqT.of h) (.cons (.str _) (.cons (.str _) (.cons (.int _) .nil)))
  | ok ls => cases e
theorem heard_due {C t : Addr} {H : Hp} {o : Out} {us : List V} (h : HdR C H t o) (e : dueR o = some us) : H t = some (.tup us) := by
  cases o with
  | cyc k => cases e; exact h
  | many w n => cases e; exact h
  | ok ls => cases e
def rTupOf (K : PySem.W.Frag) : List V → Hp → VK → Prop := fun xs H Q => ∃ p ys, xs = [V.ref p] ∧ ((SqL K H p ys ∧ ∀ l, H l = none → Q (.ref l) (upd H l (.tup ys))) ∨ (SqT K H p ys ∧ Q (.ref p) H))
theorem cr_tupOf {X : Cx} : CallR X (.type "tuple") (rTupOf X.K) := call_tuple_of
theorem kll : kitB "list" "list" = some true := by decide +kernel
theorem ktl : kitB "tuple" "list" = some false := by decide +kernel
def wordsOf (ls : List Int) : List Str := ls.map fun l => (toString l : String)
theorem text_words (ls : List Int) : textL ls = Txt.join " " (wordsOf ls) := rfl
theorem nums_val : (List.range 60).all (fun (i : Nat) => valW ((toString (1 + (i : Int)) : String) : Str) == some (1 + (i : Int))) = true := by decide +kernel
theorem num_val {l : Int} (h : 1 ≤ l ∧ l ≤ 60) : valW ((toString l : String) : Str) = some l := by
  obtain ⟨i, hi⟩ : ∃ i : Nat, l = 1 + (i : Int) := ⟨(l - 1).toNat, by omega⟩
  have := List.all_eq_true.mp nums_val i (List.mem_range.mpr (by omega))
  rw [hi]
  exact beq_iff_eq.mp this
theorem num_in {l : Int} (h : 1 ≤ l ∧ l ≤ 60) : ((toString l : String) : Str) ∈ WSet := by
  obtain ⟨i, hi⟩ : ∃ i : Nat, l = 1 + (i : Int) := ⟨(l - 1).toNat, by omega⟩
  rw [hi]
  exact List.mem_append_left _ (List.mem_of_getElem? (nums_at (i := i) (by omega)))
theorem words_ok {ls : List Int} (g : Good ls) : LineOk (wordsOf ls) :=
  ⟨fun z => by
    have h := congrArg List.length z
    unfold wordsOf at h
    rw [List.length_map] at h
    have := g.ne
    rw [h] at this
    exact absurd this (by decide),
  fun w hw => by
    obtain ⟨l, hl, rfl⟩ := List.mem_map.mp hw
    exact num_in (g.pos l hl), by unfold wordsOf; rw [List.length_map]; have := g.few; omega⟩
theorem words_val : ∀ {ls : List Int}, (∀ l ∈ ls, 1 ≤ l ∧ l ≤ 60) → (wordsOf ls).map valOf = ls
  | [], _ => rfl
  | a :: r, h => by
    have h1 := num_val (h a (by simp))
    have h2 := words_val (ls := r) fun l hl => h l (by simp [hl])
    show valOf _ :: (wordsOf r).map valOf = a :: r
    rw [h2]
    unfold valOf
    rw [h1]
    rfl
theorem words_out {ls : List Int} (g : Good ls) : outR (wordsOf ls) = .ok ls := by
  have b : badW (wordsOf ls) = none := badW_all fun j y hy => by
    obtain ⟨l, hl, rfl⟩ := List.mem_map.mp (List.mem_of_getElem? hy)
    have p := g.pos l hl
    unfold okW
    rw [num_val p]
    show (decide (1 ≤ l) && decide (l ≤ 60)) = true
    rw [decide_eq_true p.1, decide_eq_true p.2]
    rfl
  unfold outR
  rw [b, words_val g.pos]
  exact out_good g
theorem out_empty : outR [""] = .cyc 0 := by
  have b : badW [("" : Str)] = some 0 := by decide +kernel
  unfold outR
  rw [b]
theorem empty_line : (V.str "") = V.str (Txt.join " " [("" : Str)]) := by
  have : ("" : Str) = Txt.join " " [("" : Str)] := by decide +kernel
  rw [← this]
theorem empty_ok : LineOk [("" : Str)] := ⟨by simp, fun w hw => by rw [List.mem_singleton.mp hw]; exact empty_in, by show 1 ≤ 200; decide⟩
/-- a property, a dunder of Cycle -/
structure CP (P : Program) (w : World) (K : PySem.W.Frag) (mg : Str → Option Value) (base : Heap) (C : Addr) (x : Str) (sp : Sp) (pr f : Addr) (fd : FuncData) : Prop where
  F : FnOk P w K mg base CX0 1 f fd ["self"] sp
  b : Binds K fd ["self"] []
  p : PropOf K C x pr f
structure CS (P : Program) (w : World) (K : PySem.W.Frag) (mg : Str → Option Value) (base : Heap) (C : Addr) (x : Str) (sp : Sp) (f : Addr) (fd : FuncData) : Prop where
  F : FnOk P w K mg base CX0 1 f fd ["self"] sp
  b : Binds K fd ["self"] []
  at_ : PySem.W.findIn K (.ref C) x = some (some (.ref f))
  fn : PySem.W.isFn K (.ref f) = true
/-- == and != of a Cycle -/
structure EqT (P : Program) (w : World) (K : PySem.W.Frag) (mg : Str → Option Value) (base : Heap) (C f : Addr) (fd : FuncData) : Prop where
  F : FnOk P w K mg base CX0 1 f fd ["self", "other"] (spEqC K C)
  b : Binds K fd ["self", "other"] []
  eq : EqO K C f
  ne : NeO K C f
end My
namespace My
open PySem PySem.Spec PyProof.Rows L2
/-- a line is read within heard -/
theorem heard_read {C cBT cTM : Addr} {ws : List Str} {H : Hp} {Q Q1 : VK} (hQ : ∀ v H2, (∀ t H3, Same H2 H3 → H2 t = none → H3 t = some (.lst [v]) → Q (.ref t) H3) → Q1 v H2) (k : ∀ t H', Same H H' → H t = none → HdR C H' t (outR ws) → Q (.ref t) H') :
    ErrsR cBT cTM (outR ws) H (Ech cBT cTM Q) ∧ ∀ ls, outR ws = .ok ls → ∀ q H', Same H H' → CycAt C H' q ls → Q1 (.ref q) H' := ⟨heard_errs k, heard_ok hQ k⟩
/-- what is no text, or an empty one, is read within heard -/
theorem read_odd {K : PySem.W.Frag} {C cBT cTM : Addr} {v : V} {H : Hp} {Q Q1 : VK} (hv : NoStr K H v ∨ v = .str "") (hQ : ∀ v H2, (∀ t H3, Same H2 H3 → H2 t = none → H3 t = some (.lst [v]) → Q (.ref t) H3) → Q1 v H2)
    (k : ∀ t H', Same H H' → H t = none → H' t = some (.tup [.str "text", .int 0, .int ((0 : Nat) : Int)]) → Q (.ref t) H') :
    (∃ ws, v = .str (Txt.join " " ws) ∧ LineOk ws ∧ ErrsR cBT cTM (outR ws) H (Ech cBT cTM Q) ∧ ∀ ls, outR ws = .ok ls → ∀ q H', Same H H' → CycAt C H' q ls → Q1 (.ref q) H') ∨ (NoStr K H v ∧ ∀ dd H', Same H H' → H' dd = some (.xd (badX 0)) → Ech cBT cTM Q (.ref cBT) (some dd) H') := by
  rcases hv with n | rfl
  · exact .inr ⟨n, fun dd H' s h => ⟨dd, rfl, .inl ⟨rfl, 0, h, fun t H'' s' n' ht => k t H'' (s.trans s') (s.free n') ht⟩⟩⟩
  · exact .inl ⟨[""], empty_line, empty_ok, heard_read hQ fun t H' s n h => k t H' s n (by rw [out_empty] at h; exact h)⟩
theorem odd_shaped : SeqAt.shaped (dueD (.cyc 0)) = true := by
  have := due_shaped (ws := [""]) (us := [.str "text", .int 0, .int ((0 : Nat) : Int)]) (by rw [out_empty]; rfl)
  rw [out_empty] at this
  exact this
theorem NoStr.of {K : PySem.W.Frag} {H : Hp} {v : V} {t : String} (h : TyX K H v (.type t)) (k : kitB t "str" = some false) : NoStr K H v := ⟨_, h, kit_ty k⟩
def spLawT (K : PySem.W.Frag) (Pt : Addr) : Sp := fun vs H Q _ => ∃ (a : Addr) (ns : List Int), vs = [.ref a] ∧ H Pt = some (.tbl #[]) ∧ SqL K H a (ns.map V.int) ∧ ns.length ≤ 63 ∧ ∀ H', Q (.bl true) H'
section
variable {P : Program} {w : World} {K : PySem.W.Frag} {mg : Str → Option Value} {base : Heap} {C Cw fWhole fBetw fDay fChk fDraw fPick fPen fLe fBe fDu fHe fOf pOf fRd pRd fCI c Pt cBC fBC cBT fBT cTM fTM cDE pGl fGl fSt fE : Addr} {dDraw dPick dPen dLe dBe dDu dHe dOf dRd dGl dSt dE : FuncData} {mc : Value}
theorem scLaw : FnScope ["_law_script", "_law_pen_here", "_law_turn", "_law_lengths_so", "_law_line_so", "_law_made", "_law_length", "_law_step", "_law_due_here", "_law_heard_here", "_law_odd"] ["_law_script"] (defScope sLaw) := ⟨rfl, rfl, rfl, by decide +kernel, rfl, by decide +kernel, by decide +kernel⟩
set_option maxHeartbeats 16000000 in
theorem ok_law {f : Addr} {fd : FuncData} (F : Fun K "law" "law" sLaw f fd) (hc : fd.code = .ref c) (T : Txt K mg C fWhole fBetw fDay fChk) (M : CyK K C) (kCS : PySem.W.kitOne K (.ref C) (.type "str") = some false) (EQ : EqT P w K mg base C fE dE) (TB : LamX.TabB base mg c Pt)
    (DP : Df P w K mg base "_law_pen" 1 fPen dPen ["_law_script"] (spPen K)) (DK : Df P w K mg base "_law_pick" 2 fPick dPick ["_law_pen_here", "_law_some"] spPick) (DL : Df P w K mg base "_law_lengths" 3 fLe dLe ["_law_pen_here"] spLens) (DB : Df P w K mg base "_law_bent" 3 fBe dBe ["_law_pen_here", "_law_line_so"] spBent) (DU : Df P w K mg base "_law_due" 1 fDu dDu ["_law_line_so"] spDue)
    (GL : CP P w K mg base C "lengths" (spGetL C) pGl fGl dGl) (ST : CS P w K mg base C "__str__" (spStrC C) fSt dSt)
    (CI : FnR P w K mg base (L2.CX P w) 4 fCI (spStarO C cBC cTM)) (MI : Mk K C fCI) (OF : FnOk P w K mg base (L2.CX P w) 6 fOf dOf ["cls", "lengths"] (spOf C cBC cTM)) (bOf : Binds K dOf ["cls", "lengths"] []) (cr : ClX.CRead K C mc) (co : ClX.CMet K C mc "of" pOf fOf)
    (RD : FnOk P w K mg base (L2.CX P w) 6 fRd dRd ["cls", "text"] (spRead K C cBT cTM)) (bRD : Binds K dRd ["cls", "text"] []) (kRD : KBinds K dRd ["cls", "text"] ["text"] gD gD) (cm : ClX.CMet K C mc "read" pRd fRd)
    (FH : Fun K "_law_heard" "_law_heard" sHeard fHe dHe) (bH : Binds K dHe ["_law_ask"] []) (gH : mg "_law_heard" = some (.ref fHe)) (HT : HeardT K mg cBT cTM cDE fBT fTM) : FnG P w K mg base CX0 9 f fd ["_law_script"] (spLawT K Pt) := by
  refine okGc F hc scLaw (fun vs H Q E h => ?_) (fun A outer s H vs Q E gd hr h => ?_)
  · obtain ⟨a, ns, rfl, _⟩ := h
    rfl
  · obtain ⟨a, ns, rfl, hT, hS, hlen, kk⟩ := h
    have hr1 : Room 1 _ := hr.mono (by decide)
    have hr2 : Room 2 _ := hr.mono (by decide)
    have hr3 : Room 3 _ := hr.mono (by decide)
    have hr4 : Room 4 _ := hr.mono (by decide)
    have hr5 : Room 5 _ := hr.mono (by decide)
    have hr6 : Room 6 _ := hr.mono (by decide)
    refine ⟨_, pss_cons (ps_set (i := 1) scLaw.nd rfl (Or.inl rfl) (pe_call DP.F hr1 rfl DP.g DP.kp DP.b .nil pass0 (pa_cons (pv 0) pa_nil))) (pss_cons (ps_for PassesOwn.never rfl (pi_range1 rfl T.zRange (pa_cons pe_int pa_nil)) (pg_name (i := 2) scLaw.nd rfl (Or.inl rfl)) (pss_cons (ps_set (i := 3) scLaw.nd rfl (Or.inl rfl) (pe_call DL.F hr3 rfl DL.g DL.kp DL.b .nil pass0 (pa_cons (pv 1) pa_nil))) (pss_cons (ps_asg (pe_tup (pa_cons (pe_join pe_str (pe_lc (own := [("_law_length", 6)]) (g := gName 6) (tt := tYes) rfl scLaw.nd (pi_list (pv 3)) (blkOk_by (N := ["_law_script", "_law_pen_here", "_law_turn", "_law_lengths_so", "_law_line_so", "_law_made", "_law_length", "_law_step", "_law_due_here", "_law_heard_here", "_law_odd"]) (sc := defScope sLaw) (by decide +kernel)) (fun _ _ _ _ _ => pg_name (i := 6) scLaw.nd rfl (Or.inl rfl)) (fun _ _ _ _ _ => pts_nil) (fun _ _ _ _ _ => pe_callTy call_str_int (by rfl) T.zStr (by decide +kernel) (pa_cons (pv 6) pa_nil)))) (pa_cons (ClX.pe_cmeth (pe_glob (v := .ref C) rfl T.gCyc rfl) cr co (OF.raw bOf .nil) hr6 passL (pa_cons (pv 3) pa_nil)) pa_nil))) (pg_tup rfl (pgs_cons (pg_name (i := 4) scLaw.nd rfl (Or.inr rfl)) (pgs_cons (pg_name (i := 5) scLaw.nd rfl (Or.inl rfl)) pgs_nil)))) (pss_cons (ps_if (PW.pt (pw_or (pt_cmpR op_ne (pe_callTy (call_strO ST.at_ ST.fn (ST.F.raw ST.b .nil) hr3 pass0) (by rfl) T.zStr (by decide +kernel) (pa_cons (pv 5) pa_nil)) (pv 4) (nomark _)) (pw_or1 (pt_cmpR (op_neO EQ.ne (EQ.F.raw EQ.b .nil) hr2 pass0) (ClX.pe_cmeth (pe_glob (v := .ref C) rfl T.gCyc rfl) cr cm (RD.raw bRD .nil) hr6 passL (pa_cons (pv 4) pa_nil)) (pv 5) (nomark _))))) pss_never pss_nil) (pss_one (ps_for PassesOwn.never rfl (pi_range1 rfl T.zRange (pa_cons pe_int pa_nil)) (pg_name (i := 7) scLaw.nd rfl (Or.inl rfl)) (pss_cons (ps_set (i := 4) scLaw.nd rfl (Or.inr rfl) (pe_call DB.F hr3 rfl DB.g DB.kp DB.b .nil pass0 (pa_cons (pv 1) (pa_cons (pv 4) pa_nil)))) (pss_cons (ps_par (i := 8) (j := 9) (by rfl) scLaw.nd rfl rfl (by decide) rfl rfl (pa_cons (pe_call DU.F hr1 rfl DU.g DU.kp DU.b .nil pass0 (pa_cons (pv 4) pa_nil)) (pa_cons (pe_heard (Str.ofString "law" ++ Str.ofString ".<locals>.") (by rfl) FH bH gH HT gd TB rfl hr rfl (defScope sLaw) rfl (by decide +kernel) rfl (fun _ _ _ _ _ => rfl) (fun A outer s H E f c' hr => pe_cmethK (E := E) (pe_glob (v := .ref C) rfl T.gCyc rfl) cr cm RD (hr.mono (by decide)) kRD (passes_call (takes_of rfl rfl rfl rfl) fun _ _ _ _ h => h) (pk_cons (pv 4) pk_nil))) pa_nil)) (by rfl)) (pss_one (ps_if (pt_val (pe_callB call_isi (by rfl) T.zIsi (by decide +kernel) (pa_cons (pv 8) (pa_cons (pe_bltn (v := .ty "list") (by rfl) T.zList (by decide +kernel) rfl) pa_nil)))) (pss_one (ps_if (PW.pt (pw_or (pt_not (pt_val (pe_callB call_isi (by rfl) T.zIsi (by decide +kernel) (pa_cons (pv 9) (pa_cons (pe_bltn (v := .ty "list") (by rfl) T.zList (by decide +kernel) rfl) pa_nil))))) (pw_or1 (pt_cmpR (op_neD hr.units) (pe_prop (pe_ix ix_list (pv 9) pe_int (fun _ _ => rfl)) T.cl GL.p GL.F hr2 GL.b .nil pass0 rfl) (pe_callTy (T := "tuple") (r := rTupOf K) cr_tupOf (by rfl) T.zTuple (by decide +kernel) (pa_cons (pe_ix ix_list (pv 8) pe_int (fun _ _ => rfl)) pa_nil)) (nomark _))))) pss_never pss_nil)) (pss_one (ps_if (pt_cmpR (op_neD hr.units) (pv 9) (pv 8) (nomark _)) pss_never pss_nil)))))))))))) (pss_cons (ps_set (i := 10) scLaw.nd rfl (Or.inr rfl) (pe_call DK.F hr2 rfl DK.g DK.kp DK.b .nil pass0 (pa_cons (pv 1) (pa_cons (pe_lst (pa_cons pe_non (pa_cons pe_int (pa_cons pe_bl (pa_cons (pe_lst (pa_cons pe_str pa_nil)) (pa_cons (pe_tup (pa_cons pe_str pa_nil)) (pa_cons pe_dnewK (pa_cons (StX.pe_makeR MI CI hr5 rfl T.gCyc passL (pa_cons pe_int pa_nil)) (pa_cons pe_str pa_nil))))))))) pa_nil)))) (pss_one (ps_ret (pe_cmpR (op_eqD hr.units) (pe_heard (Str.ofString "law" ++ Str.ofString ".<locals>.") (by rfl) FH bH gH HT gd TB rfl hr rfl (defScope sLaw) rfl (by decide +kernel) rfl (fun _ _ _ _ _ => rfl) (fun A outer s H E f c' hr => ClX.pe_cmeth (E := E) (pe_glob (v := .ref C) rfl T.gCyc rfl) cr cm (RD.raw bRD .nil) (hr.mono (by decide)) (passes_call (takes_of rfl rfl rfl rfl) fun _ _ _ _ h => h) (pa_cons (pv 10) pa_nil))) (pe_tup (pa_cons pe_str (pa_cons pe_int (pa_cons pe_int pa_nil)))) (nomark _)))))), ?_⟩
    refine ⟨_, rfl, a, ns, rfl, hS, hlen, fun p l H1 s1 pen0 => ?_⟩
    have tb0 : LamX.Tabs [(Pt, ((Str.ofString "law" ++ Str.ofString ".<locals>.") ++ Str.ofString "<lambda>"))] H1 := fun q hq => by
      rw [List.mem_singleton.mp hq]
      exact .nil (s1 _ _ hT)
    generalize hQ : ((Str.ofString "law" ++ Str.ofString ".<locals>.") ++ Str.ofString "<lambda>") = qq at tb0 ⊢
    refine ⟨12, rfl, by decide, by decide, for_range (lo := 0) (n := 12) (fun i σ H' => ∃ v2 v3 v4 v5 v7 v8 v9 : Option V, σ = [some (.ref a), some (.ref p), v2, v3, v4, v5, none, v7, v8, v9, none] ∧ PenAt H' p l (100 * i) ∧ LamX.Tabs [(Pt, qq)] H') ⟨none, none, none, none, none, none, none, rfl, pen0.le (by omega), tb0⟩ ?_ ?_⟩
    · rintro i σ H2 hi ⟨v2, v3, v4, v5, v7, v8, v9, rfl, pen2, tb2⟩
      clear tb0 pen0
      obtain ⟨px, hpx⟩ := pen2.lst
      refine ⟨_, rfl, p, l, 100 * i, rfl, pen2, by omega, fun La ls H3 sb3 pen3 hLa nap g => ?_⟩
      have tb3 : LamX.Tabs [(Pt, qq)] H3 := tabs_but tb2 sb3 hpx
      clear tb2 pen2 hpx sb3
      refine ⟨⟨_, rfl⟩, _, rfl, La, rfl, ⟨_, SqL.of hLa⟩, fun D hD => ?_⟩
      refine lc_list (K := K) (a := La) (xs := ls.map V.int) (fun j H' => H' D = some (.lst ((ls.take j).map fun l => V.str (toString l : String))) ∧ ∀ b o, b ≠ D → H3 b = some o → H' b = some o) ⟨upd_same, fun b o nb e => by rw [upd_ne nb]; exact e⟩ (fun j H' _ ⟨_, q⟩ => SqL.of (q _ _ (ne_of_none hLa hD) hLa)) ?_ ?_
      · rintro j y H' hy ⟨hD', q⟩
        obtain ⟨z, hl, rfl⟩ : ∃ z, ls[j]? = some z ∧ y = V.int z := by
          rw [List.getElem?_map] at hy
          cases e : ls[j]? with
          | none => rw [e] at hy; cases hy
          | some z => rw [e] at hy; exact ⟨z, rfl, (Option.some.inj hy).symm⟩
        have gl := g.pos z (List.mem_of_getElem? hl)
        refine ⟨rfl, ?_⟩
        unfold tYes
        dsimp only
        rw [if_pos rfl]
        refine ⟨_, rfl, z, rfl, log60 (by omega) (by omega), _, hD', ?_, ?_, fun b o nb e => ?_⟩
        · rw [List.length_map]
          have := g.few
          exact Nat.lt_of_le_of_lt (List.length_take_le _ _) (Nat.lt_of_lt_of_le (show j < 13 by have := (List.getElem?_eq_some_iff.mp hl).1; omega) (by decide))
        · rw [upd_same, List.take_succ, hl]
          simp
        · rw [upd_ne nb]
          exact q b o nb e
      · rintro H4 ⟨hD', q⟩
        rw [List.length_map, List.take_of_length_le (Nat.le_refl _)] at hD'
        have s4 : Same H3 H4 := fun b o e => q b o (ne_of_none e hD) e
        refine ⟨" ", D, wordsOf ls, rfl, rfl, .inl (SqL.of (by rw [hD']; unfold wordsOf; rw [List.map_map]; rfl)), ?_, ?_⟩
        · have hs := lens_W (ws := wordsOf ls) (words_ok g).mem
          have hl := (words_ok g).few
          have l1 : (Str.ofString " ").length = 1 := rfl
          rw [l1]
          omega
        refine ⟨rfl, _, rfl, La, _, rfl, .inr (s4 _ _ hLa), mk_good g fun m H5 s5 c5 => ?_⟩
        refine ⟨(by show 2 ≤ sizeLine; decide), fun t0 nt0 => ⟨t0, _, rfl, SqT.of upd_same, rfl, _, _, rfl, _, _, rfl, rfl, ?_⟩⟩
        have s6 := same_new (o := .tup [.str (Txt.join " " (wordsOf ls)), .ref m]) nt0
        have c6 := c5.same s6
        have pen6 := ((pen3.same s4).same s5).same s6
        have tb6 := tabs_same (tabs_same (tabs_same tb3 s4) s5) s6
        generalize upd H5 t0 (.tup [.str (Txt.join " " (wordsOf ls)), .ref m]) = H6 at c6 pen6 tb6 ⊢
        clear s6 c5 s5 s4 q hD' hD pen3 tb3 hLa nt0
        obtain ⟨dx, u, h1, h2⟩ := c6.ob
        refine ⟨_, rfl, m, dx, _, rfl, h1, m, ls, rfl, c6, fun H7 s7 => ⟨_, rfl, _, rfl, rfl, _, rfl, ?_⟩⟩
        rw [decide_eq_true (congrArg V.str (text_words ls))]
        refine iteF ⟨rfl, _, rfl, _, rfl, .inl ⟨wordsOf ls, rfl, words_ok g, (by rw [words_out g]; trivial), fun ls' e mq H8 s8 c8 => ?_⟩⟩
        obtain rfl : ls = ls' := by rw [words_out g] at e; exact Out.ok.inj e
        have s68 := s7.trans s8
        have c68 := c6.same s68
        obtain ⟨dx1, u1, g1, g2⟩ := c8.ob
        refine ⟨_, rfl, mq, m, dx1, dx, _, _, rfl, rfl, g1, s68 _ _ h1, mq, .ref m, ls, rfl, c8, .inl ⟨m, ls, rfl, c68, _, rfl, _, rfl, ?_⟩⟩
        rw [decide_eq_true rfl]
        refine iteF ?_
        have pen8 := pen6.same s68
        have tb8 := tabs_same tb6 s68
        clear c68 c8 g1 g2 h1 h2 s68 s7 s8 c6 pen6 tb6 e
        refine ⟨4, rfl, by decide, by decide, for_range (lo := 0) (n := 4) (fun j σ H' => ∃ (v7 v8 v9 : Option V) (ws : List Str), σ = [some (.ref a), some (.ref p), some (.int (0 + i)), some (.ref La), some (.str (Txt.join " " ws)), some (.ref m), none, v7, v8, v9, none] ∧ ws ≠ [] ∧ (∀ w ∈ ws, w ∈ WSet) ∧ ws.length ≤ 12 + 2 * j ∧
          PenAt H' p l (100 * i + 20 + 3 * j) ∧ LamX.Tabs [(Pt, qq)] H') ⟨v7, v8, v9, wordsOf ls, rfl, (words_ok g).ne, (words_ok g).mem, (by unfold wordsOf; rw [List.length_map]; have := g.few; omega), pen8.le (by omega), tb8⟩ ?_ ?_⟩
        · clear pen8 tb8
          rintro j σ H9 hj ⟨v7, v8, v9, ws, rfl, ne, mem, few, pen9, tb9⟩
          obtain ⟨px, hpx⟩ := pen9.lst
          refine ⟨_, rfl, _, rfl, p, l, 100 * i + 20 + 3 * j, ws, rfl, pen9, by omega, ne, mem, by omega, fun ws' HA sbA penA ne' mem' len' => ?_⟩
          have tbA : LamX.Tabs [(Pt, qq)] HA := tabs_but tb9 sbA hpx
          clear tb9 hpx pen9 sbA
          have lo : LineOk ws' := ⟨ne', mem', by omega⟩
          refine ⟨_, rfl, ws', rfl, lo, fun dv HB sB dB => ?_⟩
          refine ⟨tabs_same tbA sB, fun Ha ea ta Hb Q1 sb hQ => ?_⟩
          refine ⟨rfl, _, rfl, _, rfl, .inl ⟨ws', rfl, lo, heard_read hQ fun t HC sC nC dC => ?_⟩⟩
          have du : DueR HC (outR ws') dv := ((dB.ext ea).ext (.of sb)).ext (.of sC)
          have penC := ((pen_ext (penA.same sB) ea).same sb).same sC
          have tbC := tabs_same (tabs_same ta sb) sC
          clear hQ sb ta ea sB dB tbA penA nC sC
          refine ⟨_, _, rfl, ?_⟩
          cases hdv : dueR (outR ws') with
          | some us =>
            have ht := heard_due dC hdv
            obtain ⟨u, rfl, hu⟩ : ∃ u, dv = .ref u ∧ HC u = some (.tup us) := by
              cases du with
              | yes e h => rw [hdv] at e; cases e; exact ⟨_, rfl, h⟩
              | no e h hf => rw [e] at hdv; cases hdv
            refine ⟨_, rfl, .ref u, .ty "list", _, _, false, rfl, .ty "list", .base (.tup hu), kit_ty ktl, _, rfl, iteF ?_⟩
            refine ⟨_, rfl, _, rfl, dueD (outR ws'), dueD (outR ws'), due_dp hdv ht, due_dp hdv hu, due_shaped hdv, due_shaped hdv, _, rfl, ?_⟩
            rw [SeqAt.eqv_refl _ (SeqAt.canLay_of_shaped (due_shaped hdv))]
            exact iteF ⟨_, _, _, ws', rfl, ne', mem', by omega, penC.le (by omega), tbC⟩
          | none =>
            obtain ⟨tL, fL, ks, rfl, ho, hTL, hFL⟩ : ∃ tL fL ks, dv = .ref tL ∧ outR ws' = .ok ks ∧ HC tL = some (.lst [.ref fL]) ∧ HC fL = some (.lst (ks.map V.int)) := by
              cases du with
              | yes e h => rw [hdv] at e; cases e
              | no e h hf => exact ⟨_, _, _, rfl, e, h, hf⟩
            rw [ho] at dC
            obtain ⟨mm, ht, cy⟩ := dC
            obtain ⟨dy, uy, k1, k2⟩ := cy.ob
            have lq : ([V.ref mm] : List V)[0]? = some (.ref mm) := rfl
            have lq2 : ([V.ref fL] : List V)[0]? = some (.ref fL) := rfl
            refine ⟨_, rfl, .ref tL, .ty "list", _, _, true, rfl, .ty "list", .base (.lst hTL), kit_ty kll, _, rfl, iteT ?_⟩
            refine ⟨_, rfl, .ref t, .ty "list", _, _, true, rfl, .ty "list", .base (.lst ht), kit_ty kll, _, rfl, iteF ?_⟩
            refine ⟨_, rfl, t, _, _, _, rfl, rfl, SqL.of ht, atI_nat (j := 0) lq, mm, dy, _, rfl, k1, mm, ks, rfl, cy, fun tt htt => ?_⟩
            refine ⟨_, rfl, tL, _, _, _, rfl, rfl, SqL.of hTL, atI_nat (j := 0) lq2, fL, _, rfl, .inl ⟨SqL.of hFL, fun q nq => ?_⟩⟩
            have sq := same_new (o := .tup (ks.map V.int)) nq
            refine ⟨.tuple (ks.map PyData.int), .tuple (ks.map PyData.int), .tup (SqT.of (sq _ _ htt)) (dp_ints ks), .tup (SqT.of upd_same) (dp_ints ks), shaped_tints ks, shaped_tints ks, _, rfl, ?_⟩
            rw [eqv_tints, decide_eq_true rfl]
            exact iteF ⟨_, _, _, ws', rfl, ne', mem', by omega, (penC.same sq).le (by omega), tabs_same tbC sq⟩
        · rintro σ H9 ⟨v7, v8, v9, ws, rfl, ne, mem, few, pen9, tb9⟩
          exact ⟨_, _, _, _, _, _, _, rfl, pen9.le (by omega), tb9⟩
    · rintro σ H2 ⟨v2, v3, v4, v5, v7, v8, v9, rfl, pen2, tb2⟩
      have g1 : Good [7] := ⟨by decide, by decide, by decide, by decide⟩
      refine ⟨_, rfl, (by show 1 ≤ sizeLine; decide), fun a1 n1 => ⟨(by show 1 ≤ sizeLine; decide), fun a2 n2 => fun a3 n3 => ?_⟩⟩
      refine fun m dm nx nd ne => star_good g1 rfl nx nd ne fun H3 s3 c3 => ?_
      obtain ⟨py, hpy⟩ := pen2.lst
      have na1 : a1 ≠ p := Ne.symm (ne_of_none hpy n1)
      have h1' : H3 a1 = some (.lst [.str "7"]) := s3 _ _ (same_new n3 _ _ (same_new n2 _ _ upd_same))
      have h2' : H3 a2 = some (.tup [.str "7"]) := s3 _ _ (same_new n3 _ _ upd_same)
      have h3' : H3 a3 = some (.dK []) := s3 _ _ upd_same
      have sA : Same H2 H3 := (same_new n1).trans ((same_new n2).trans ((same_new n3).trans s3))
      have pen3 := pen2.same sA
      have tb3 := tabs_same tb2 sA
      clear s3 n3 n2 n1 nx nd ne pen2 tb2 sA
      refine ⟨(by show 8 ≤ sizeLine; decide), fun L nL => ?_⟩
      obtain ⟨px, hpx⟩ := pen3.lst
      have nLp : L ≠ p := Ne.symm (ne_of_none hpx nL)
      have sL := same_new (o := .lst [.non, .int 7, .bl true, .ref a1, .ref a2, .ref a3, .ref m, .str ""]) nL
      refine ⟨p, l, L, _, _, rfl, pen3.same sL, by omega, upd_same, nLp, (by show 0 < 8; decide), (by show 8 ≤ 1000; decide), fun j v H5 hj sb5 pen5 => ?_⟩
      have tb5 := tabs_but (tabs_same tb3 sL) sb5 (sL _ _ hpx)
      have q1 := sb5 _ _ na1 (sL _ _ h1')
      have q2 := sb5 _ _ (ne_of (sL _ _ h2') (sL _ _ hpx) (by intro z; cases z)) (sL _ _ h2')
      have q3 := sb5 _ _ (ne_of (sL _ _ h3') (sL _ _ hpx) (by intro z; cases z)) (sL _ _ h3')
      have c5 := (c3.same sL).but sb5 (sL _ _ hpx)
      refine ⟨tb5, fun Ha ea ta Hb Q1 sb hQ => ?_⟩
      refine ⟨rfl, _, rfl, v, rfl, read_odd ?_ hQ fun t HC sC nC ht => ?_⟩
      · have hv := List.mem_of_getElem? hj
        simp only [List.mem_cons, List.not_mem_nil, or_false] at hv
        rcases hv with rfl | rfl | rfl | rfl | rfl | rfl | rfl | rfl
        · exact .inl (.of (.base .non) (by decide +kernel))
        · exact .inl (.of (.base (.int _)) (by decide +kernel))
        · exact .inl (.of (.base (.bl _)) (by decide +kernel))
        · exact .inl (.of (.base (.lst (sb _ _ (ea _ _ q1 fun _ z => by cases z)))) (by decide +kernel))
        · exact .inl (.of (.base (.tup (sb _ _ (ea _ _ q2 fun _ z => by cases z)))) (by decide +kernel))
        · exact .inl (.of (.base (.dK (sb _ _ (ea _ _ q3 fun _ z => by cases z)))) (by decide +kernel))
        · exact .inl ⟨_, M.ty ((c5.ext ea).same sb), kCS⟩
        · exact .inr rfl
      · refine ⟨(by show 3 ≤ sizeLine; decide), fun t2 nt2 => ?_⟩
        have s2 := same_new (o := .tup [.str "text", .int 0, .int 0]) nt2
        refine ⟨dueD (.cyc 0), dueD (.cyc 0), due_dp (o := .cyc 0) rfl (s2 _ _ ht), due_dp (o := .cyc 0) rfl upd_same, odd_shaped, odd_shaped, ?_⟩
        rw [SeqAt.eqv_refl _ (SeqAt.canLay_of_shaped odd_shaped)]
        exact kk _
end
end My
namespace My
open PySem PySem.Spec PyProof.Rows L2
theorem kit_self {K : PySem.W.Frag} {t : Value} : PySem.W.kitOne K t t = some true := by
  unfold PySem.W.kitOne
  rw [if_pos (beq_iff_eq.mpr rfl)]
set_option maxHeartbeats 16000000 in
theorem all_mk {l : PySem.W.OpenLaw} {w : World} {K : PySem.W.Frag} {h : Heap} {mg : Str → Option Value} {fa C : Addr} (X : K.In h) (G : h.Ns mainGlobals mg) (hfa : mg "law" = some (.ref fa)) (OT : OwnT K mg h "law")
    {odF0 anF0 : Option Addr} {slF0 : Array (Option Value)} {ocF0 kVF0 dcF0 pmF0 cdF0 ctF0 : Value} {fF0 : Addr}
    {odF1 anF1 : Option Addr} {slF1 : Array (Option Value)} {ocF1 kVF1 dcF1 pmF1 cdF1 ctF1 : Value} {fF1 : Addr}
    {odF2 anF2 : Option Addr} {slF2 : Array (Option Value)} {ocF2 kVF2 dcF2 pmF2 cdF2 ctF2 : Value} {fF2 : Addr}
    {odF3 anF3 : Option Addr} {slF3 : Array (Option Value)} {ocF3 kVF3 dcF3 pmF3 cdF3 ctF3 : Value} {fF3 : Addr}
    {odF4 anF4 : Option Addr} {slF4 : Array (Option Value)} {ocF4 kVF4 dcF4 pmF4 cdF4 ctF4 : Value} {fF4 : Addr}
    {odF5 anF5 : Option Addr} {slF5 : Array (Option Value)} {ocF5 kVF5 dcF5 pmF5 cdF5 ctF5 : Value} {fF5 : Addr}
    {odF6 anF6 : Option Addr} {slF6 : Array (Option Value)} {ocF6 kVF6 dcF6 pmF6 cdF6 ctF6 : Value} {fF6 : Addr}
    {odF7 anF7 : Option Addr} {slF7 : Array (Option Value)} {ocF7 kVF7 dcF7 pmF7 cdF7 ctF7 : Value} {fF7 : Addr}
    {odF8 anF8 : Option Addr} {slF8 : Array (Option Value)} {ocF8 kVF8 dcF8 pmF8 cdF8 ctF8 : Value} {fF8 : Addr}
    {odF9 anF9 : Option Addr} {slF9 : Array (Option Value)} {ocF9 kVF9 dcF9 pmF9 cdF9 ctF9 : Value} {fF9 : Addr}
    {odF10 anF10 : Option Addr} {slF10 : Array (Option Value)} {ocF10 kVF10 dcF10 pmF10 cdF10 ctF10 : Value} {fF10 : Addr}
    {odF11 anF11 : Option Addr} {slF11 : Array (Option Value)} {ocF11 kVF11 dcF11 pmF11 cdF11 ctF11 : Value} {fF11 : Addr}
    {odF12 anF12 : Option Addr} {slF12 : Array (Option Value)} {ocF12 kVF12 dcF12 pmF12 cdF12 ctF12 : Value} {fF12 : Addr}
    {odF13 anF13 : Option Addr} {slF13 : Array (Option Value)} {ocF13 kVF13 dcF13 pmF13 cdF13 ctF13 : Value} {fF13 : Addr}
    {odM0 anM0 : Option Addr} {slM0 : Array (Option Value)} {ocM0 kVM0 dcM0 pmM0 cdM0 ctM0 : Value} {fM0 : Addr}
    {odM1 anM1 : Option Addr} {slM1 : Array (Option Value)} {ocM1 kVM1 dcM1 pmM1 cdM1 ctM1 : Value} {fM1 : Addr}
    {odM2 anM2 : Option Addr} {slM2 : Array (Option Value)} {ocM2 kVM2 dcM2 pmM2 cdM2 ctM2 : Value} {fM2 : Addr}
    {odP0 anP0 : Option Addr} {slP0 : Array (Option Value)} {ocP0 kVP0 dcP0 pmP0 cdP0 ctP0 : Value} {fP0 : Addr}
    {qP0 : Addr} {rsP0 : List Value}
    {odO0 anO0 : Option Addr} {slO0 : Array (Option Value)} {ocO0 kVO0 dcO0 pmO0 cdO0 ctO0 : Value} {fO0 : Addr}
    {qO0 : Addr} {rsO0 : List Value}
    {odO1 anO1 : Option Addr} {slO1 : Array (Option Value)} {ocO1 kVO1 dcO1 pmO1 cdO1 ctO1 : Value} {fO1 : Addr}
    {qO1 : Addr} {rsO1 : List Value}
    {Cw : Addr}
    {odW0 anW0 : Option Addr} {slW0 : Array (Option Value)} {ocW0 kVW0 dcW0 pmW0 cdW0 ctW0 : Value} {fW0 : Addr}
    {odW1 anW1 : Option Addr} {slW1 : Array (Option Value)} {ocW1 kVW1 dcW1 pmW1 cdW1 ctW1 : Value} {fW1 : Addr}
    {odW2 anW2 : Option Addr} {slW2 : Array (Option Value)} {ocW2 kVW2 dcW2 pmW2 cdW2 ctW2 : Value} {fW2 : Addr}
    {tkMB tkMT : Tok}
    {cDE : Addr}
    {odJBC anJBC : Option Addr} {slJBC : Array (Option Value)} {ocJBC kVJBC dcJBC pmJBC cdJBC ctJBC : Value} {fJBC : Addr}
    {cBC : Addr} {nmBC qBC : Str} {NBC : Addr} {bsBC : List Value} {snBC : List Str} {subBC : List Value} {abBC : Bool} {colBC : Option Bool} {ddBC : Option Addr} {m0BC m1BC m2BC m3BC m5BC : Option Value}
    {odJTM anJTM : Option Addr} {slJTM : Array (Option Value)} {ocJTM kVJTM dcJTM pmJTM cdJTM ctJTM : Value} {fJTM : Addr}
    {cTM : Addr} {nmTM qTM : Str} {NTM : Addr} {bsTM : List Value} {snTM : List Str} {subTM : List Value} {abTM : Bool} {colTM : Option Bool} {ddTM : Option Addr} {m0TM m1TM m2TM m3TM m5TM : Option Value}
    {odJBT anJBT : Option Addr} {slJBT : Array (Option Value)} {ocJBT kVJBT dcJBT pmJBT cdJBT ctJBT : Value} {fJBT : Addr}
    {cBT : Addr} {nmBT qBT : Str} {NBT : Addr} {bsBT : List Value} {snBT : List Str} {subBT : List Value} {abBT : Bool} {colBT : Option Bool} {ddBT : Option Addr} {m0BT m1BT m2BT m3BT m5BT : Option Value}
    {cR Pt : Addr} {eR : Value} {dR : Option Addr} {vR : Array Value} {sR : Array (Option Value)}
    (aC : PySem.W.nsIn K mainGlobals "Cycle" = some (some (.ref C)))
    (aF0 : PySem.W.nsIn K mainGlobals "is_whole" = some (some (.ref fF0)))
    (lF0 : K.lookup fF0 = some ⟨ocF0, odF0, .func (PySem.W.fnOf "is_whole" "is_whole" (defArgs sWhole) (defBody sWhole) (defScope sWhole) .none kVF0 dcF0 pmF0 anF0 cdF0 ctF0), slF0⟩)
    (cF0 : PySem.W.codeIn K cdF0 "is_whole" = true)
    (kF0 : PySem.W.keepIn K (.ref fF0) = true)
    (aF1 : PySem.W.nsIn K mainGlobals "is_between" = some (some (.ref fF1)))
    (lF1 : K.lookup fF1 = some ⟨ocF1, odF1, .func (PySem.W.fnOf "is_between" "is_between" (defArgs sBetw) (defBody sBetw) (defScope sBetw) .none kVF1 dcF1 pmF1 anF1 cdF1 ctF1), slF1⟩)
    (cF1 : PySem.W.codeIn K cdF1 "is_between" = true)
    (kF1 : PySem.W.keepIn K (.ref fF1) = true)
    (aF2 : PySem.W.nsIn K mainGlobals "check_lengths" = some (some (.ref fF2)))
    (lF2 : K.lookup fF2 = some ⟨ocF2, odF2, .func (PySem.W.fnOf "check_lengths" "check_lengths" (defArgs sChk) (defBody sChk) (defScope sChk) .none kVF2 dcF2 pmF2 anF2 cdF2 ctF2), slF2⟩)
    (cF2 : PySem.W.codeIn K cdF2 "check_lengths" = true)
    (kF2 : PySem.W.keepIn K (.ref fF2) = true)
    (aF3 : PySem.W.nsIn K mainGlobals "_law_pen" = some (some (.ref fF3)))
    (lF3 : K.lookup fF3 = some ⟨ocF3, odF3, .func (PySem.W.fnOf "_law_pen" "_law_pen" (defArgs sPen) (defBody sPen) (defScope sPen) .none kVF3 dcF3 pmF3 anF3 cdF3 ctF3), slF3⟩)
    (cF3 : PySem.W.codeIn K cdF3 "_law_pen" = true)
    (kF3 : PySem.W.keepIn K (.ref fF3) = true)
    (aF4 : PySem.W.nsIn K mainGlobals "_law_draw" = some (some (.ref fF4)))
    (lF4 : K.lookup fF4 = some ⟨ocF4, odF4, .func (PySem.W.fnOf "_law_draw" "_law_draw" (defArgs sDraw) (defBody sDraw) (defScope sDraw) .none kVF4 dcF4 pmF4 anF4 cdF4 ctF4), slF4⟩)
    (cF4 : PySem.W.codeIn K cdF4 "_law_draw" = true)
    (kF4 : PySem.W.keepIn K (.ref fF4) = true)
    (aF5 : PySem.W.nsIn K mainGlobals "_law_pick" = some (some (.ref fF5)))
    (lF5 : K.lookup fF5 = some ⟨ocF5, odF5, .func (PySem.W.fnOf "_law_pick" "_law_pick" (defArgs sPick) (defBody sPick) (defScope sPick) .none kVF5 dcF5 pmF5 anF5 cdF5 ctF5), slF5⟩)
    (cF5 : PySem.W.codeIn K cdF5 "_law_pick" = true)
    (kF5 : PySem.W.keepIn K (.ref fF5) = true)
    (aF6 : PySem.W.nsIn K mainGlobals "_law_heard" = some (some (.ref fF6)))
    (lF6 : K.lookup fF6 = some ⟨ocF6, odF6, .func (PySem.W.fnOf "_law_heard" "_law_heard" (defArgs sHeard) (defBody sHeard) (defScope sHeard) .none kVF6 dcF6 pmF6 anF6 cdF6 ctF6), slF6⟩)
    (cF6 : PySem.W.codeIn K cdF6 "_law_heard" = true)
    (kF6 : PySem.W.keepIn K (.ref fF6) = true)
    (aF7 : PySem.W.nsIn K mainGlobals "_law_due" = some (some (.ref fF7)))
    (lF7 : K.lookup fF7 = some ⟨ocF7, odF7, .func (PySem.W.fnOf "_law_due" "_law_due" (defArgs sDue) (defBody sDue) (defScope sDue) .none kVF7 dcF7 pmF7 anF7 cdF7 ctF7), slF7⟩)
    (cF7 : PySem.W.codeIn K cdF7 "_law_due" = true)
    (kF7 : PySem.W.keepIn K (.ref fF7) = true)
    (aF8 : PySem.W.nsIn K mainGlobals "_law_lengths" = some (some (.ref fF8)))
    (lF8 : K.lookup fF8 = some ⟨ocF8, odF8, .func (PySem.W.fnOf "_law_lengths" "_law_lengths" (defArgs sLens) (defBody sLens) (defScope sLens) .none kVF8 dcF8 pmF8 anF8 cdF8 ctF8), slF8⟩)
    (cF8 : PySem.W.codeIn K cdF8 "_law_lengths" = true)
    (kF8 : PySem.W.keepIn K (.ref fF8) = true)
    (aF9 : PySem.W.nsIn K mainGlobals "_law_bent" = some (some (.ref fF9)))
    (lF9 : K.lookup fF9 = some ⟨ocF9, odF9, .func (PySem.W.fnOf "_law_bent" "_law_bent" (defArgs sBent) (defBody sBent) (defScope sBent) .none kVF9 dcF9 pmF9 anF9 cdF9 ctF9), slF9⟩)
    (cF9 : PySem.W.codeIn K cdF9 "_law_bent" = true)
    (kF9 : PySem.W.keepIn K (.ref fF9) = true)
    (aF10 : PySem.W.nsIn K mainGlobals "words_of" = some (some (.ref fF10)))
    (lF10 : K.lookup fF10 = some ⟨ocF10, odF10, .func (PySem.W.fnOf "words_of" "words_of" (defArgs sWdsOf) (defBody sWdsOf) (defScope sWdsOf) .none kVF10 dcF10 pmF10 anF10 cdF10 ctF10), slF10⟩)
    (cF10 : PySem.W.codeIn K cdF10 "words_of" = true)
    (kF10 : PySem.W.keepIn K (.ref fF10) = true)
    (aF11 : PySem.W.nsIn K mainGlobals "written_integer" = some (some (.ref fF11)))
    (lF11 : K.lookup fF11 = some ⟨ocF11, odF11, .func (PySem.W.fnOf "written_integer" "written_integer" (defArgs sWrit) (defBody sWrit) (defScope sWrit) .none kVF11 dcF11 pmF11 anF11 cdF11 ctF11), slF11⟩)
    (cF11 : PySem.W.codeIn K cdF11 "written_integer" = true)
    (kF11 : PySem.W.keepIn K (.ref fF11) = true)
    (aF12 : PySem.W.nsIn K mainGlobals "take_lengths" = some (some (.ref fF12)))
    (lF12 : K.lookup fF12 = some ⟨ocF12, odF12, .func (PySem.W.fnOf "take_lengths" "take_lengths" (defArgs sTakeL) (defBody sTakeL) (defScope sTakeL) .none kVF12 dcF12 pmF12 anF12 cdF12 ctF12), slF12⟩)
    (cF12 : PySem.W.codeIn K cdF12 "take_lengths" = true)
    (kF12 : PySem.W.keepIn K (.ref fF12) = true)
    (aF13 : PySem.W.nsIn K mainGlobals "law" = some (some (.ref fF13)))
    (lF13 : K.lookup fF13 = some ⟨ocF13, odF13, .func (PySem.W.fnOf "law" "law" (defArgs sLaw) (defBody sLaw) (defScope sLaw) .none kVF13 dcF13 pmF13 anF13 cdF13 ctF13), slF13⟩)
    (cF13 : PySem.W.codeIn K cdF13 "law" = true)
    (kF13 : PySem.W.keepIn K (.ref fF13) = true)
    (aM0 : PySem.W.findIn K (.ref C) "__init__" = some (some (.ref fM0)))
    (iM0 : PySem.W.isFn K (.ref fM0) = true)
    (lM0 : K.lookup fM0 = some ⟨ocM0, odM0, .func (PySem.W.fnOf "__init__" "Cycle.__init__" (defArgs sInit) (defBody sInit) (defScope sInit) .none kVM0 dcM0 pmM0 anM0 cdM0 ctM0), slM0⟩)
    (cM0 : PySem.W.codeIn K cdM0 "Cycle.__init__" = true)
    (kM0 : PySem.W.keepIn K (.ref fM0) = true)
    (aM1 : PySem.W.findIn K (.ref C) "__eq__" = some (some (.ref fM1)))
    (iM1 : PySem.W.isFn K (.ref fM1) = true)
    (lM1 : K.lookup fM1 = some ⟨ocM1, odM1, .func (PySem.W.fnOf "__eq__" "Cycle.__eq__" (defArgs sEq) (defBody sEq) (defScope sEq) .none kVM1 dcM1 pmM1 anM1 cdM1 ctM1), slM1⟩)
    (cM1 : PySem.W.codeIn K cdM1 "Cycle.__eq__" = true)
    (kM1 : PySem.W.keepIn K (.ref fM1) = true)
    (aM2 : PySem.W.findIn K (.ref C) "__str__" = some (some (.ref fM2)))
    (iM2 : PySem.W.isFn K (.ref fM2) = true)
    (lM2 : K.lookup fM2 = some ⟨ocM2, odM2, .func (PySem.W.fnOf "__str__" "Cycle.__str__" (defArgs sStr) (defBody sStr) (defScope sStr) .none kVM2 dcM2 pmM2 anM2 cdM2 ctM2), slM2⟩)
    (cM2 : PySem.W.codeIn K cdM2 "Cycle.__str__" = true)
    (kM2 : PySem.W.keepIn K (.ref fM2) = true)
    (aP0 : PySem.W.findIn K (.ref C) "lengths" = some (some (.ref qP0)))
    (gP0 : PySem.W.specialIn K (.ref qP0) "__get__" = some (some (.builtin "property.__get__")))
    (tP0 : PySem.W.takesIn K (.ref qP0) = some true)
    (rP0 : PySem.W.recIn K qP0 "property" = some (.ref fP0 :: rsP0))
    (lP0 : K.lookup fP0 = some ⟨ocP0, odP0, .func (PySem.W.fnOf "lengths" "Cycle.lengths" (defArgs sLengths) (defBody sLengths) (defScope sLengths) .none kVP0 dcP0 pmP0 anP0 cdP0 ctP0), slP0⟩)
    (cP0 : PySem.W.codeIn K cdP0 "Cycle.lengths" = true)
    (kP0 : PySem.W.keepIn K (.ref fP0) = true)
    (rd : PySem.W.readsIn K C (.type "type") = true)
    (ga : PySem.W.specialIn K (.ref C) "__getattribute__" = some (some (.builtin "type.__getattribute__")))
    (aO0 : PySem.W.findCls K (.ref C) (.type "type") "of" = some (.get (.builtin "classmethod.__get__") (.ref qO0) .none (.ref C)))
    (rO0 : PySem.W.recIn K qO0 "classmethod" = some (.ref fO0 :: rsO0))
    (nO0 : PySem.W.fnIn K fO0 = true)
    (lO0 : K.lookup fO0 = some ⟨ocO0, odO0, .func (PySem.W.fnOf "of" "Cycle.of" (defArgs sOf) (defBody sOf) (defScope sOf) .none kVO0 dcO0 pmO0 anO0 cdO0 ctO0), slO0⟩)
    (cO0 : PySem.W.codeIn K cdO0 "Cycle.of" = true)
    (kO0 : PySem.W.keepIn K (.ref fO0) = true)
    (aO1 : PySem.W.findCls K (.ref C) (.type "type") "read" = some (.get (.builtin "classmethod.__get__") (.ref qO1) .none (.ref C)))
    (rO1 : PySem.W.recIn K qO1 "classmethod" = some (.ref fO1 :: rsO1))
    (nO1 : PySem.W.fnIn K fO1 = true)
    (lO1 : K.lookup fO1 = some ⟨ocO1, odO1, .func (PySem.W.fnOf "read" "Cycle.read" (defArgs sRead) (defBody sRead) (defScope sRead) .none kVO1 dcO1 pmO1 anO1 cdO1 ctO1), slO1⟩)
    (cO1 : PySem.W.codeIn K cdO1 "Cycle.read" = true)
    (kO1 : PySem.W.keepIn K (.ref fO1) = true)
    (aCw : PySem.W.nsIn K mainGlobals "Words" = some (some (.ref Cw)))
    (aW0 : PySem.W.findIn K (.ref Cw) "__init__" = some (some (.ref fW0)))
    (iW0 : PySem.W.isFn K (.ref fW0) = true)
    (lW0 : K.lookup fW0 = some ⟨ocW0, odW0, .func (PySem.W.fnOf "__init__" "Words.__init__" (defArgs sWdsI) (defBody sWdsI) (defScope sWdsI) .none kVW0 dcW0 pmW0 anW0 cdW0 ctW0), slW0⟩)
    (cW0 : PySem.W.codeIn K cdW0 "Words.__init__" = true)
    (kW0 : PySem.W.keepIn K (.ref fW0) = true)
    (aW1 : PySem.W.findIn K (.ref Cw) "is_over" = some (some (.ref fW1)))
    (iW1 : PySem.W.isFn K (.ref fW1) = true)
    (lW1 : K.lookup fW1 = some ⟨ocW1, odW1, .func (PySem.W.fnOf "is_over" "Words.is_over" (defArgs sOver) (defBody sOver) (defScope sOver) .none kVW1 dcW1 pmW1 anW1 cdW1 ctW1), slW1⟩)
    (cW1 : PySem.W.codeIn K cdW1 "Words.is_over" = true)
    (kW1 : PySem.W.keepIn K (.ref fW1) = true)
    (aW2 : PySem.W.findIn K (.ref Cw) "take_integer" = some (some (.ref fW2)))
    (iW2 : PySem.W.isFn K (.ref fW2) = true)
    (lW2 : K.lookup fW2 = some ⟨ocW2, odW2, .func (PySem.W.fnOf "take_integer" "Words.take_integer" (defArgs sTake) (defBody sTake) (defScope sTake) .none kVW2 dcW2 pmW2 anW2 cdW2 ctW2), slW2⟩)
    (cW2 : PySem.W.codeIn K cdW2 "Words.take_integer" = true)
    (kW2 : PySem.W.keepIn K (.ref fW2) = true)
    (wpg : PySem.W.plainGet K Cw Str.empty = true)
    (whd : PySem.W.hasDictIn K Cw = true)
    (wpo : PySem.W.plainOver K Cw = true)
    (wsa : PySem.W.findIn K (.ref Cw) "__setattr__" = some (some (.builtin "object.__setattr__")))
    (wmk : PySem.W.makesIn K Cw = true)
    (wkc : PySem.W.keepIn K (.ref Cw) = true)
    (nW : PySem.W.findIn K (.ref Cw) "_words" = some none)
    (nRw : PySem.W.findIn K (.ref Cw) "_row" = some none)
    (nA : PySem.W.findIn K (.ref Cw) "_at" = some none)
    (sCS : PySem.W.subIn K (.ref C) (.type "str") = some false)
    (pg : PySem.W.plainGet K C Str.empty = true)
    (hd : PySem.W.hasDictIn K C = true)
    (po : PySem.W.plainOver K C = true)
    (sa : PySem.W.findIn K (.ref C) "__setattr__" = some (some (.builtin "object.__setattr__")))
    (mk : PySem.W.makesIn K C = true)
    (kc : PySem.W.keepIn K (.ref C) = true)
    (nL : PySem.W.findIn K (.ref C) "_lengths" = some none)
    (nT : PySem.W.findIn K (.ref C) "_total" = some none)
    (ty : PySem.W.typeIn K (.ref C) = some (.type "type"))
    (cc : PySem.W.findIn K (.ref C) "__class__" = some (some (.builtin "object.__class__")))
    (mo : PySem.W.mroIn K C (.type "object") = some true)
    (ne : PySem.W.findIn K (.ref C) "__ne__" = some (some (.builtin "object.__ne__")))
    (mb : PySem.W.nsIn K mainGlobals "MOST_BLOCKS" = some (some (.int 12 tkMB)))
    (mt : PySem.W.nsIn K mainGlobals "MOST_TOTAL" = some (some (.int 60 tkMT)))
    (z_isinstance : PySem.W.nsIn K mainGlobals "isinstance" = some none)
    (z_int : PySem.W.nsIn K mainGlobals "int" = some none)
    (z_bool : PySem.W.nsIn K mainGlobals "bool" = some none)
    (z_str : PySem.W.nsIn K mainGlobals "str" = some none)
    (z_repr : PySem.W.nsIn K mainGlobals "repr" = some none)
    (z_len : PySem.W.nsIn K mainGlobals "len" = some none)
    (z_list : PySem.W.nsIn K mainGlobals "list" = some none)
    (z_tuple : PySem.W.nsIn K mainGlobals "tuple" = some none)
    (z_range : PySem.W.nsIn K mainGlobals "range" = some none)
    (z_abs : PySem.W.nsIn K mainGlobals "abs" = some none)
    (z_enumerate : PySem.W.nsIn K mainGlobals "enumerate" = some none)
    (z_sum : PySem.W.nsIn K mainGlobals "sum" = some none)
    (z_iter : PySem.W.nsIn K mainGlobals "iter" = some none)
    (clsG : PySem.W.specialIn K (.builtin "object.__class__") "__get__" = some (some (.builtin "getset_descriptor.__get__")))
    (clsT : PySem.W.takesIn K (.builtin "object.__class__") = some true)
    (aDE : PySem.W.nsIn K mainGlobals "DayError" = some (some (.ref cDE)))
    (exDE : PySem.W.subIn K (.ref cDE) (.type "BaseException") = some true)
    (hdDE : PySem.W.hasDictIn K cDE = true)
    (tyDE : PySem.W.typeIn K (.ref cDE) = some (.type "type"))
    (nBC : PySem.W.nsIn K mainGlobals "BadCycle" = some (some (.ref cBC)))
    (xBC : K.lookup cBC = some (excClassObj nmBC qBC cBC NBC bsBC [.ref cDE, .type "ValueError", .type "Exception", .type "BaseException", .type "object"] true snBC subBC abBC colBC ddBC m0BC m1BC m2BC m3BC m5BC "ValueError.__new__"))
    (saBC : PySem.W.findIn K (.ref cBC) "__setattr__" = some (some (.builtin "object.__setattr__")))
    (exBC : PySem.W.subIn K (.ref cBC) (.type "BaseException") = some true)
    (tyBC : PySem.W.typeIn K (.ref cBC) = some (.type "type"))
    (kcBC : PySem.W.keepIn K (.ref cBC) = true)
    (aJBC : PySem.W.findIn K (.ref cBC) "__init__" = some (some (.ref fJBC)))
    (tiBC : PySem.W.typeIn K (.ref fJBC) = some (.type "function"))
    (lJBC : K.lookup fJBC = some ⟨ocJBC, odJBC, .func (PySem.W.fnOf "__init__" "BadCycle.__init__" (defArgs sBCI) (defBody sBCI) (defScope sBCI) .none kVJBC dcJBC pmJBC anJBC cdJBC ctJBC), slJBC⟩)
    (cJBC : PySem.W.codeIn K cdJBC "BadCycle.__init__" = true)
    (kJBC : PySem.W.keepIn K (.ref fJBC) = true)
    (no0BC : PySem.W.findIn K (.ref cBC) "at" = some none)
    (ggBC : PySem.W.findIn K (.ref cBC) "__getattribute__" = some (some (.builtin "BaseException.__getattribute__")))
    (gtBC : PySem.W.findIn K (.ref cBC) "__getattr__" = some none)
    (hdBC : PySem.W.hasDictIn K cBC = true)
    (ccBC : PySem.W.findIn K (.ref cBC) "__class__" = some (some (.builtin "object.__class__")))
    (moBC : PySem.W.mroIn K cBC (.type "object") = some true)
    (sdBC : PySem.W.subIn K (.ref cBC) (.ref cDE) = some true)
    (nTM : PySem.W.nsIn K mainGlobals "TooMany" = some (some (.ref cTM)))
    (xTM : K.lookup cTM = some (excClassObj nmTM qTM cTM NTM bsTM [.ref cDE, .type "ValueError", .type "Exception", .type "BaseException", .type "object"] true snTM subTM abTM colTM ddTM m0TM m1TM m2TM m3TM m5TM "ValueError.__new__"))
    (saTM : PySem.W.findIn K (.ref cTM) "__setattr__" = some (some (.builtin "object.__setattr__")))
    (exTM : PySem.W.subIn K (.ref cTM) (.type "BaseException") = some true)
    (tyTM : PySem.W.typeIn K (.ref cTM) = some (.type "type"))
    (kcTM : PySem.W.keepIn K (.ref cTM) = true)
    (aJTM : PySem.W.findIn K (.ref cTM) "__init__" = some (some (.ref fJTM)))
    (tiTM : PySem.W.typeIn K (.ref fJTM) = some (.type "function"))
    (lJTM : K.lookup fJTM = some ⟨ocJTM, odJTM, .func (PySem.W.fnOf "__init__" "TooMany.__init__" (defArgs sTMI) (defBody sTMI) (defScope sTMI) .none kVJTM dcJTM pmJTM anJTM cdJTM ctJTM), slJTM⟩)
    (cJTM : PySem.W.codeIn K cdJTM "TooMany.__init__" = true)
    (kJTM : PySem.W.keepIn K (.ref fJTM) = true)
    (no0TM : PySem.W.findIn K (.ref cTM) "what" = some none)
    (no1TM : PySem.W.findIn K (.ref cTM) "most" = some none)
    (ggTM : PySem.W.findIn K (.ref cTM) "__getattribute__" = some (some (.builtin "BaseException.__getattribute__")))
    (gtTM : PySem.W.findIn K (.ref cTM) "__getattr__" = some none)
    (hdTM : PySem.W.hasDictIn K cTM = true)
    (ccTM : PySem.W.findIn K (.ref cTM) "__class__" = some (some (.builtin "object.__class__")))
    (moTM : PySem.W.mroIn K cTM (.type "object") = some true)
    (sdTM : PySem.W.subIn K (.ref cTM) (.ref cDE) = some true)
    (nBT : PySem.W.nsIn K mainGlobals "BadText" = some (some (.ref cBT)))
    (xBT : K.lookup cBT = some (excClassObj nmBT qBT cBT NBT bsBT [.ref cDE, .type "ValueError", .type "Exception", .type "BaseException", .type "object"] true snBT subBT abBT colBT ddBT m0BT m1BT m2BT m3BT m5BT "ValueError.__new__"))
    (saBT : PySem.W.findIn K (.ref cBT) "__setattr__" = some (some (.builtin "object.__setattr__")))
    (exBT : PySem.W.subIn K (.ref cBT) (.type "BaseException") = some true)
    (tyBT : PySem.W.typeIn K (.ref cBT) = some (.type "type"))
    (kcBT : PySem.W.keepIn K (.ref cBT) = true)
    (aJBT : PySem.W.findIn K (.ref cBT) "__init__" = some (some (.ref fJBT)))
    (tiBT : PySem.W.typeIn K (.ref fJBT) = some (.type "function"))
    (lJBT : K.lookup fJBT = some ⟨ocJBT, odJBT, .func (PySem.W.fnOf "__init__" "BadText.__init__" (defArgs sBTI) (defBody sBTI) (defScope sBTI) .none kVJBT dcJBT pmJBT anJBT cdJBT ctJBT), slJBT⟩)
    (cJBT : PySem.W.codeIn K cdJBT "BadText.__init__" = true)
    (kJBT : PySem.W.keepIn K (.ref fJBT) = true)
    (no0BT : PySem.W.findIn K (.ref cBT) "line" = some none)
    (no1BT : PySem.W.findIn K (.ref cBT) "word" = some none)
    (ggBT : PySem.W.findIn K (.ref cBT) "__getattribute__" = some (some (.builtin "BaseException.__getattribute__")))
    (gtBT : PySem.W.findIn K (.ref cBT) "__getattr__" = some none)
    (hdBT : PySem.W.hasDictIn K cBT = true)
    (ccBT : PySem.W.findIn K (.ref cBT) "__class__" = some (some (.builtin "object.__class__")))
    (moBT : PySem.W.mroIn K cBT (.type "object") = some true)
    (sdBT : PySem.W.subIn K (.ref cBT) (.ref cDE) = some true)
    (sUN : PySem.W.subIn K (.ref cTM) (.ref cBT) = some false)
    (sUU : PySem.W.subIn K (.ref cTM) (.ref cTM) = some true)
    (eCR : cdF13 = .ref cR)
    (lR : K.lookup cR = some ⟨eR, dR, .fields vR, sR⟩)
    (pR : vR[11]? = some (.ref Pt))
    (nR : K.lookup Pt = none)
    : ∃ (fd : FuncData) (c Pt : Addr), (∀ (s : Shared) (v : Value), BindsTo s fd ⟨[v], []⟩ [("_law_script", v)]) ∧ Maker K h c Pt ∧ ∀ base : Heap, K.In base → base.Ns mainGlobals mg → LamX.TabB base mg c Pt → FnG l.prog w K mg base CX0 9 fa fd ["_law_script"] (spLawT K Pt) := by
  subst eCR
  have e := hfa.symm.trans (PySem.W.mg_of X G aF13)
  cases e
  have GF0 := PySem.W.mg_of X G aF0
  have HF0 := fun_mk (st := sWhole) lF0 cF0 kF0
  have GF1 := PySem.W.mg_of X G aF1
  have HF1 := fun_mk (st := sBetw) lF1 cF1 kF1
  have GF2 := PySem.W.mg_of X G aF2
  have HF2 := fun_mk (st := sChk) lF2 cF2 kF2
  have GF3 := PySem.W.mg_of X G aF3
  have HF3 := fun_mk (st := sPen) lF3 cF3 kF3
  have GF4 := PySem.W.mg_of X G aF4
  have HF4 := fun_mk (st := sDraw) lF4 cF4 kF4
  have GF5 := PySem.W.mg_of X G aF5
  have HF5 := fun_mk (st := sPick) lF5 cF5 kF5
  have GF6 := PySem.W.mg_of X G aF6
  have HF6 := fun_mk (st := sHeard) lF6 cF6 kF6
  have GF7 := PySem.W.mg_of X G aF7
  have HF7 := fun_mk (st := sDue) lF7 cF7 kF7
  have GF8 := PySem.W.mg_of X G aF8
  have HF8 := fun_mk (st := sLens) lF8 cF8 kF8
  have GF9 := PySem.W.mg_of X G aF9
  have HF9 := fun_mk (st := sBent) lF9 cF9 kF9
  have GF10 := PySem.W.mg_of X G aF10
  have HF10 := fun_mk (st := sWdsOf) lF10 cF10 kF10
  have GF11 := PySem.W.mg_of X G aF11
  have HF11 := fun_mk (st := sWrit) lF11 cF11 kF11
  have GF12 := PySem.W.mg_of X G aF12
  have HF12 := fun_mk (st := sTakeL) lF12 cF12 kF12
  have GF13 := PySem.W.mg_of X G aF13
  have HF13 := fun_mk (st := sLaw) lF13 cF13 kF13
  have HM0 := fun_mk (st := sInit) lM0 cM0 kM0
  have HM1 := fun_mk (st := sEq) lM1 cM1 kM1
  have HM2 := fun_mk (st := sStr) lM2 cM2 kM2
  have HP0 := fun_mk (st := sLengths) lP0 cP0 kP0
  have HO0 := fun_mk (st := sOf) lO0 cO0 kO0
  have HO1 := fun_mk (st := sRead) lO1 cO1 kO1
  have HW0 := fun_mk (st := sWdsI) lW0 cW0 kW0
  have HW1 := fun_mk (st := sOver) lW1 cW1 kW1
  have HW2 := fun_mk (st := sTake) lW2 cW2 kW2
  have HJBC := fun_mk (st := sBCI) lJBC cJBC kJBC
  have HJTM := fun_mk (st := sTMI) lJTM cJTM kJTM
  have HJBT := fun_mk (st := sBTI) lJBT cJBT kJBT
  have bF0 := HF0.binds (ps := ["value"]) fun _ _ _ _ _ _ us hl => match us, hl with | [_], _ => rfl
  have bF1 := HF1.binds (ps := ["value", "low", "high"]) fun _ _ _ _ _ _ us hl => match us, hl with | [_, _, _], _ => rfl
  have bF2 := HF2.binds (ps := ["lengths"]) fun _ _ _ _ _ _ us hl => match us, hl with | [_], _ => rfl
  have bF3 := HF3.binds (ps := ["_law_script"]) fun _ _ _ _ _ _ us hl => match us, hl with | [_], _ => rfl
  have bF4 := HF4.binds (ps := ["_law_pen_here", "_law_many"]) fun _ _ _ _ _ _ us hl => match us, hl with | [_, _], _ => rfl
  have bF5 := HF5.binds (ps := ["_law_pen_here", "_law_some"]) fun _ _ _ _ _ _ us hl => match us, hl with | [_, _], _ => rfl
  have bF6 := HF6.binds (ps := ["_law_ask"]) fun _ _ _ _ _ _ us hl => match us, hl with | [_], _ => rfl
  have bF7 := HF7.binds (ps := ["_law_line_so"]) fun _ _ _ _ _ _ us hl => match us, hl with | [_], _ => rfl
  have bF8 := HF8.binds (ps := ["_law_pen_here"]) fun _ _ _ _ _ _ us hl => match us, hl with | [_], _ => rfl
  have bF9 := HF9.binds (ps := ["_law_pen_here", "_law_line_so"]) fun _ _ _ _ _ _ us hl => match us, hl with | [_, _], _ => rfl
  have bF10 := HF10.binds (ps := ["text"]) fun _ _ _ _ _ _ us hl => match us, hl with | [_], _ => rfl
  have bF11 := HF11.binds (ps := ["word"]) fun _ _ _ _ _ _ us hl => match us, hl with | [_], _ => rfl
  have bF12 := HF12.binds (ps := ["words"]) fun _ _ _ _ _ _ us hl => match us, hl with | [_], _ => rfl
  have bM1 := HM1.binds (ps := ["self", "other"]) fun _ _ _ _ _ _ us hl => match us, hl with | [_, _], _ => rfl
  have bM2 := HM2.binds (ps := ["self"]) fun _ _ _ _ _ _ us hl => match us, hl with | [_], _ => rfl
  have bP0 := HP0.binds (ps := ["self"]) fun _ _ _ _ _ _ us hl => match us, hl with | [_], _ => rfl
  have bW0 := HW0.binds (ps := ["self", "text", "row"]) fun _ _ _ _ _ _ us hl => match us, hl with | [_, _, _], _ => rfl
  have bW1 := HW1.binds (ps := ["self"]) fun _ _ _ _ _ _ us hl => match us, hl with | [_], _ => rfl
  have bW2 := HW2.binds (ps := ["self", "low", "high"]) fun _ _ _ _ _ _ us hl => match us, hl with | [_, _, _], _ => rfl
  have bO0 := HO0.binds (ps := ["cls", "lengths"]) fun _ _ _ _ _ _ us hl => match us, hl with | [_, _], _ => rfl
  have bO1 := HO1.binds (ps := ["cls", "text"]) fun _ _ _ _ _ _ us hl => match us, hl with | [_, _], _ => rfl
  have bJBC := HJBC.binds (ps := ["self", "at"]) fun _ _ _ _ _ _ us hl => match us, hl with | [_, _], _ => rfl
  have bJTM := HJTM.binds (ps := ["self", "what", "most"]) fun _ _ _ _ _ _ us hl => match us, hl with | [_, _, _], _ => rfl
  have bJBT := HJBT.binds (ps := ["self", "line", "word"]) fun _ _ _ _ _ _ us hl => match us, hl with | [_, _, _], _ => rfl
  have T : Txt K mg C fF0 fF1 0 fF2 := ⟨⟨pg, hd, po, sa⟩, nL, nT, PySem.W.mg_of X G aC, GF0, GF1, GF2, ⟨_, PySem.W.mg_of X G mb⟩, ⟨_, PySem.W.mg_of X G mt⟩, PySem.W.mg_none_of X G z_isinstance, PySem.W.mg_none_of X G z_int, PySem.W.mg_none_of X G z_bool, PySem.W.mg_none_of X G z_str, PySem.W.mg_none_of X G z_repr, PySem.W.mg_none_of X G z_len, PySem.W.mg_none_of X G z_list, PySem.W.mg_none_of X G z_tuple, PySem.W.mg_none_of X G z_range, PySem.W.mg_none_of X G z_abs, PySem.W.mg_none_of X G z_enumerate, PySem.W.mg_none_of X G z_sum, PySem.W.mg_none_of X G z_iter⟩
  have Z0BC : ErC K mg "BadCycle" "at" cBC fJBC := ⟨⟨⟨_, _, _, _, _, _, _, _, _, _, _, _, _, _, _, xBC, rfl⟩, saBC, exBC, tyBC, kcBC⟩, aJBC, tiBC, PySem.W.mg_of X G nBC, no0BC, ⟨ggBC, gtBC, exBC, hdBC⟩, ⟨ggBC, gtBC, exBC, hdBC, ccBC, clsG, clsT, moBC⟩⟩
  have Z0TM : ErC K mg "TooMany" "what" cTM fJTM := ⟨⟨⟨_, _, _, _, _, _, _, _, _, _, _, _, _, _, _, xTM, rfl⟩, saTM, exTM, tyTM, kcTM⟩, aJTM, tiTM, PySem.W.mg_of X G nTM, no0TM, ⟨ggTM, gtTM, exTM, hdTM⟩, ⟨ggTM, gtTM, exTM, hdTM, ccTM, clsG, clsT, moTM⟩⟩
  have Z1TM : ErC K mg "TooMany" "most" cTM fJTM := ⟨⟨⟨_, _, _, _, _, _, _, _, _, _, _, _, _, _, _, xTM, rfl⟩, saTM, exTM, tyTM, kcTM⟩, aJTM, tiTM, PySem.W.mg_of X G nTM, no1TM, ⟨ggTM, gtTM, exTM, hdTM⟩, ⟨ggTM, gtTM, exTM, hdTM, ccTM, clsG, clsT, moTM⟩⟩
  have Z0BT : ErC K mg "BadText" "line" cBT fJBT := ⟨⟨⟨_, _, _, _, _, _, _, _, _, _, _, _, _, _, _, xBT, rfl⟩, saBT, exBT, tyBT, kcBT⟩, aJBT, tiBT, PySem.W.mg_of X G nBT, no0BT, ⟨ggBT, gtBT, exBT, hdBT⟩, ⟨ggBT, gtBT, exBT, hdBT, ccBT, clsG, clsT, moBT⟩⟩
  have Z1BT : ErC K mg "BadText" "word" cBT fJBT := ⟨⟨⟨_, _, _, _, _, _, _, _, _, _, _, _, _, _, _, xBT, rfl⟩, saBT, exBT, tyBT, kcBT⟩, aJBT, tiBT, PySem.W.mg_of X G nBT, no1BT, ⟨ggBT, gtBT, exBT, hdBT⟩, ⟨ggBT, gtBT, exBT, hdBT, ccBT, clsG, clsT, moBT⟩⟩
  have HT : HeardT K mg cBT cTM cDE fJBT fJTM := ⟨Z0BT, Z1BT, Z0TM, Z1TM, PySem.W.mg_of X G aDE, PySem.W.exm_ref exDE hdDE tyDE sdBT, PySem.W.exm_ref exDE hdDE tyDE sdTM, kit_self, kit_ref hdBT tyBT sUN sUU, kit_self, PySem.W.mg_none_of X G z_isinstance, PySem.W.mg_none_of X G z_repr⟩
  obtain ⟨tabR, codR⟩ := OT fa cR Pt _ _ eR dR vR sR GF13 lF13 rfl rfl lR pR
  refine ⟨PySem.W.fnOf "law" "law" (defArgs sLaw) (defBody sLaw) (defScope sLaw) .none kVF13 dcF13 pmF13 anF13 (.ref cR) ctF13, cR, Pt, fun s v => .of_eq rfl, ⟨tabR, nR, codR⟩, fun base _ _ TB => ?_⟩
  have M : CyK K C := ⟨⟨⟨pg, hd, po, sa⟩, cc, clsG, clsT, mo, kit_self⟩, kit_self⟩
  have kCS : PySem.W.kitOne K (.ref C) (.type "str") = some false := by
    unfold PySem.W.kitOne
    rw [if_neg (fun q => by cases beq_iff_eq.mp q)]
    unfold PySem.W.kitCls
    exact (if_pos (by decide +kernel)).trans sCS
  have EM : ErM l.prog w K mg base cBC fJBC cTM fJTM _ _ := ⟨Z0BC, ok_bci HJBC Z0BC, bJBC, Z0TM, Z1TM, ok_tmi HJTM Z0TM Z1TM, bJTM⟩
  have GC := ok_chk HF2 T HF0 bF0 HF1 bF1 EM
  have CIN : FnR l.prog w K mg base (L2.CX l.prog w) 4 fM0 (spStarO C cBC cTM) := ok_init HM0 T GC bF2 HF2.kp
  have MI : Mk K C fM0 := ⟨mk, aM0, iM0, kc⟩
  have OF := ok_of HO0 T MI CIN
  have kRD := kb_of HO1 fun _ _ _ _ _ _ _ _ => rfl
  have TW : TxtW K mg Cw fF11 fW1 fW2 := ⟨⟨wpg, whd, wpo, wsa⟩, nW, nRw, nA, PySem.W.mg_of X G aCw, GF11, ⟨aW1, iW1, kW1⟩, ⟨aW2, iW2, kW2⟩⟩
  have ZB : ErM2 l.prog w K mg base "BadText" "line" "word" cBT fJBT _ := ⟨Z0BT, Z1BT, ok_bti HJBT Z0BT Z1BT, bJBT⟩
  have MW : Mk K Cw fW0 := ⟨wmk, aW0, iW0, wkc⟩
  have WI := ok_wdsI (P := l.prog) (w := w) (base := base) HW0 TW
  have WO := ok_wdsOf HF10 T TW MW WI bW0 ZB
  have OV := ok_over (P := l.prog) (w := w) (base := base) HW1 T TW
  have WR := ok_writ (P := l.prog) (w := w) (base := base) HF11 T
  have TK := ok_take HW2 TW OV bW1 WR bF11 HF11.kp ZB
  have TL := ok_takeL HF12 T TW OV bW1 TK bW2
  have RD := ok_read HO1 MI CIN WO bF10 HF10.kp GF10 TL bF12 HF12.kp GF12
  have GL : CP l.prog w K mg base C "lengths" (spGetL C) qP0 fP0 _ := ⟨ok_lengths HP0 T, bP0, ⟨aP0, gP0, tP0, ⟨_, rP0⟩⟩⟩
  have ST : CS l.prog w K mg base C "__str__" (spStrC C) fM2 _ := ⟨ok_str HM2 T, bM2, aM2, iM2⟩
  have EQ : EqT l.prog w K mg base C fM1 _ := ⟨ok_eq HM1 T M, bM1, ⟨aM1, iM1⟩, ⟨aM1, iM1, ne, mo⟩⟩
  have DP : Df l.prog w K mg base "_law_pen" 1 fF3 _ ["_law_script"] _ := ⟨ok_pen HF3 T, bF3, HF3.kp, GF3⟩
  have DW : Df l.prog w K mg base "_law_draw" 1 fF4 _ ["_law_pen_here", "_law_many"] _ := ⟨ok_draw HF4 T, bF4, HF4.kp, GF4⟩
  have DI : Df l.prog w K mg base "_law_pick" 2 fF5 _ ["_law_pen_here", "_law_some"] _ := ⟨ok_pick HF5 T DW, bF5, HF5.kp, GF5⟩
  have DL : Df l.prog w K mg base "_law_lengths" 3 fF8 _ ["_law_pen_here"] _ := ⟨ok_lens HF8 T DW DI, bF8, HF8.kp, GF8⟩
  have DB : Df l.prog w K mg base "_law_bent" 3 fF9 _ ["_law_pen_here", "_law_line_so"] _ := ⟨ok_bent HF9 T DW DI, bF9, HF9.kp, GF9⟩
  have DU : Df l.prog w K mg base "_law_due" 1 fF7 _ ["_law_line_so"] _ := ⟨ok_due HF7 T, bF7, HF7.kp, GF7⟩
  exact ok_law HF13 rfl T M kCS EQ TB DP DI DL DB DU GL ST CIN MI OF bO0 ⟨rd, ga⟩ ⟨aO0, ⟨_, rO0⟩, nO0⟩ RD bO1 kRD ⟨aO1, ⟨_, rO1⟩, nO1⟩ HF6 bF6 GF6 HT
theorem walk {l : PySem.W.OpenLaw} {q : Program} {loose : List Str} {XP : (Str → Option Value) → Heap → Prop} {YP : World → Heap → Prop} {d : DefRec} {K : Params → PySem.W.Frag} (hn : l.most = some 63) (hdf : d.params.defaults = [])
    (hY : ∀ (w : World) (h : Heap), YP w h → (K w.params).In h) (rec : ((recsOf q).any fun e => e.name == ("law" : Str)) = true)
    (F : ∀ (w : World) (mg : Str → Option Value) (fa : Addr) (h : Heap), (K w.params).In h → h.Ns mainGlobals mg → mg d.name = some (.ref fa) → OwnT (K w.params) mg h "law" →
      ∃ (fd : FuncData) (c Pt : Addr), (∀ (s : Shared) (u : Value), BindsTo s fd ⟨[u], []⟩ [("_law_script", u)]) ∧ Maker (K w.params) h c Pt ∧ ∀ base : Heap, (K w.params).In base → base.Ns mainGlobals mg → LamX.TabB base mg c Pt → FnG l.prog w (K w.params) mg base CX0 9 fa fd ["_law_script"] (spLawT (K w.params) Pt)) :
    PySem.W.WalkO q loose XP YP l.row.toRowW d [] (fun f vs => PySem.call f vs) :=
  walkT (n := 63) (k := 9) (x := "_law_script") (y := "law") (sp := fun w Pt => spLawT (K w.params) Pt) hn (by decide) hdf ⟨rfl, by decide, by decide⟩ hY rec F fun w H a Pt ns hl _ hP hS => ⟨a, ns, rfl, hP, hS, hl, fun _ => rfl⟩
end My
open PySem PySem.W PyProof.Rows
set_option maxRecDepth 100000 in
set_option maxHeartbeats 0 in
theorem PySem.Challenge.cw_remadedays_k15_cycles_written_and_read_holds : PySem.Challenge.rw_remadedays_k15_cycles_written_and_read.Holds := by
  w_on; o_law; k_headL; (case hw => w_witness2)
  k_fill
  refine My.walk (l := PySem.Challenge.rw_remadedays_k15_cycles_written_and_read) rfl rfl (fun w h Y => PySem.W.kIn_of Y) ?R ?F
  case R => first | decide +kernel | rfl | kernel_rfl
  case F =>
    intro w mg fa h KX G hmg OT
    refine' My.all_mk KX G hmg OT ?aC ?aF0 ?lF0 ?cF0 ?kF0 ?aF1 ?lF1 ?cF1 ?kF1 ?aF2 ?lF2 ?cF2 ?kF2 ?aF3 ?lF3 ?cF3 ?kF3 ?aF4 ?lF4 ?cF4 ?kF4 ?aF5 ?lF5 ?cF5 ?kF5 ?aF6 ?lF6 ?cF6 ?kF6 ?aF7 ?lF7 ?cF7 ?kF7 ?aF8 ?lF8 ?cF8 ?kF8 ?aF9 ?lF9 ?cF9 ?kF9 ?aF10 ?lF10 ?cF10 ?kF10 ?aF11 ?lF11 ?cF11 ?kF11 ?aF12 ?lF12 ?cF12 ?kF12 ?aF13 ?lF13 ?cF13 ?kF13 ?aM0 ?iM0 ?lM0 ?cM0 ?kM0 ?aM1 ?iM1 ?lM1 ?cM1 ?kM1 ?aM2 ?iM2 ?lM2 ?cM2 ?kM2 ?aP0 ?gP0 ?tP0 ?rP0 ?lP0 ?cP0 ?kP0 ?rd ?ga ?aO0 ?rO0 ?nO0 ?lO0 ?cO0 ?kO0 ?aO1 ?rO1 ?nO1 ?lO1 ?cO1 ?kO1 ?aCw ?aW0 ?iW0 ?lW0 ?cW0 ?kW0 ?aW1 ?iW1 ?lW1 ?cW1 ?kW1 ?aW2 ?iW2 ?lW2 ?cW2 ?kW2 ?wpg ?whd ?wpo ?wsa ?wmk ?wkc ?nW ?nRw ?nA ?sCS ?pg ?hd ?po ?sa ?mk ?kc ?nL ?nT ?ty ?cc ?mo ?ne ?mb ?mt ?z_isinstance ?z_int ?z_bool ?z_str ?z_repr ?z_len ?z_list ?z_tuple ?z_range ?z_abs ?z_enumerate ?z_sum ?z_iter ?clsG ?clsT ?aDE ?exDE ?hdDE ?tyDE ?nBC ?xBC ?saBC ?exBC ?tyBC ?kcBC ?aJBC ?tiBC ?lJBC ?cJBC ?kJBC ?no0BC ?ggBC ?gtBC ?hdBC ?ccBC ?moBC ?sdBC ?nTM ?xTM ?saTM ?exTM ?tyTM ?kcTM ?aJTM ?tiTM ?lJTM ?cJTM ?kJTM ?no0TM ?no1TM ?ggTM ?gtTM ?hdTM ?ccTM ?moTM ?sdTM ?nBT ?xBT ?saBT ?exBT ?tyBT ?kcBT ?aJBT ?tiBT ?lJBT ?cJBT ?kJBT ?no0BT ?no1BT ?ggBT ?gtBT ?hdBT ?ccBT ?moBT ?sdBT ?sUN ?sUU ?eCR ?lR ?pR ?nR
    (case aC => as_aux_lemma => k_is)
    (case aF0 => as_aux_lemma => k_is)
    (case lF0 => as_aux_lemma => k_is)
    (case cF0 => as_aux_lemma => k_is)
    (case kF0 => as_aux_lemma => k_is)
    (case aF1 => as_aux_lemma => k_is)
    (case lF1 => as_aux_lemma => k_is)
    (case cF1 => as_aux_lemma => k_is)
    (case kF1 => as_aux_lemma => k_is)
    (case aF2 => as_aux_lemma => k_is)
    (case lF2 => as_aux_lemma => k_is)
    (case cF2 => as_aux_lemma => k_is)
    (case kF2 => as_aux_lemma => k_is)
    (case aF3 => as_aux_lemma => k_is)
    (case lF3 => as_aux_lemma => k_is)
    (case cF3 => as_aux_lemma => k_is)
    (case kF3 => as_aux_lemma => k_is)
    (case aF4 => as_aux_lemma => k_is)
    (case lF4 => as_aux_lemma => k_is)
    (case cF4 => as_aux_lemma => k_is)
    (case kF4 => as_aux_lemma => k_is)
    (case aF5 => as_aux_lemma => k_is)
    (case lF5 => as_aux_lemma => k_is)
    (case cF5 => as_aux_lemma => k_is)
    (case kF5 => as_aux_lemma => k_is)
    (case aF6 => as_aux_lemma => k_is)
    (case lF6 => as_aux_lemma => k_is)
    (case cF6 => as_aux_lemma => k_is)
    (case kF6 => as_aux_lemma => k_is)
    (case aF7 => as_aux_lemma => k_is)
    (case lF7 => as_aux_lemma => k_is)
    (case cF7 => as_aux_lemma => k_is)
    (case kF7 => as_aux_lemma => k_is)
    (case aF8 => as_aux_lemma => k_is)
    (case lF8 => as_aux_lemma => k_is)
    (case cF8 => as_aux_lemma => k_is)
    (case kF8 => as_aux_lemma => k_is)
    (case aF9 => as_aux_lemma => k_is)
    (case lF9 => as_aux_lemma => k_is)
    (case cF9 => as_aux_lemma => k_is)
    (case kF9 => as_aux_lemma => k_is)
    (case aF10 => as_aux_lemma => k_is)
    (case lF10 => as_aux_lemma => k_is)
    (case cF10 => as_aux_lemma => k_is)
    (case kF10 => as_aux_lemma => k_is)
    (case aF11 => as_aux_lemma => k_is)
    (case lF11 => as_aux_lemma => k_is)
    (case cF11 => as_aux_lemma => k_is)
    (case kF11 => as_aux_lemma => k_is)
    (case aF12 => as_aux_lemma => k_is)
    (case lF12 => as_aux_lemma => k_is)
    (case cF12 => as_aux_lemma => k_is)
    (case kF12 => as_aux_lemma => k_is)
    (case aF13 => as_aux_lemma => k_is)
    (case lF13 => as_aux_lemma => k_is)
    (case cF13 => as_aux_lemma => k_is)
    (case kF13 => as_aux_lemma => k_is)
    (case aM0 => as_aux_lemma => k_is)
    (case iM0 => as_aux_lemma => k_is)
    (case lM0 => as_aux_lemma => k_is)
    (case cM0 => as_aux_lemma => k_is)
    (case kM0 => as_aux_lemma => k_is)
    (case aM1 => as_aux_lemma => k_is)
    (case iM1 => as_aux_lemma => k_is)
    (case lM1 => as_aux_lemma => k_is)
    (case cM1 => as_aux_lemma => k_is)
    (case kM1 => as_aux_lemma => k_is)
    (case aM2 => as_aux_lemma => k_is)
    (case iM2 => as_aux_lemma => k_is)
    (case lM2 => as_aux_lemma => k_is)
    (case cM2 => as_aux_lemma => k_is)
    (case kM2 => as_aux_lemma => k_is)
    (case aP0 => as_aux_lemma => k_is)
    (case gP0 => as_aux_lemma => k_is)
    (case tP0 => as_aux_lemma => k_is)
    (case rP0 => as_aux_lemma => k_is)
    (case lP0 => as_aux_lemma => k_is)
    (case cP0 => as_aux_lemma => k_is)
    (case kP0 => as_aux_lemma => k_is)
    (case rd => as_aux_lemma => k_is)
    (case ga => as_aux_lemma => k_is)
    (case aO0 => as_aux_lemma => k_is)
    (case rO0 => as_aux_lemma => k_is)
    (case nO0 => as_aux_lemma => k_is)
    (case lO0 => as_aux_lemma => k_is)
    (case cO0 => as_aux_lemma => k_is)
    (case kO0 => as_aux_lemma => k_is)
    (case aO1 => as_aux_lemma => k_is)
    (case rO1 => as_aux_lemma => k_is)
    (case nO1 => as_aux_lemma => k_is)
    (case lO1 => as_aux_lemma => k_is)
    (case cO1 => as_aux_lemma => k_is)
    (case kO1 => as_aux_lemma => k_is)
    (case aCw => as_aux_lemma => k_is)
    (case aW0 => as_aux_lemma => k_is)
    (case iW0 => as_aux_lemma => k_is)
    (case lW0 => as_aux_lemma => k_is)
    (case cW0 => as_aux_lemma => k_is)
    (case kW0 => as_aux_lemma => k_is)
    (case aW1 => as_aux_lemma => k_is)
    (case iW1 => as_aux_lemma => k_is)
    (case lW1 => as_aux_lemma => k_is)
    (case cW1 => as_aux_lemma => k_is)
    (case kW1 => as_aux_lemma => k_is)
    (case aW2 => as_aux_lemma => k_is)
    (case iW2 => as_aux_lemma => k_is)
    (case lW2 => as_aux_lemma => k_is)
    (case cW2 => as_aux_lemma => k_is)
    (case kW2 => as_aux_lemma => k_is)
    (case wpg => as_aux_lemma => k_is)
    (case whd => as_aux_lemma => k_is)
    (case wpo => as_aux_lemma => k_is)
    (case wsa => as_aux_lemma => k_is)
    (case wmk => as_aux_lemma => k_is)
    (case wkc => as_aux_lemma => k_is)
    (case nW => as_aux_lemma => k_is)
    (case nRw => as_aux_lemma => k_is)
    (case nA => as_aux_lemma => k_is)
    (case sCS => as_aux_lemma => k_is)
    (case pg => as_aux_lemma => k_is)
    (case hd => as_aux_lemma => k_is)
    (case po => as_aux_lemma => k_is)
    (case sa => as_aux_lemma => k_is)
    (case mk => as_aux_lemma => k_is)
    (case kc => as_aux_lemma => k_is)
    (case nL => as_aux_lemma => k_is)
    (case nT => as_aux_lemma => k_is)
    (case ty => as_aux_lemma => k_is)
    (case cc => as_aux_lemma => k_is)
    (case mo => as_aux_lemma => k_is)
    (case ne => as_aux_lemma => k_is)
    (case mb => as_aux_lemma => k_is)
    (case mt => as_aux_lemma => k_is)
    (case z_isinstance => as_aux_lemma => k_is)
    (case z_int => as_aux_lemma => k_is)
    (case z_bool => as_aux_lemma => k_is)
    (case z_str => as_aux_lemma => k_is)
    (case z_repr => as_aux_lemma => k_is)
    (case z_len => as_aux_lemma => k_is)
    (case z_list => as_aux_lemma => k_is)
    (case z_tuple => as_aux_lemma => k_is)
    (case z_range => as_aux_lemma => k_is)
    (case z_abs => as_aux_lemma => k_is)
    (case z_enumerate => as_aux_lemma => k_is)
    (case z_sum => as_aux_lemma => k_is)
    (case z_iter => as_aux_lemma => k_is)
    (case clsG => as_aux_lemma => k_is)
    (case clsT => as_aux_lemma => k_is)
    (case aDE => as_aux_lemma => k_is)
    (case exDE => as_aux_lemma => k_is)
    (case hdDE => as_aux_lemma => k_is)
    (case tyDE => as_aux_lemma => k_is)
    (case nBC => as_aux_lemma => k_is)
    (case xBC => as_aux_lemma => k_is)
    (case saBC => as_aux_lemma => k_is)
    (case exBC => as_aux_lemma => k_is)
    (case tyBC => as_aux_lemma => k_is)
    (case kcBC => as_aux_lemma => k_is)
    (case aJBC => as_aux_lemma => k_is)
    (case tiBC => as_aux_lemma => k_is)
    (case lJBC => as_aux_lemma => k_is)
    (case cJBC => as_aux_lemma => k_is)
    (case kJBC => as_aux_lemma => k_is)
    (case no0BC => as_aux_lemma => k_is)
    (case ggBC => as_aux_lemma => k_is)
    (case gtBC => as_aux_lemma => k_is)
    (case hdBC => as_aux_lemma => k_is)
    (case ccBC => as_aux_lemma => k_is)
    (case moBC => as_aux_lemma => k_is)
    (case sdBC => as_aux_lemma => k_is)
    (case nTM => as_aux_lemma => k_is)
    (case xTM => as_aux_lemma => k_is)
    (case saTM => as_aux_lemma => k_is)
    (case exTM => as_aux_lemma => k_is)
    (case tyTM => as_aux_lemma => k_is)
    (case kcTM => as_aux_lemma => k_is)
    (case aJTM => as_aux_lemma => k_is)
    (case tiTM => as_aux_lemma => k_is)
    (case lJTM => as_aux_lemma => k_is)
    (case cJTM => as_aux_lemma => k_is)
    (case kJTM => as_aux_lemma => k_is)
    (case no0TM => as_aux_lemma => k_is)
    (case no1TM => as_aux_lemma => k_is)
    (case ggTM => as_aux_lemma => k_is)
    (case gtTM => as_aux_lemma => k_is)
    (case hdTM => as_aux_lemma => k_is)
    (case ccTM => as_aux_lemma => k_is)
    (case moTM => as_aux_lemma => k_is)
    (case sdTM => as_aux_lemma => k_is)
    (case nBT => as_aux_lemma => k_is)
    (case xBT => as_aux_lemma => k_is)
    (case saBT => as_aux_lemma => k_is)
    (case exBT => as_aux_lemma => k_is)
    (case tyBT => as_aux_lemma => k_is)
    (case kcBT => as_aux_lemma => k_is)
    (case aJBT => as_aux_lemma => k_is)
    (case tiBT => as_aux_lemma => k_is)
    (case lJBT => as_aux_lemma => k_is)
    (case cJBT => as_aux_lemma => k_is)
    (case kJBT => as_aux_lemma => k_is)
    (case no0BT => as_aux_lemma => k_is)
    (case no1BT => as_aux_lemma => k_is)
    (case ggBT => as_aux_lemma => k_is)
    (case gtBT => as_aux_lemma => k_is)
    (case hdBT => as_aux_lemma => k_is)
    (case ccBT => as_aux_lemma => k_is)
    (case moBT => as_aux_lemma => k_is)
    (case sdBT => as_aux_lemma => k_is)
    (case sUN => as_aux_lemma => k_is)
    (case sUU => as_aux_lemma => k_is)
    (case eCR => rfl)
    (case lR => as_aux_lemma => k_is)
    (case pR => rfl)
    (case nR => first | rfl | kernel_rfl)
#print axioms PySem.Challenge.cw_remadedays_k15_cycles_written_and_read_holds
