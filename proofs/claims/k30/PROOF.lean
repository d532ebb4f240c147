import PyProof.Rows.All
import Wide.All
import OpenK.AllK
import Wide.FinOn
import HandS.ForMost
import HandS.IsInst
import HandS.TupAny
import HandS.Walk
import HandS.Wide
import KE.GoesEnum
import HandS.Defaults
import KE.KIsAll
import KE.KExcIs
import KE.KTryMore
import HandS.Base
import HandS.Call
import HandS.Exc
import HandS.ExcField
import HandS.ExcIs
import HandS.CallSlots
import HandS.ExcInit
import HandS.WordsExc
import HandS.MakeKwOnly
import PyProof.StrOps2
import HandS.WideBits
import HandS.TryOnly
import PySem.Challenge.RW_layoutsets_k30_costs_of_layouts
set_option Elab.async false
set_option linter.all false
set_option maxRecDepth 100000
set_option maxHeartbeats 4000000
namespace Vk
open PySem PySem.Spec PyProof.Rows L2

abbrev enumObj (i : Addr) : Obj :=
  { cls := .type "enumerate", data := .fields #[.none, .bool false, .ref i, rawInt 0, .none, .none] }
/-! ### enumerate of one thing that begins as a new iterator -/
theorem enum_one {v : Value} {o : Obj} {G : Heap → Prop} (B : Begins v o G) :
    Meets (Builtin.«enumerate.__new__» ⟨[.type "enumerate", v], []⟩)
      (fun _ R s => G s.heap ∧
        R (.ok (.ret (.ref (s.heap.push o).objs.size)))
          { s with heap := (s.heap.push o).push (enumObj s.heap.objs.size) }) :=
  .of_wp fun prog w A R s h => by
    obtain ⟨hp, gs, dd, tk, os⟩ := s
    obtain ⟨hG, hR⟩ := h
    have sub := sub_enumerate
    have go : ∀ {A' : Around} {E Q : Value → Shared → Prop},
        Q (.ref hp.objs.size) ⟨hp.push o, gs, dd, tk, os⟩ →
        wpAny (model prog w) A' (pyIter v) Q E ⟨hp, gs, dd, tk, os⟩ :=
      fun q => B.iter prog w _ _ ⟨hp, gs, dd, tk, os⟩ _ hG q
    wp_walk using go
    refine wpAny_stack_any fun _ => wpAny_pure ?_
    split
    · rename_i c _ _ _ _ _
      cases (c == Value.type "enumerate") <;> wp_walk using go <;> exact ⟨_, rfl, hR⟩
    · wp_walk using go
      exact ⟨_, rfl, hR⟩
section
variable {prog : Program} {w : World} {A : Around} {E : Value → Shared → Prop} {s : Shared}
theorem enum_call {v : Value} {o : Obj} {G : Heap → Prop} {Q : Value → Shared → Prop}
    (B : Begins v o G) (hG : G s.heap)
    (h : ∀ h', IsEnum h' (s.heap.objs.size + 1) s.heap.objs.size 0 .none → h'.get? s.heap.objs.size = some o →
      (∀ b u, s.heap.get? b = some u → h'.get? b = some u) →
      Q (.ref (s.heap.objs.size + 1)) { s with heap := h' }) :
    wpAny (model prog w) A (call (.type "enumerate") [v]) Q E s := by
  refine callType_new F.called_enumerate (by decide) (F.typeCall_enumerate_1 _) (F.newCall_enumerate_1 _)
    (fun obj => F.args_object_init_2 obj _) F.entry_enumerate_new (enum_one B) ⟨hG, ?_⟩
  have sz : (s.heap.push o).objs.size = s.heap.objs.size + 1 := Heap.size_push ..
  show _ ∧ _
  rw [sz]
  generalize hk : (s.heap.push o).push (enumObj s.heap.objs.size) = k
  have e1 : IsEnum k (s.heap.objs.size + 1) s.heap.objs.size 0 .none := by
    rw [← hk, ← sz]
    exact Heap.get?_push_size (s.heap.push o) rfl
  have e2 : k.get? s.heap.objs.size = some o := by
    rw [← hk]
    exact Heap.get?_push_of_some _ (Heap.get?_push_size _ B.free)
  have e3 : ∀ b u, s.heap.get? b = some u → k.get? b = some u := fun b u q => by
    rw [← hk]
    exact Heap.get?_push_of_some _ (Heap.get?_push_of_some _ q)
  exact ⟨⟨_, e1, rfl⟩, h k e1 e2 e3⟩
end
end Vk

namespace Vk
open PySem PySem.Spec PyProof.Rows L2

/-- enumerate over the tuple at a: at each turn a new pair of the number and the item -/
def EnT (K : PySem.W.Frag) (a : Addr) : It where
  go i H := ∃ (xs : List V) (x : V), SqT K H a xs ∧ xs[i]? = some x
  yld i H v H' := ∃ (T : Addr) (x : V), v = .ref T ∧ H T = none ∧ H' = upd H T (.tup [.int (i : Nat), x]) ∧
    ∀ xs, SqT K H a xs → xs[i]? = some x
  stop i H := ∃ xs : List V, SqT K H a xs ∧ xs.length ≤ i

theorem enT_turn {P : Program} {w : World} {K : PySem.W.Frag} {es : List Expr} {kk : Nat} {tp : Pos} (a e it : Addr) :
    Turn P w K (.Tuple es kk tp) (EnT K a) [e, it] e
      (fun i h => (∃ old, IsEnum h e it ((i : Nat) : Int) old) ∧ h.IsTupleIter it a i ∧ e ≠ it) where
  mem := by simp
  obj := by
    rintro i h ⟨⟨old, he⟩, ⟨o, ho, hc, hd⟩, _⟩ b hb
    rcases (by simpa using hb : b = e ∨ b = it) with rfl | rfl
    · exact ⟨_, he, fun v q => nomatch q⟩
    · exact ⟨o, ho, fun v q => by rw [hd] at q; cases q⟩
  keep := by
    rintro i h h' ⟨⟨old, he⟩, hi, hne⟩ k
    exact ⟨⟨old, k e (by simp) _ he⟩, hi.at fun o q => k it (by simp) o q, hne⟩
  item := by
    rintro X rfl rfl rfl hc i pins s σ H E I hf ⟨⟨old, he⟩, hit, hne⟩ ⟨xs, x, hq, hx⟩
    obtain ⟨its, rv, p, hz⟩ := I.tuple hq
    have pT : s.heap.IsTuple a its.toArray := p
    have hel := Heap.lt_size he
    have hil : it < s.heap.objs.size := let ⟨_, q, _⟩ := hit; Heap.lt_size q
    have nae : e ≠ a := by
      rintro rfl
      obtain ⟨o, q, c, _⟩ := p
      rw [he] at q
      cases q
      injection c with c
      exact absurd c (by decide)
    have nai : a ≠ it := by
      rintro rfl
      obtain ⟨o, q, c, _⟩ := p
      obtain ⟨o2, q2, c2, _⟩ := hit
      rw [q] at q2
      cases q2
      rw [c] at c2
      injection c2 with c2
      exact absurd c2 (by decide)
    have D := Draws.tuple (prog := X.prog) (w := X.w) (A := X.A.in1) (I.ok.hd hc) it a nai its.toArray
    have lt : i < its.toArray.size := by
      have l1 := rv.length
      have l2 := (List.getElem?_eq_some_iff.mp hx).1
      simp only [List.size_toArray]
      omega
    refine wpAny_pyNext_enum_itemD D he ⟨hit, pT⟩ lt hne (by simp [nae, hne]) fun u h1 tk hu ho st1 hT hsz hk => ?_
    obtain ⟨u', hu', ru⟩ := rv.get hx
    obtain rfl : u' = u := by
      have e1 : its[i]? = some u := by simpa using hu
      exact Option.some.inj (hu'.symm.trans e1)
    refine ⟨_, rfl, wpAny_letOwnedTupleGo_enum (s := { s with heap := h1, toks := tk + 1 }) ho fun h2 he2 sb => ?_⟩
    have hT2 := (sb.2 _ (Nat.ne_of_gt hel)).trans hT
    have fresh : H s.heap.objs.size = none := I.hok.fresh (Nat.le_refl _)
    have new : ObjOk X.prog X.w (upd H s.heap.objs.size (.tup [.int (i : Nat), x])) h2 s.heap.objs.size
        (.tup [.int (i : Nat), x]) :=
      ⟨by show 2 ≤ sizeLine; decide, _, .cons ⟨_, rfl⟩ (.cons ru .nil), ⟨_, hT2, rfl, _, rfl⟩⟩
    have I1 := I.turnedNew (t' := tk + 1) (ch := [e, it]) (fun b ob hb q =>
      (sb.2 b (fun z => hb (by simp [z]))).trans
        (hk b ob (fun z => hb (by simp [z])) (fun z => hb (by simp [z])) q)) hf (Nat.le_refl _) new
    refine ⟨.ref s.heap.objs.size, _, I1, rfl, ⟨_, x, rfl, fresh, rfl, fun ys hy => ?_⟩, ⟨⟨u', ?_⟩, ?_, hne⟩, fun b hb => ?_⟩
    · rw [I.tuple_inj hy hq]
      exact hx
    · rw [show ((i + 1 : Nat) : Int) = (i : Int) + 1 by omega]
      exact he2
    · exact st1.1.at fun o q => (sb.2 it (Ne.symm hne)).trans q
    · have lb : b < s.heap.objs.size := by
        rcases (by simpa using hb : b = e ∨ b = it) with rfl | rfl
        · exact hel
        · exact hil
      rw [upd_ne (Nat.ne_of_lt lb)]
      exact (hf b hb).1
  done := by
    rintro X rfl rfl rfl hc i pins s σ H E I hf ⟨⟨old, he⟩, hit, hne⟩ ⟨xs, hq, hx⟩
    obtain ⟨its, rv, p, hz⟩ := I.tuple hq
    have pT : s.heap.IsTuple a its.toArray := p
    have nai : a ≠ it := by
      rintro rfl
      obtain ⟨o, q, c, _⟩ := p
      obtain ⟨o2, q2, c2, _⟩ := hit
      rw [q] at q2
      cases q2
      rw [c] at c2
      injection c2 with c2
      exact absurd c2 (by decide)
    have T : s.TypeIs (.ref e) "enumerate" := ⟨_, he, rfl⟩
    obtain ⟨f0, f1, f2, f3, f4, f5⟩ := hf it (by simp)
    have past : its.toArray[i]? = none := by
      have l1 := rv.length
      simp
      omega
    unfold pyNext
    refine wpAny_bind (wpAny_attempt (wpAny_callSpecial?_slot (name := Str.ofString "__next__") T F.slot_enumerate_next
      (wpAny_call_entry F.slot_enumerate_next T F.entry_enumerate_next ?_ (F.args_enumerate_next_1 _))))
    show wpAny _ _ (field (.ref e) 2 >>= _) _ _ _
    refine wpAny_bind (wpAny_field he rfl (x := .ref it) rfl ?_)
    refine wpAny_bind (wpAny_nextOf_tuple_end (I.ok.hd hc) hit pT past fun h' x eb hs => ?_)
    obtain ⟨o, ho, hc2⟩ := hs
    refine wpAny_bind (wpAny_isInstance (T := "StopIteration") (b := true) ⟨o, ho, hc2⟩ isSubtype_stop ?_)
    exact wpAny_pure ⟨rfl, I.turned (t' := s.toks) (fun b o hb q => eb b o hb q) f0 f1 f3 f4 f5⟩
  self := fun A i s Q E st h => wpAny_pyIter_enum st.1.choose_spec h
def iEnT (K : PySem.W.Frag) (ta : TA) : TI := fun σ H R => ta σ H fun vs H1 =>
  ∃ (a : Addr) (xs : List V), vs = [.ref a] ∧ SqT K H1 a xs ∧ R (EnT K a) H1
theorem pi_enT {X : Cx} {e : Expr} {ta : TA} {p pos tp : Pos} {es : List Expr} {kk : Nat}
    (hg : Gl X "enumerate") (hm : X.mg "enumerate" = none) (ha : PA X [e] ta)
    (hs : starEach [e] X.env = [(false, eval e X.env)] := by rfl) :
    PI X (.Tuple es kk tp) (.Call (.Name "enumerate" p) [e] [] pos) (iEnT X.K ta) := by
  refine ⟨fun pins s σ H R I h => ?_⟩
  refine Call_ (ld_blt I hg hm boot_enumerate (PyProof.Rows.callWith_type1
    (thn (ha.run pos pins s σ H _ I h) fun us s1 ⟨vs, H1, I1, r1, q1⟩ => ?_) hs rfl))
  obtain ⟨a, xs, rfl, hq, q⟩ := q1
  cases r1 with
  | cons r rr =>
    cases rr
    cases r
    obtain ⟨its, rv, p', hz⟩ := I1.tuple hq
    refine enum_call (begins_tuple a its.toArray) p' fun h' he hit hk => wpAny_pyIter_enum he ?_
    refine ⟨s1.heap.objs.size + 1, [s1.heap.objs.size + 1, s1.heap.objs.size], _, _, H1, rfl,
      I1.kept (t' := s1.toks) hk, enT_turn a (s1.heap.objs.size + 1) s1.heap.objs.size,
      ⟨⟨.none, he⟩, ⟨_, hit, rfl, rfl⟩, Nat.succ_ne_self _⟩, fun b hb => ?_, q⟩
    have lb : s1.heap.objs.size ≤ b := by
      rcases (by simpa using hb : b = s1.heap.objs.size + 1 ∨ b = s1.heap.objs.size) with rfl | rfl
      · exact Nat.le_add_right _ _
      · exact Nat.le_refl _
    exact I1.fpOk lb (I1.hok.fresh lb)
theorem walk_enT {K : PySem.W.Frag} {a : Addr} {xs : List V} : Walk (EnT K a) xs.length (fun H => SqT K H a xs)
    (YPair (fun i => some (.int (i : Nat))) (fun i => xs[i]?)) where
  goes i _ hi q := ⟨xs, xs[i], q, by simp [hi]⟩
  stops _ q := ⟨xs, q, Nat.le_refl _⟩
  yields i H v H' _ q y := let ⟨T, x, h1, h2, h3, h4⟩ := y; ⟨T, .int (i : Nat), x, h1, h2, h3, rfl, h4 xs q⟩
end Vk

namespace Vk
open PySem PySem.Spec PyProof.Rows L2

/-! ### a power of a great base -/
def CPowW (i j : Int) : Prop := 0 ≤ j ∧ ((i.natAbs.log2 : Int) + 1) * j ≤ 1000000
theorem op_powW {X : Cx} : OpR X (binaryOp .Pow) (rI CPowW fun i j => .int (i ^ j.toNat)) :=
  opI fun i j _ _ _ _ _ hc q => pow_int hc.1 (by
    have b : ((Builtin.Int.intBits i : Nat) : Int) ≤ (i.natAbs.log2 : Int) + 1 := by
      unfold Builtin.Int.intBits
      split <;> omega
    have m := Int.mul_le_mul_of_nonneg_right b hc.1
    have c := hc.2
    omega) q

/-! ### f(k = v): keywords alone -/
section
variable {X : Cx} {CX : CXT} {k : Nat} {f : Addr} {fd : FuncData} {ps ks : List Str} {sp : Sp} {E : XK} {x : Str}
  {p pos : Pos} {kws : List Keyword} {tk : TA} {g : List Value → List Value → List Value} {gV : List V → List V → List V}
theorem pe_callK0 (F : FnOk X.prog X.w X.K X.mg X.base CX k f fd ps sp) (hr : Room k X.A) (hg : Gl X x)
    (hm : X.mg x = some (.ref f)) (hk : PySem.W.keepIn X.K (.ref f) = true) (hb : KBn X.K fd ps 0 ks g gV)
    (hx : Passes CX X E) (hkw : PK X kws tk)
    (hall : (backToKw pos (keywordEach kws X.env)).all (·.1.isSome) = true := by rfl)
    (hks : (backToKw pos (keywordEach kws X.env)).filterMap (·.1) = ks := by rfl)
    (hdb : (x == ("__debug__" : Str)) = false := by decide)
    (hpl : ((backTo pos (starEach [] X.env)).any (·.1) ||
      (backToKw pos (keywordEach kws X.env)).any (·.1.isNone)) = false := by rfl) :
    PE X (.Call (.Name x p) [] kws pos) (tCallN 0 ks.length sp gV E tNil tk) := by
  refine ⟨fun pins s σ H Q I h => wpAny_Call_Name_kw (ld_glob I hg hm ?_ hdb)⟩
  refine PySem.W.callWith_KW0 (h₀ := X.base) I.ok.mod.kin hk hall ?_ hpl
  refine thn (hkw.run pos pins s σ H _ I h) fun ws s2 ⟨zs, H2, I2, rz, l1, l2, q2⟩ => ⟨I2.kIn, ?_⟩
  rw [hks]
  exact run_fnN (us := []) F hr hb hx I2 .nil rz l1 l2 q2
end
/-- every parameter by its name, in the parameters' order -/
theorem kb_of {K : PySem.W.Frag} {x qual : Str} {st : Stmt} {f : Addr} {fd : FuncData} {ps ks : List Str}
    (F : Fun K x qual st f fd)
    (h : ∀ (kV doc pm : Value) (an : Option Addr) (cdv ct : Value) (ws : List Value), ws.length = ks.length →
      bindArgs (PySem.W.fnOf x qual (defArgs st) (defBody st) (defScope st) .none kV doc pm an cdv ct)
        ⟨[], ks.zip ws⟩ = pure (ps.zip ws)) :
    KBn K fd ps 0 ks (fun _ ws => ws) (fun _ zs => zs) where
  to := by
    obtain ⟨oc, od, kV, doc, pm, an, cdv, ct, osl, rfl, lk, hcd⟩ := F.ex
    intro s us ws X l1 l2
    obtain rfl : us = [] := List.length_eq_zero_iff.mp l1
    exact .of_eq (h kV doc pm an cdv ct ws l2)
  rel := fun _ r => r

/-! ### the heap without one object -/
def hide (p : Addr) (H : Hp) : Hp := fun b => if b = p then none else H b
theorem hide_ne {p b : Addr} {H : Hp} (h : b ≠ p) : hide p H b = H b := if_neg h
theorem hide_at {p : Addr} {H : Hp} : hide p H p = none := if_pos rfl
theorem hide_upd {p : Addr} {H : Hp} {o : HO} : hide p (upd H p o) = hide p H := by
  funext b
  unfold hide upd
  by_cases h : b = p
  · rw [if_pos h, if_pos h]
  · rw [if_neg h, if_neg h, if_neg h]
theorem hide_out {p q : Addr} {H : Hp} {o : HO} (h : q ≠ p) : hide p (upd H q o) = upd (hide p H) q o := by
  funext b
  by_cases h1 : b = p
  · subst h1
    rw [hide_at, upd_ne (Ne.symm h), hide_at]
  · rw [hide_ne h1]
    by_cases h2 : b = q
    · subst h2
      rw [upd_same, upd_same]
    · rw [upd_ne h2, upd_ne h2, hide_ne h1]
theorem hide_same {p : Addr} {H : Hp} : Same (hide p H) H := fun b o e => by
  by_cases h : b = p
  · rw [h, hide_at] at e
    cases e
  · rwa [hide_ne h] at e
theorem Same.hide {p : Addr} {H H' : Hp} (s : Same H H') : Same (hide p H) (hide p H') := fun b o e => by
  by_cases h : b = p
  · rw [h, hide_at] at e
    cases e
  · rw [hide_ne h] at e ⊢
    exact s _ _ e
theorem same_new {H : Hp} {p : Addr} {o : HO} (h : H p = none) : Same H (upd H p o) := fun b u e => by
  rw [upd_ne (ne_of_none e h)]
  exact e

/-! ### data -/
theorem Same.seqT {K : PySem.W.Frag} {H H' : Hp} {a : Addr} {xs : List V} (e : Same H H') (h : SqT K H a xs) : SqT K H' a xs := by
  rcases h with (h | ⟨o, h⟩) | h
  · exact .inl (.inl (e _ _ h))
  · exact .inl (.inr ⟨o, e _ _ h⟩)
  · exact .inr h
mutual
theorem Dp.same {K : PySem.W.Frag} {H H' : Hp} (s : Same H H') : ∀ {v : V} {d : PyData}, Dp K H v d → Dp K H' v d
  | _, _, .non => .non
  | _, _, .bl b => .bl b
  | _, _, .int i => .int i
  | _, _, .str x => .str x
  | _, _, .lst h a => .lst (s.seq h) (DpAll.same s a)
  | _, _, .tup h a => .tup (Same.seqT s h) (DpAll.same s a)
theorem DpAll.same {K : PySem.W.Frag} {H H' : Hp} (s : Same H H') : ∀ {vs : List V} {ds : List PyData}, DpAll K H vs ds → DpAll K H' vs ds
  | _, _, .nil => .nil
  | _, _, .cons h t => .cons (Dp.same s h) (DpAll.same s t)
end
theorem DpAll.length {K : PySem.W.Frag} {H : Hp} : ∀ {vs : List V} {ds : List PyData}, DpAll K H vs ds → vs.length = ds.length
  | _, _, .nil => rfl
  | _, _, .cons _ t => congrArg Nat.succ (DpAll.length t)
theorem DpAll.get {K : PySem.W.Frag} {H : Hp} : ∀ {vs : List V} {ds : List PyData} {i : Nat} {d : PyData}, DpAll K H vs ds →
    ds[i]? = some d → ∃ v, vs[i]? = some v ∧ Dp K H v d
  | _, _, _, _, .nil, e => by simp at e
  | _, _, 0, _, .cons h _, e => by
    simp at e
    subst e
    exact ⟨_, rfl, h⟩
  | _, _, i + 1, _, .cons _ t, e => by
    obtain ⟨v, h1, h2⟩ := DpAll.get (i := i) t (by simpa using e)
    exact ⟨v, by simpa using h1, h2⟩
theorem DpAll.append {K : PySem.W.Frag} {H : Hp} : ∀ {vs ws : List V} {ds es : List PyData}, DpAll K H vs ds → DpAll K H ws es →
    DpAll K H (vs ++ ws) (ds ++ es)
  | _, _, _, _, .nil, h => h
  | _, _, _, _, .cons h t, h2 => .cons h (DpAll.append t h2)
theorem DpAll.take {K : PySem.W.Frag} {H : Hp} : ∀ {vs : List V} {ds : List PyData} (n : Nat), DpAll K H vs ds → DpAll K H (vs.take n) (ds.take n)
  | _, _, 0, _ => .nil
  | _, _, _ + 1, .nil => .nil
  | _, _, n + 1, .cons h t => .cons h (DpAll.take n t)
theorem DpAll.drop {K : PySem.W.Frag} {H : Hp} : ∀ {vs : List V} {ds : List PyData} (n : Nat), DpAll K H vs ds → DpAll K H (vs.drop n) (ds.drop n)
  | _, _, 0, h => h
  | _, _, _ + 1, .nil => .nil
  | _, _, n + 1, .cons h t => DpAll.drop n t
/-- a tuple of data -/
theorem Dp.ofTup {K : PySem.W.Frag} {H : Hp} {v : V} {ds : List PyData} (h : Dp K H v (.tuple ds)) :
    ∃ a xs, v = .ref a ∧ SqT K H a xs ∧ DpAll K H xs ds := by
  cases h with
  | tup h a => exact ⟨_, _, rfl, h, a⟩
theorem Dp.ofLst {K : PySem.W.Frag} {H : Hp} {v : V} {ds : List PyData} (h : Dp K H v (.list ds)) :
    ∃ a xs, v = .ref a ∧ SqL K H a xs ∧ DpAll K H xs ds := by
  cases h with
  | lst h a => exact ⟨_, _, rfl, h, a⟩
theorem Dp.ofInt {K : PySem.W.Frag} {H : Hp} {v : V} {i : Int} (h : Dp K H v (.int i)) : v = .int i := by cases h; rfl
theorem Dp.ofStr {K : PySem.W.Frag} {H : Hp} {v : V} {x : Str} (h : Dp K H v (.str x)) : v = .str x := by cases h; rfl
theorem Dp.ofBl {K : PySem.W.Frag} {H : Hp} {v : V} {b : Bool} (h : Dp K H v (.bool b)) : v = .bl b := by cases h; rfl
theorem Dp.ofNon {K : PySem.W.Frag} {H : Hp} {v : V} (h : Dp K H v .none) : v = .non := by cases h; rfl

/-! ### isinstance of data -/
def tyName : PyData → String
  | .none => "NoneType" | .bool _ => "bool" | .int _ => "int" | .str _ => "str"
  | .list _ => "list" | .tuple _ => "tuple" | .dict _ => "dict"
theorem dp_ty {K : PySem.W.Frag} {H : Hp} {v : V} {d : PyData} (h : Dp K H v d) : TyX K H v (.type (tyName d)) := by
  cases h with
  | non => exact .base .non
  | bl b => exact .base (.bl b)
  | int i => exact .base (.int i)
  | str x => exact .base (.str x)
  | lst h a =>
    rcases h with (h | ⟨o, h⟩) | ⟨o, its, n, h, c, _⟩
    · exact .base (.lst h)
    · exact .base (.frz h)
    · exact .kList h c
  | tup h a =>
    rcases h with (h | ⟨o, h⟩) | ⟨o, its, n, h, c, _⟩
    · exact .base (.tup h)
    · exact .fTuple h
    · exact .kTuple h c
def isInt : PyData → Bool
  | .int _ | .bool _ => true
  | _ => false
def isBool : PyData → Bool
  | .bool _ => true
  | _ => false
def isStr : PyData → Bool
  | .str _ => true
  | _ => false
def isTup : PyData → Bool
  | .tuple _ => true
  | _ => false
section
variable {K : PySem.W.Frag}
theorem kit_int : ∀ d : PyData, PySem.W.kitOne K (.type (tyName d)) (.type "int") = some (isInt d)
  | .none => kit_ty (show kitB "NoneType" "int" = some false by decide +kernel)
  | .bool _ => kit_ty (show kitB "bool" "int" = some true by decide +kernel)
  | .int _ => kit_ty (show kitB "int" "int" = some true by decide +kernel)
  | .str _ => kit_ty (show kitB "str" "int" = some false by decide +kernel)
  | .list _ => kit_ty (show kitB "list" "int" = some false by decide +kernel)
  | .tuple _ => kit_ty (show kitB "tuple" "int" = some false by decide +kernel)
  | .dict _ => kit_ty (show kitB "dict" "int" = some false by decide +kernel)
theorem kit_bool : ∀ d : PyData, PySem.W.kitOne K (.type (tyName d)) (.type "bool") = some (isBool d)
  | .none => kit_ty (show kitB "NoneType" "bool" = some false by decide +kernel)
  | .bool _ => kit_ty (show kitB "bool" "bool" = some true by decide +kernel)
  | .int _ => kit_ty (show kitB "int" "bool" = some false by decide +kernel)
  | .str _ => kit_ty (show kitB "str" "bool" = some false by decide +kernel)
  | .list _ => kit_ty (show kitB "list" "bool" = some false by decide +kernel)
  | .tuple _ => kit_ty (show kitB "tuple" "bool" = some false by decide +kernel)
  | .dict _ => kit_ty (show kitB "dict" "bool" = some false by decide +kernel)
theorem kit_str : ∀ d : PyData, PySem.W.kitOne K (.type (tyName d)) (.type "str") = some (isStr d)
  | .none => kit_ty (show kitB "NoneType" "str" = some false by decide +kernel)
  | .bool _ => kit_ty (show kitB "bool" "str" = some false by decide +kernel)
  | .int _ => kit_ty (show kitB "int" "str" = some false by decide +kernel)
  | .str _ => kit_ty (show kitB "str" "str" = some true by decide +kernel)
  | .list _ => kit_ty (show kitB "list" "str" = some false by decide +kernel)
  | .tuple _ => kit_ty (show kitB "tuple" "str" = some false by decide +kernel)
  | .dict _ => kit_ty (show kitB "dict" "str" = some false by decide +kernel)
theorem kit_tup : ∀ d : PyData, PySem.W.kitOne K (.type (tyName d)) (.type "tuple") = some (isTup d)
  | .none => kit_ty (show kitB "NoneType" "tuple" = some false by decide +kernel)
  | .bool _ => kit_ty (show kitB "bool" "tuple" = some false by decide +kernel)
  | .int _ => kit_ty (show kitB "int" "tuple" = some false by decide +kernel)
  | .str _ => kit_ty (show kitB "str" "tuple" = some false by decide +kernel)
  | .list _ => kit_ty (show kitB "list" "tuple" = some false by decide +kernel)
  | .tuple _ => kit_ty (show kitB "tuple" "tuple" = some true by decide +kernel)
  | .dict _ => kit_ty (show kitB "dict" "tuple" = some false by decide +kernel)
end

/-! ### the purse: three ints, n more draws -/
def PurseAt (H : Hp) (p : Addr) (n : Nat) : Prop :=
  ∃ a b c : Int, H p = some (.lst [.int a, .int b, .int c]) ∧ 0 ≤ b ∧ b < 2147483647 ∧ 0 ≤ c ∧ c + n ≤ 1000000000
theorem PurseAt.less {H : Hp} {p : Addr} {n m : Nat} (h : PurseAt H p n) (k : m ≤ n) : PurseAt H p m :=
  let ⟨a, b, c, e, h1, h2, h3, h4⟩ := h
  ⟨a, b, c, e, h1, h2, h3, by omega⟩
theorem PurseAt.same {H H' : Hp} {p : Addr} {n : Nat} (h : PurseAt H p n) (s : Same H H') : PurseAt H' p n :=
  let ⟨a, b, c, e, r⟩ := h
  ⟨a, b, c, s _ _ e, r⟩
theorem PurseAt.some {H : Hp} {p : Addr} {n : Nat} (h : PurseAt H p n) : ∃ xs, H p = some (.lst xs) :=
  let ⟨_, _, _, e, _⟩ := h
  ⟨_, e⟩
theorem PurseAt.ne {H : Hp} {p q : Addr} {n : Nat} (h : PurseAt H p n) (k : H q = none) : p ≠ q :=
  let ⟨_, e⟩ := h.some
  ne_of_none e k
end Vk

namespace Vk
open PySem PySem.Spec PyProof.Rows L2
/-! ### data beside the purse -/
theorem same_hid {p : Addr} {H : Hp} {o : HO} (h : H p = none) : Same H (hide p (upd H p o)) := fun b u e => by
  have ne : b ≠ p := ne_of_none e h
  rw [hide_ne ne, upd_ne ne]
  exact e
theorem dp_tup {K : PySem.W.Frag} {H : Hp} {r : Addr} {xs : List V} {ds : List PyData} (hr : H r = none) (hd : DpAll K H xs ds) :
    Dp K (upd H r (.tup xs)) (.ref r) (.tuple ds) := .tup (.of upd_same) (DpAll.same (same_new hr) hd)
theorem hide_get {p b : Addr} {H H' : Hp} (h : hide p H' = hide p H) (ne : b ≠ p) : H' b = H b := by
  rw [← hide_ne (H := H') ne, h, hide_ne ne]
theorem same_eq {p : Addr} {H H' : Hp} (h : hide p H' = hide p H) : Same (hide p H) (hide p H') := by
  rw [h]
  exact .refl _
theorem atI_in {xs : List V} {i : Int} (h0 : 0 ≤ i) (h1 : i < (xs.length : Int)) : ∃ v, atI xs i = some v ∧ v ∈ xs := by
  have hi : i.toNat < xs.length := by omega
  exact ⟨xs[i.toNat], at_of (j := i.toNat) (by omega) (by simp [hi]), List.getElem_mem hi⟩
theorem DpAll.mem {K : PySem.W.Frag} {H : Hp} : ∀ {vs : List V} {ds : List PyData} {v : V}, DpAll K H vs ds → v ∈ vs → ∃ d, d ∈ ds ∧ Dp K H v d
  | _, _, _, .nil, h => by cases h
  | _, _, v, .cons a t, h => by
    rcases List.mem_cons.mp h with rfl | h
    · exact ⟨_, List.mem_cons_self .., a⟩
    · obtain ⟨d, h1, h2⟩ := DpAll.mem t h
      exact ⟨d, List.mem_cons_of_mem _ h1, h2⟩
section
variable {K : PySem.W.Frag} {p : Addr} {n : Nat} {H : Hp} {Q : VK}
theorem hide_new {r : Addr} {o : HO} (pu : PurseAt H p n) (hr : H r = none) : hide p (upd H r o) r = some o := by
  rw [hide_ne (pu.ne hr).symm, upd_same]
theorem tup_new {r : Addr} {xs : List V} {ds : List PyData} (pu : PurseAt H p n) (hr : H r = none) (hd : DpAll K (hide p H) xs ds) :
    Dp K (hide p (upd H r (.tup xs))) (.ref r) (.tuple ds) := .tup (.of (hide_new pu hr)) (DpAll.same (Same.hide (same_new hr)) hd)
theorem lst_new {r : Addr} {xs : List V} {ds : List PyData} (pu : PurseAt H p n) (hr : H r = none) (hd : DpAll K (hide p H) xs ds) :
    Dp K (hide p (upd H r (.lst xs))) (.ref r) (.list ds) := .lst (.of (hide_new pu hr)) (DpAll.same (Same.hide (same_new hr)) hd)
theorem PurseAt.new {r : Addr} {o : HO} (pu : PurseAt H p n) (hr : H r = none) : PurseAt (upd H r o) p n := pu.same (same_new hr)
theorem hs_new {r : Addr} {o : HO} (hr : H r = none) : Same (hide p H) (hide p (upd H r o)) := Same.hide (same_new hr)
theorem catH {v u : V} {ds es : List PyData} (pu : PurseAt H p n) (hx : Dp K (hide p H) v (.tuple ds)) (hy : Dp K (hide p H) u (.tuple es)) (hl : ds.length + es.length ≤ 1000)
    (q : ∀ (r : V) (H' : Hp), Same (hide p H) (hide p H') → PurseAt H' p n → Dp K (hide p H') r (.tuple (ds ++ es)) → Q r H') : rCatA K v u H Q := by
  obtain ⟨a, xs, rfl, sx, ax⟩ := Dp.ofTup hx
  obtain ⟨b, ys, rfl, sy, ay⟩ := Dp.ofTup hy
  have lx := DpAll.length ax
  have ly := DpAll.length ay
  refine ⟨a, b, xs, ys, rfl, rfl, Same.seqT hide_same sx, Same.seqT hide_same sy, Nat.le_trans (m := 1000) (by omega) (by decide), fun e => ?_, fun _ e => ?_, fun _ _ r hr => ?_⟩
  · obtain rfl : ds = [] := List.length_eq_zero_iff.mp (by rw [← lx, e]; rfl)
    exact q _ _ (.refl _) pu hy
  · obtain rfl : es = [] := List.length_eq_zero_iff.mp (by rw [← ly, e]; rfl)
    rw [List.append_nil] at q
    exact q _ _ (.refl _) pu hx
  · exact q _ _ (hs_new hr) (pu.new hr) (tup_new pu hr (DpAll.append ax ay))
/-- an item of a list just laid, at a drawn place -/
theorem pickH {H2 : Hp} {l : Addr} {vs : List V} {ds : List PyData} {i : Int} (pu : PurseAt H p n) (hl : H l = none) (hh : hide p H2 = hide p (upd H l (.lst vs)))
    (h0 : 0 ≤ i) (h1 : i < (vs.length : Int)) (hv : DpAll K (hide p H) vs ds) (q : ∀ (v : V) (d : PyData), d ∈ ds → Dp K (hide p H2) v d → Q v H2) : rIxL K (.ref l) (.int i) H2 Q := by
  obtain ⟨v, e1, e2⟩ := atI_in h0 h1
  obtain ⟨d, d1, d2⟩ := DpAll.mem hv e2
  exact ⟨l, _, i, _, rfl, rfl, .of ((hide_get hh (pu.ne hl).symm).trans upd_same), e1, q v d d1 (Dp.same ((hs_new hl).trans (same_eq hh)) d2)⟩
/-- t[:i] -/
theorem headH {v : V} {ds : List PyData} {i : Nat} (pu : PurseAt H p n) (hx : Dp K (hide p H) v (.tuple ds)) (hi : i < ds.length)
    (q : ∀ (r : V) (H' : Hp), Same (hide p H) (hide p H') → PurseAt H' p n → Dp K (hide p H') r (.tuple (ds.take i)) → Q r H') : rSlA K v none (some (i : Int)) H Q := by
  obtain ⟨a, xs, rfl, sx, ax⟩ := Dp.ofTup hx
  have lx := DpAll.length ax
  have e : HT.sIx xs.length xs.length (some ((i : Nat) : Int)) = i := by rw [HT.sIx_nat]; omega
  refine ⟨a, xs, rfl, Same.seqT hide_same sx, fun h => ?_, fun _ r hr => ?_⟩
  · have h2 := h.2
    rw [e] at h2
    omega
  · refine q _ _ (hs_new hr) (pu.new hr) ?_
    have c : cutV xs none (some ((i : Nat) : Int)) = xs.take i := by
      unfold cutV
      rw [e, HT.sIx_none]
      rfl
    rw [c]
    exact tup_new pu hr (DpAll.take i ax)
/-- t[i:], 0 < i -/
theorem tailH {v : V} {ds : List PyData} {i : Nat} {z : Int} (hz : z = (i : Int)) (pu : PurseAt H p n) (hx : Dp K (hide p H) v (.tuple ds)) (h0 : 0 < i) (hi : i ≤ ds.length)
    (q : ∀ (r : V) (H' : Hp), Same (hide p H) (hide p H') → PurseAt H' p n → Dp K (hide p H') r (.tuple (ds.drop i)) → Q r H') : rSlA K v (some z) none H Q := by
  subst hz
  obtain ⟨a, xs, rfl, sx, ax⟩ := Dp.ofTup hx
  have lx := DpAll.length ax
  have e : HT.sIx xs.length 0 (some ((i : Nat) : Int)) = i := by rw [HT.sIx_nat]; omega
  refine ⟨a, xs, rfl, Same.seqT hide_same sx, fun h => ?_, fun _ r hr => ?_⟩
  · have h2 := h.1
    rw [e] at h2
    omega
  · refine q _ _ (hs_new hr) (pu.new hr) ?_
    have c : cutV xs (some ((i : Nat) : Int)) none = xs.drop i := by
      unfold cutV
      rw [e, HT.sIx_none]
      exact List.take_of_length_le (by rw [List.length_drop]; omega)
    rw [c]
    exact tup_new pu hr (DpAll.drop i ax)
/-- t[i] of a tuple of data -/
theorem itemH {v : V} {ds : List PyData} {d : PyData} {z : Int} {i : Nat} (hx : Dp K (hide p H) v (.tuple ds)) (hz : z = (i : Int)) (hd : ds[i]? = some d)
    (q : ∀ u : V, Dp K (hide p H) u d → Q u H) : rIxT K v (.int z) H Q := by
  obtain ⟨a, xs, rfl, sx, ax⟩ := Dp.ofTup hx
  obtain ⟨u, h1, h2⟩ := DpAll.get ax hd
  exact ⟨a, xs, z, u, rfl, rfl, Same.seqT hide_same sx, at_of hz h1, q u h2⟩
end
end Vk

/-! a caught exception that outlives its suite: kept as an object that is tracked. ps_try_asK, pe_xfK and call_isK go the way of ps_try_as, pe_xf and call_isE of the hand layer (HandS.Exc, ExcField, ExcIs); what is new is the tracking (CE, Inv.track) and that they ask it of the heap, not of a pin -/
namespace Vk
open PySem PySem.Spec PyProof.Rows L2

/-- at a: an exception of the class cls with the dict d -/
def CE (cls : Value) (d : Option Addr) (a : Addr) : HO := .ext fun h => ∃ (oe : Obj) (vs : Array Value), h.get? a = some oe ∧ Zc cls d oe ∧ oe.data = .fields vs
theorem cE_ok {P : Program} {w : World} {H : Hp} {h : Heap} {a : Addr} {cls : Value} {d : Option Addr} {oe : Obj} {vs : Array Value} (e : h.get? a = some oe) (z : Zc cls d oe) (q : oe.data = .fields vs) : ObjOk P w H h a (CE cls d a) :=
  ⟨⟨oe, vs, e, z, q⟩, ⟨oe, e⟩, fun _ _ ⟨o, v, q, r⟩ k => ⟨o, v, k o q, r⟩⟩
theorem cE_at {P : Program} {w : World} {H : Hp} {h : Heap} {a : Addr} {cls : Value} {d : Option Addr} (hok : HOk P w H h) (he : H a = some (CE cls d a)) : ∃ (oe : Obj) (vs : Array Value), h.get? a = some oe ∧ Zc cls d oe ∧ oe.data = .fields vs := by
  have x : ObjOk P w H h a (.ext fun h => ∃ (oe : Obj) (vs : Array Value), h.get? a = some oe ∧ Zc cls d oe ∧ oe.data = .fields vs) := hok a _ he
  exact x.1

section
variable {X : Cx} {pins : List (Addr × Obj)} {σ : L2.St} {H : Hp} {s : Shared}
/-- what stands untracked, and is new since the entry, may be tracked -/
theorem Inv.track {a : Addr} {o : HO} (I : Inv X pins σ H s) (hn : H a = none) (new : ObjOk X.prog X.w (upd H a o) s.heap a o) (n0 : X.s_0.heap.get? a = none)
    (nL : a ≠ X.env.locals) (nC : ∀ x c, X.env.cells.lookup x = some c → c ≠ a) (np : ∀ p ∈ X.pn ++ pins, p.1 ≠ a) (nt : ∀ b xs, X.H_0 b = some (.tup xs) → b ≠ a) :
    Inv X pins σ (upd H a o) s := by
  have ne0 : ∀ b u, X.s_0.heap.get? b = some u → b ≠ a := fun b u e z => by
    rw [z, n0] at e
    cases e
  refine ⟨I.ok, I.os, I.bare, ⟨I.base.keep, I.base.slot, fun b u e n hx => ?_, I.base.there, fun b xs e => ?_, fun b u v e => ?_, fun b ps e => ?_⟩, I.loc, I.cell, ?_, fun x c e => ?_, fun p hp => ?_, fun b u e => ?_, I.len⟩
  · rw [upd_ne (ne0 b u e)]
    exact I.base.free b u e n hx
  · have q := I.base.tups b xs e
    rw [upd_ne (ne_of_none q hn)]
    exact q
  · have q := I.base.frzs b u v e
    rw [upd_ne (ne_of_none q hn)]
    exact q
  · obtain ⟨m, q⟩ := I.base.tbls b ps e
    exact ⟨m, by rw [upd_ne (ne_of_none q hn)]; exact q⟩
  · rw [upd_ne (Ne.symm nL)]
    exact I.free
  · rw [upd_ne (nC x c e)]
    exact I.freeC x c e
  · obtain ⟨e, n, ne, nf, d⟩ := I.pin p hp
    exact ⟨e, by rw [upd_ne (np p hp)]; exact n, ne, nf, d⟩
  · by_cases hb : b = a
    · subst hb
      rw [upd_same] at e
      cases e
      exact new
    · rw [upd_ne hb] at e
      exact (I.hok b u e).stay (fun c v _ q => q) (fun c q => by rw [upd_ne (ne_of_none q hn)]; exact q) fun c xs q => by rw [upd_ne (ne_of_none q hn)]; exact q
end

/-- what the clause 'except x as n' wishes of an exception of the body, where the exception is kept behind the suite -/
def wAsK (K : PySem.W.Frag) (c : Value) (i : Nat) (ts : Addr → Value → Option Addr → TS) (Wout : WX) (D : Ends) : WX := fun cls d σ H =>
  ∃ b, PySem.W.exmOne K cls c = some b ∧ (b = true → ∀ a, H a = none → ts a cls d { nx := fun σ' H' => D.nx (σ'.set i none) (upd H' a (CE cls d a)), rt := fun v H' => D.rt v (upd H' a (CE cls d a)), bk := fun σ' H' => D.bk (σ'.set i none) (upd H' a (CE cls d a)), ct := fun σ' H' => D.ct (σ'.set i none) (upd H' a (CE cls d a)) } (σ.set i (some (.ref a))) H) ∧
    (b = false → Wout cls d σ H)

section
variable {X : Cx} {x n : Str} {c : Value} {i : Nat} {body suite : List Stmt} {b₀ : Stmt} {np pos pos' : Pos} {tb : WX → TS} {ts : Addr → Value → Option Addr → TS} {Wout : WX}
theorem ps_try_asK (hs : X.stack = X.env :: X.outer) (hf : X.env.frame = some X.env.locals) (hN : X.N.Nodup) (hi : X.N[i]? = some n) (hln : X.env.kindOf n = some .local) (hc : Names X x c) (tk : Takes X Wout) (hex : X.ex = [])
    (hb : ∀ (W : WX) (pn : List (Addr × Obj)) (xe : Value → Shared → Prop), Takes (X.tr pn xe) W → PassesOwn (model X.prog X.w) X.A X.env xe → PSs (X.tr pn xe) body (tb W))
    (hsu : ∀ (a : Addr) (oe : Obj) (cls : Value) (d : Option Addr) (pn : List (Addr × Obj)), Zc cls d oe → (∃ vs, oe.data = .fields vs) → PSs (X.suite a ((a, oe) :: pn)) (b₀ :: suite) (ts a cls d)) :
    PS X (.Try body [.ExceptHandler (some (.Name x np)) (some n) (b₀ :: suite) pos'] [] [] pos) (fun D σ H => tb (wAsK X.K c i ts Wout D) D σ H) := by
  refine ⟨fun pins s σ H D I h => ?_⟩
  have ok := I.ok
  have hfr : X.A.frames = some (X.env :: X.outer) := by rw [ok.frames, hs]
  have hloc : Loc X.env.scope n := .inl hln
  refine wpAny_Try_except ?_
  refine wpAny_mono ((hb (wAsK X.K c i ts Wout D) (X.pn ++ pins) (fun e s₁ => wpAny (model X.prog X.w) X.A (noteFrame e X.env) (fun _ s₂ => wpAny (model X.prog X.w) X.A (setFlight e none) (fun _ s₃ =>
    wpAny (model X.prog X.w) X.A (handleBy e X.env [.ExceptHandler (some (.Name x np)) (some n) (b₀ :: suite) pos']) (SP X pins D) X.xe s₃) X.xe s₂) X.xe s₁) (fun u s' xx => ?_) PassesOwn.looking).run [] s σ H D (I.toTry _) h) (fun f s1 hsp => ?_) (fun e s1 he => he)
  · -- the catch
    obtain ⟨a, B, sI, pins', σ', H', cls, d, rfl, J', nb, up, sky, na, os, ag, b, hb1, hyes, hno⟩ := xx
    have J : Inv X pins σ' H' sI := J'.ofTry ok
    have sky' : Sky B (X.env :: X.outer) a (Zc cls d) X.env.locals s'.heap := by rw [← hs]; exact sky
    show wpAny (model X.prog X.w) X.A (noteFrame (.ref a) X.env) _ _ _
    refine Sky.land Zc.steady hfr hf sky' fun h3 fl3 up3 => ?_
    have J3 : Inv X pins σ' H' { s' with heap := h3 } := J.landed nb fl3.1 (up.trans up3) os ag
    obtain ⟨oe3, vs3, he3, hz3, hd3⟩ := fl3.there
    have notFr : ∀ {h : Heap} {o : Obj} {vs : Array Value}, h.FunFrames B (X.env :: X.outer) → h.get? a = some o → o.data = .fields vs → a ∉ frs (X.env :: X.outer) := fun {h o vs} ff e dd hm => by
      obtain ⟨_, o', e', hnf⟩ := ff.mem hm
      rw [e] at e'; cases e'
      exact hnf _ dd
    have nfr := notFr fl3.2.2.1 he3 hd3
    have nL : a ≠ X.env.locals := fun z => nfr (List.mem_filterMap.mpr ⟨X.env, List.mem_cons_self, by rw [hf, z]⟩)
    have nF : a ∉ X.fs := fun hm => by
      obtain ⟨e, he, q⟩ := List.mem_filterMap.mp hm
      exact nfr (List.mem_filterMap.mpr ⟨e, List.mem_cons_of_mem _ he, q⟩)
    have hsI : sI.heap.get? a = none := by
      cases e : sI.heap.get? a with
      | none => rfl
      | some o =>
        have z := nb a o e (by rw [hs]; exact nfr)
        rw [fl3.2.1] at z
        cases z
    have n0 : X.s_0.heap.get? a = none := by
      cases e : X.s_0.heap.get? a with
      | none => rfl
      | some o =>
        obtain ⟨o', z⟩ := J.base.there a o e (by rw [hex]; exact fun z => nomatch z)
        rw [hsI] at z
        cases z
    have nC : ∀ y k, X.env.cells.lookup y = some k → k ≠ a := fun y k e z => by
      obtain ⟨v, o, ho, _⟩ := J.cell y k e
      rw [z, hsI] at ho
      cases ho
    have np' : ∀ p ∈ X.pn ++ pins, p.1 ≠ a := fun p hp z => by
      obtain ⟨e, _⟩ := J.pin p hp
      rw [z, hsI] at e
      cases e
    have nt : ∀ k xs, X.H_0 k = some (.tup xs) → k ≠ a := fun k xs e z => by
      have q := J.base.tups k xs e
      rw [z, na] at q
      cases q
    have S3 := J3.suite he3 hd3 na nL nF
    refine wpAny_handleBy_cons (codeAny_handlers_test ?_) (by intro q; cases q)
    have LT : PySem.W.Looks (model X.prog X.w) h3 (typeOf (.ref a)) cls := fun A Q E s k q => wpAny_typeOf_ref (k _ _ he3) (by rw [hz3.1]; exact q)
    have LM := PySem.W.exm_one (M := model X.prog X.w) (J3.kIn) LT hb1
    have test : ∀ {Q : Value → Shared → Prop} {E : Value → Shared → Prop}, Q c { s' with heap := h3 } → wpAny (model X.prog X.w) (X.A.mark (some (.ref a))) (eval (.Name x np) X.env) Q E { s' with heap := h3 } := fun {Q E} q => by
      obtain ⟨hg, hdbg, hm | ⟨hm, hv, hnn⟩⟩ := hc
      · exact ld_glob (X := X.suite a ((a, oe3) :: (X.pn ++ pins))) S3 hg hm q hdbg
      · exact ld_blt (X := X.suite a ((a, oe3) :: (X.pn ++ pins))) S3 hg hm hv q hnn hdbg
    refine test (LM.here ?_)
    cases b with
    | true =>
      refine codeAny_handlers_suite_as ?_
      refine HandSPX.lands_againZ fl3 fun h4 fl4 up4 => ?_
      have J4 : Inv X pins σ' H' { s' with heap := h4 } := J.landed nb fl4.1 ((up.trans up3).trans up4) os ag
      obtain ⟨oe4, vs4, he4, hz4, hd4⟩ := fl4.there
      have S4 := J4.suite he4 hd4 na nL nF
      refine store_ok (X := X.suite a ((a, oe4) :: (X.pn ++ pins))) (v := .ref a) S4 hN hi hloc rfl (fun s5 S5 => ?_) (.inr hln)
      refine wpAny_mono ((hsu a oe4 cls d (X.pn ++ pins) hz4 ⟨_, hd4⟩).run [] s5 _ H' _ S5 (hyes rfl a na)) (fun f s6 hsp => ?_) (fun _ _ z => False.elim z)
      have tr : ∀ {σ6 : L2.St} {H6 : Hp} {s6 : Shared}, Inv (X.suite a ((a, oe4) :: (X.pn ++ pins))) [] σ6 H6 s6 → Inv X pins σ6 (upd H6 a (CE cls d a)) s6 := fun {σ6 H6 s6} S6 => by
        obtain ⟨e6, n6, _⟩ := S6.pin (a, oe4) (List.mem_append_left _ List.mem_cons_self)
        exact Inv.track (S6.unsuite ok) n6 (cE_ok e6 hz4 hd4) n0 nL nC np' nt
      have end_ : ∀ {σ6 : L2.St} {H6 : Hp} {Q : Shared → Prop}, Inv (X.suite a ((a, oe4) :: (X.pn ++ pins))) [] σ6 H6 s6 → (∀ s7, Inv X pins (σ6.set i none) (upd H6 a (CE cls d a)) s7 → Q s7) →
          wpAny (model X.prog X.w) X.A (do bindName X.env n .none; unbindBehindTheSuite X.env n pos') (fun _ s7 => Q s7) X.xe s6 := fun {σ6 H6 Q} S6 hq => gone_ok (tr S6) hN hi hln hq
      cases f with
      | next =>
        obtain ⟨σ6, H6, S6, q6⟩ := hsp
        exact end_ S6 fun s7 J7 => ⟨_, _, J7, q6⟩
      | brk =>
        obtain ⟨σ6, H6, S6, q6⟩ := hsp
        exact end_ S6 fun s7 J7 => ⟨_, _, J7, q6⟩
      | cont =>
        obtain ⟨σ6, H6, S6, q6⟩ := hsp
        exact end_ S6 fun s7 J7 => ⟨_, _, J7, q6⟩
      | ret u =>
        obtain ⟨v6, σ6, H6, S6, r6, q6⟩ := hsp
        exact end_ S6 fun s7 J7 => ⟨_, _, _, J7, r6, q6⟩
    | false =>
      show wpAny _ X.A (handleBy (.ref a) X.env []) _ _ _
      refine wpAny_handleBy_nil ?_
      obtain ⟨k1, k2, k3, oe, vs, T, oT, ts', he, hz, hd, h1, hr⟩ := id fl3
      unfold PySem.passOn
      refine wpAny_bind (wpAny_field he hd h1 ?_)
      rw [if_neg (show ¬ ((Value.ref T == Value.none) = true) from by simp)]
      have fin : wpAny (model X.prog X.w) X.A (setFlight (.ref a) X.env.frame) (fun _ s4 => wpAny (model X.prog X.w) X.A (throw (.ref a) : Sem Flow) (SP X pins D) X.xe s4) X.xe { s' with heap := h3 } := by
        rw [hf]
        refine HandSPX.setFlight_upZ fl3 fun h4 hh4 up4 => wpAny_throw (tk _ _ ?_)
        exact ⟨a, B, sI, pins, σ', H', cls, d, rfl, J, nb, (up.trans up3).trans up4, .inr (.inr (by rw [hs]; exact hh4)), na, os, ag, hno rfl⟩
      first
        | exact wpAny_bind (wpAny_pure (wpAny_bind fin))
        | exact wpAny_bind fin
  · cases f with
    | next =>
      obtain ⟨σ', H', J', q⟩ := hsp
      exact wpAny_execs_nil ⟨σ', H', J'.ofTry ok, q⟩
    | brk =>
      obtain ⟨σ', H', J', q⟩ := hsp
      exact ⟨σ', H', J'.ofTry ok, q⟩
    | cont =>
      obtain ⟨σ', H', J', q⟩ := hsp
      exact ⟨σ', H', J'.ofTry ok, q⟩
    | ret u =>
      obtain ⟨v, σ', H', J', r, q⟩ := hsp
      exact ⟨v, σ', H', J'.ofTry ok, r, q⟩
end

/-! ### what is asked of a kept exception -/
/-- e.f -/
def tXfK (C : Addr) (f : Str) (te : TE) : TE := fun σ H Q => te σ H fun x H1 => ∃ (a dd : Addr) (fs : List (Str × V)) (v : V), x = .ref a ∧ H1 a = some (CE (.ref C) (some dd) a) ∧ H1 dd = some (.xd fs) ∧ fs.lookup f = some v ∧ Q v H1
theorem pe_xfK {X : Cx} {C : Addr} {e : Expr} {te : TE} {pos : Pos} {n : Str} (T : XfC X.K C) (hno : PySem.W.findIn X.K (.ref C) n = some none) (he : PE X e te) (hb : attributeBase e n X.env (eval e X.env) = eval e X.env := by rfl) :
    PE X (.Attribute e n pos) (tXfK C n te) := by
  refine ⟨fun pins s σ H Q I h => ?_⟩
  refine attr_of hb (thn (he.run pins s σ H _ I h) fun u s1 hh => ?_)
  obtain ⟨x, H1, I1, rx, a, dd, fs, v, ex, ce, ea, l, q⟩ := hh
  subst ex
  obtain rfl : u = Value.ref a := rx
  obtain ⟨oe, vs, ha, hz, hd⟩ := cE_at I1.hok ce
  have hx : ObjOk X.prog X.w H1 s1.heap dd (.xd fs) := I1.hok dd _ ea
  obtain ⟨mA, hns, hr⟩ := hx
  obtain ⟨od, ho, hl⟩ := lookIn_ns hns
  obtain ⟨u, hu, ru⟩ := RelO.some_of (v := v) (o := mA n) (by rw [← l]; exact hr n)
  have J : PySem.W.InstAt s1.heap a oe C (some od) := ⟨ha, hz.1, by unfold PySem.W.notCls; rw [hd] <;> rfl, by rw [hz.2]; exact ho⟩
  exact HandSPX.exc_get I1.kIn J T.ga T.gg T.exC (PySem.W.findObj_own T.hdC hno rfl (by rw [hl, hu])) (handed_of ru) ⟨v, H1, I1.tok _, ru, q⟩
/-- isinstance(e, c) -/
def rIsK (K : PySem.W.Frag) : List V → Hp → VK → Prop := fun xs H Q => ∃ (a D dd : Addr) (fs : List (Str × V)) (c : V) (cv : Value) (b : Bool), xs = [.ref a, c] ∧ H a = some (CE (.ref D) (some dd) a) ∧ H dd = some (.xd fs) ∧ ExcC K D ∧ (∀ u, RelV c u → u = cv) ∧ PySem.W.kitOne K (.ref D) cv = some b ∧ Q (.bl b) H
theorem call_isK {X : Cx} : CallR X (.builtin "isinstance") (rIsK X.K) := by
  intro pins s σ H xs us Q I r h
  obtain ⟨a, D, dd, fs, c, cv, b, rfl, ce, ea, C, hcv, e, q⟩ := h
  cases r with
  | cons rx rr =>
    cases rr with
    | cons rt rr =>
      cases rr
      cases rx
      have ec := hcv _ rt
      subst ec
      obtain ⟨oe, vs, hget, hz, hv⟩ := cE_at I.hok ce
      have hx : ObjOk X.prog X.w H s.heap dd (.xd fs) := I.hok dd _ ea
      obtain ⟨mA, hns, hr⟩ := hx
      obtain ⟨od, ho, hl⟩ := lookIn_ns hns
      have J : PySem.W.InstAt s.heap a oe D (some od) := ⟨hget, hz.1, by unfold PySem.W.notCls; rw [hv] <;> rfl, by rw [hz.2]; exact ho⟩
      have hcl : (PySem.W.clsIn X.K D).isSome = true := by
        obtain ⟨cd, hc, _⟩ := PySem.W.any_some C.hd
        rw [hc]
        rfl
      exact PySem.W.kia_one (PySem.W.kitx_exc hcl C.hg C.hk C.hs C.ha C.hn C.ht C.hm) I.kIn J e (fun z => nomatch z) fun tk => ⟨.bl b, H, I.kept (t' := tk) fun _ _ z => z, rfl, q⟩
end Vk

/-! calls by keyword whose error is wished for at the caller's slots -/
namespace Vk
open PySem PySem.Spec PyProof.Rows L2
def tCallNS (n m : Nat) (sp : Sp) (gV : List V → List V → List V) (E : L2.St → XK) (t tk : TA) : TE := fun σ H Q => t σ H fun vs H1 => tk σ H1 fun zs H2 => vs.length = n ∧ zs.length = m ∧ sp (gV vs zs) H2 Q (E σ)
section
variable {X : Cx} {CX : CXT} {k n : Nat} {f : Addr} {fd : FuncData} {ps ks : List Str} {sp : Sp} {E : L2.St → XK} {x : Str} {p pos : Pos} {e : Expr} {es : List Expr} {kws : List Keyword} {t tk : TA} {g : List Value → List Value → List Value} {gV : List V → List V → List V}
theorem run_fnNS {pins : List (Addr × Obj)} {σ : L2.St} {H : Hp} {s : Shared} {Q : VK} {us ws : List Value} {vs zs : List V} (F : FnOk X.prog X.w X.K X.mg X.base CX k f fd ps sp) (hr : Room k X.A) (hb : KBn X.K fd ps n ks g gV) (hx : PassesAt CX X σ (E σ))
    (I : Inv X pins σ H s) (r : Vals vs us) (rz : Vals zs ws) (l1 : vs.length = n) (l2 : zs.length = ks.length) (h : sp (gV vs zs) H Q (E σ)) : wpAny (model X.prog X.w) X.A (call (.ref f) us (ks.zip ws)) (EP X pins σ Q) X.xe s := by
  have r2 := hb.rel r rz
  refine wpAny_call (codeAny_mono (F.run X.A X.stack s H ⟨us, ks.zip ws⟩ (g us ws) (gV vs zs) Q (E σ) hr I.env0 (hb.to s us ws I.kIn (r.length.symm.trans l1) (rz.length.symm.trans l2)) r2 h) fun r s' hq => ?_)
  cases r with
  | error e => exact hx pins H s e s' I hq
  | ok fl =>
    cases fl with
    | ret u => exact I.after hq
    | next => exact False.elim hq
    | brk => exact False.elim hq
    | cont => exact False.elim hq
/-- f(e, .., k = v, ..) -/
theorem pe_callNS (F : FnOk X.prog X.w X.K X.mg X.base CX k f fd ps sp) (hr : Room k X.A) (hg : Gl X x) (hm : X.mg x = some (.ref f)) (hk : PySem.W.keepIn X.K (.ref f) = true) (hb : KBn X.K fd ps n ks g gV) (hx : ∀ σ, PassesAt CX X σ (E σ))
    (ha : PA X (e :: es) t) (hkw : PK X kws tk) (hall : (backToKw pos (keywordEach kws X.env)).all (·.1.isSome) = true := by rfl) (hks : (backToKw pos (keywordEach kws X.env)).filterMap (·.1) = ks := by rfl)
    (hdb : (x == ("__debug__" : Str)) = false := by decide) (he : starEach (e :: es) X.env = (false, eval e X.env) :: starEach es X.env := by rfl)
    (hpl : ((backTo pos (starEach (e :: es) X.env)).any (·.1) || (backToKw pos (keywordEach kws X.env)).any (·.1.isNone)) = false := by rfl) :
    PE X (.Call (.Name x p) (e :: es) kws pos) (tCallNS n ks.length sp gV E t tk) := by
  refine ⟨fun pins s σ H Q I h => ?_⟩
  refine wpAny_Call_Name_kw (ld_glob I hg hm ?_ hdb)
  refine PySem.W.callWith_KW (h₀ := X.base) I.ok.mod.kin hk hall (thn (ha.run pos pins s σ H _ I h) fun us s1 ⟨vs, H1, I1, r, q⟩ => ?_) hpl he
  refine thn (hkw.run pos pins s1 σ H1 _ I1 q) fun ws s2 ⟨zs, H2, I2, rz, l1, l2, q2⟩ => ⟨I2.kIn, ?_⟩
  rw [hks]
  exact run_fnNS F hr hb (hx σ) I2 r rz l1 l2 q2
/-- f(k = v, ..) -/
theorem pe_callKS0 (F : FnOk X.prog X.w X.K X.mg X.base CX k f fd ps sp) (hr : Room k X.A) (hg : Gl X x)
    (hm : X.mg x = some (.ref f)) (hk : PySem.W.keepIn X.K (.ref f) = true) (hb : KBn X.K fd ps 0 ks g gV)
    (hx : ∀ σ, PassesAt CX X σ (E σ)) (hkw : PK X kws tk)
    (hall : (backToKw pos (keywordEach kws X.env)).all (·.1.isSome) = true := by rfl)
    (hks : (backToKw pos (keywordEach kws X.env)).filterMap (·.1) = ks := by rfl)
    (hdb : (x == ("__debug__" : Str)) = false := by decide)
    (hpl : ((backTo pos (starEach [] X.env)).any (·.1) ||
      (backToKw pos (keywordEach kws X.env)).any (·.1.isNone)) = false := by rfl) :
    PE X (.Call (.Name x p) [] kws pos) (tCallNS 0 ks.length sp gV E tNil tk) := by
  refine ⟨fun pins s σ H Q I h => wpAny_Call_Name_kw (ld_glob I hg hm ?_ hdb)⟩
  refine PySem.W.callWith_KW0 (h₀ := X.base) I.ok.mod.kin hk hall ?_ hpl
  refine thn (hkw.run pos pins s σ H _ I h) fun ws s2 ⟨zs, H2, I2, rz, l1, l2, q2⟩ => ⟨I2.kIn, ?_⟩
  rw [hks]
  exact run_fnNS (us := []) F hr hb (hx σ) I2 .nil rz l1 l2 q2
end
end Vk

/-! error classes with one field, kept by an own __init__ with a default -/
namespace Vk
open PySem PySem.Spec PyProof.Rows L2
/-- __init__ of an error: its field is kept -/
def spOI (C : Addr) (f : Str) : Sp := fun vs H Q _ => ∃ (a : Addr) (y : V), vs = [.ref a, y] ∧ H a = some (exo a C none) ∧ ∀ dx, H dx = none → dx ≠ a → Q .non (upd (upd H dx (exd dx [(f, y)])) a (exo a C (some dx)))
/-- the end of X(e) -/
theorem mkO_fin {C : Addr} {f : Str} {v : V} {H : Hp} {Q : XK} (h : ∀ d, H d = none → Q (.ref C) (some d) (upd H d (.xd [(f, v)]))) :
    ([v] : List V).length ≤ 1000 ∧ ∀ a, H a = none → spOI C f (.ref a :: ([v] ++ [])) (upd H a (exo a C none))
      (fun u H2 => u = .non ∧ ∃ (d : Addr) (fs : List (Str × V)), H2 a = some (exo a C (some d)) ∧ H2 d = some (exd d fs) ∧ H d = none ∧ Q (.ref C) (some d) (upd (L2.del H2 a) d (.xd fs))) (fun _ _ _ => False) := by
  refine ⟨(by show 1 ≤ 1000; decide), fun a ha => ⟨a, v, rfl, upd_same, fun dx hd ne => ⟨rfl, dx, [(f, v)], upd_same, ?_, ?_, ?_⟩⟩⟩
  · rw [upd_ne ne, upd_same]
  · rw [upd_ne ne] at hd
    exact hd
  · have hd' : H dx = none := by
      rw [upd_ne ne] at hd
      exact hd
    have e : upd (L2.del (upd (upd (upd H a (exo a C none)) dx (exd dx [(f, v)])) a (exo a C (some dx))) a) dx (.xd [(f, v)]) = upd H dx (.xd [(f, v)]) := by
      funext b
      by_cases hb : b = dx
      · rw [hb, upd_same, upd_same]
      · rw [upd_ne hb, upd_ne hb]
        by_cases hba : b = a
        · rw [hba, L2.del_same, ha]
        · rw [L2.del_ne hba, upd_ne hba, upd_ne hb, upd_ne hba]
    rw [e]
    exact h dx hd'
/-- what the text says of an error class x with the field f; st its __init__ -/
structure Err (K : PySem.W.Frag) (mg : Str → Option Value) (x q f : Str) (st : Stmt) where
  C : Addr
  I : Addr
  D : FuncData
  m : mg x = some (.ref C)
  ox : OexC K C
  no : PySem.W.findIn K (.ref C) f = some none
  iC : PySem.W.findIn K (.ref C) "__init__" = some (some (.ref I))
  tI : PySem.W.typeIn K (.ref I) = some (.type "function")
  F : FunD K "__init__" q (defArgs st) (defBody st) (defScope st) [.non] [] I D
  b : Binds K D ["self", f] []
  xf : XfC K C
  ec : ExcC K C
/-- the reading of __init__'s body -/
theorem oi_pure {K : PySem.W.Frag} {C : Addr} {f : Str} {N : List Str} {vs : List V} {H : Hp} {Q : VK} {E : XK} (ox : OexC K C) (no : PySem.W.findIn K (.ref C) f = some none) (h : spOI C f vs H Q E) (hN : N.length = 2) :
    tOst K f (tVar 0) (tVar 1) { nx := fun _ H' => Q .non H', rt := Q } (start N vs) H := by
  obtain ⟨a, y, rfl, ha, k⟩ := h
  match N, hN with
  | [n0, n1], _ => exact ⟨_, rfl, _, rfl, a, C, rfl, ox, no, .inl ⟨ha, k⟩⟩
/-- f(k = v, ..), all parameters of a def with defaults -/
theorem kb1_of {K : PySem.W.Frag} {x qual : Str} {params : Arguments} {body : List Stmt} {scope : Scope} {dvs : List V} {f : Addr} {fd : FuncData} {ps ks : List Str} (F : FunD K x qual params body scope dvs [] f fd) (n : Nat) (g : {α : Type} → List α → List α → List α → List α) (hd : dvs ≠ [])
    (hrel : ∀ {vs ds zs : List V} {us its ws : List Value}, Vals vs us → Vals ds its → Vals zs ws → Vals (g vs ds zs) (g us its ws))
    (h : ∀ (T : Addr) (kV doc pm : Value) (an : Option Addr) (cdv ct : Value) (us its ws : List Value), us.length = n → its.length = dvs.length → ws.length = ks.length →
      ∃ k, bindArgs (PySem.W.fnOf x qual params body scope (.ref T) kV doc pm an cdv ct) ⟨us, ks.zip ws⟩ = seqItems? (.ref T) >>= k ∧ k (some its.toArray) = pure (ps.zip (g us its ws))) :
    ∃ its : List Value, KBn K fd ps n ks (fun us ws => g us its ws) (fun vs zs => g vs dvs zs) := by
  obtain ⟨oc, od, dV, kV, doc, pm, an, cdv, ct, osl, rfl, lk, hcd, hD, hK⟩ := F.ex
  rcases hD with ⟨e, _⟩ | ⟨_, T, o, its, m, rfl, lT, oT, rT⟩
  · exact absurd e hd
  · refine ⟨its, ⟨fun s us ws X l1 l2 => ?_, fun r1 r2 => hrel r1 rT r2⟩⟩
    obtain ⟨k, e1, e2⟩ := h T kV doc pm an cdv ct us its ws l1 rT.length.symm l2
    refine BindsTo.of_looks fun M => ?_
    rw [e1]
    exact looks_items X lT oT (.of_pure e2)
/-- all positional arguments of a def with defaults -/
theorem b1_of {K : PySem.W.Frag} {x qual : Str} {params : Arguments} {body : List Stmt} {scope : Scope} {dvs : List V} {f : Addr} {fd : FuncData} {ps : List Str} (F : FunD K x qual params body scope dvs [] f fd) (n : Nat) (hd : dvs ≠ []) (hn : n = ps.length)
    (h : ∀ (T : Addr) (kV doc pm : Value) (an : Option Addr) (cdv ct : Value) (us its : List Value), us.length = n → its.length = dvs.length →
      ∃ k, bindArgs (PySem.W.fnOf x qual params body scope (.ref T) kV doc pm an cdv ct) ⟨us, []⟩ = seqItems? (.ref T) >>= k ∧ k (some its.toArray) = pure (ps.zip us)) : Binds K fd ps [] := by
  obtain ⟨ds, r, B⟩ := F.binds1 (ps := ps) n dvs.length hd (by omega) fun T kV doc pm an cdv ct us its l1 l2 => by
    obtain ⟨k, e1, e2⟩ := h T kV doc pm an cdv ct us its l1 l2
    refine ⟨k, e1, ?_⟩
    rw [← l2, List.drop_length, List.append_nil]
    exact e2
  rw [List.drop_length] at r
  cases r
  exact B
theorem oexC_mk {K : PySem.W.Frag} {C : Addr} {nm q : Str} {N : Addr} {bs bm : List Value} {sn : List Str} {sub : List Value} {ab : Bool} {col : Option Bool} {dd : Option Addr} {m0 m1 m2 m3 m5 : Option Value}
    (xL : K.lookup C = some (excClassObj nm q C N bs bm true sn sub ab col dd m0 m1 m2 m3 m5 "ValueError.__new__")) (hbm : PySem.HandSPX.refsVE bm = true)
    (sa : PySem.W.findIn K (.ref C) "__setattr__" = some (some (.builtin "object.__setattr__")))
    (eC : PySem.W.subIn K (.ref C) (.type "BaseException") = some true) (tC : PySem.W.typeIn K (.ref C) = some (.type "type")) (kC : PySem.W.keepIn K (.ref C) = true) : OexC K C :=
  ⟨⟨nm, q, N, bs, bm, sn, sub, ab, col, dd, m0, m1, m2, m3, m5, xL, hbm⟩, sa, eC, tC, kC⟩
theorem funD_mk {K : PySem.W.Frag} {x qual : Str} {st : Stmt} {f T : Addr} {o : Obj} {n : Nat} {dvs : List V} {its : List Value} {oc : Value} {od an : Option Addr} {osl : Array (Option Value)} {kV doc pm cdv ct : Value}
    (l : K.lookup f = some ⟨oc, od, .func (PySem.W.fnOf x qual (defArgs st) (defBody st) (defScope st) (.ref T) kV doc pm an cdv ct), osl⟩)
    (c : PySem.W.codeIn K cdv qual = true) (k : PySem.W.keepIn K (.ref f) = true) (lT : K.lookup T = some o) (oT : o.data = .seq its.toArray n) (hne : dvs ≠ []) (r : Vals dvs its) :
    FunD K x qual (defArgs st) (defBody st) (defScope st) dvs [] f (PySem.W.fnOf x qual (defArgs st) (defBody st) (defScope st) (.ref T) kV doc pm an cdv ct) :=
  ⟨⟨oc, od, .ref T, kV, doc, pm, an, cdv, ct, osl, rfl, l, c, .inr ⟨hne, T, o, its, n, rfl, lT, oT, r⟩, .inl rfl⟩, k⟩
theorem funK_mk {K : PySem.W.Frag} {x qual : Str} {st : Stmt} {f D : Addr} {kws : List (Str × V)} {oc : Value} {od an : Option Addr} {osl : Array (Option Value)} {doc pm cdv ct : Value}
    (l : K.lookup f = some ⟨oc, od, .func (PySem.W.fnOf x qual (defArgs st) (defBody st) (defScope st) .none (.ref D) doc pm an cdv ct), osl⟩)
    (c : PySem.W.codeIn K cdv qual = true) (k : PySem.W.keepIn K (.ref f) = true) (h : ∀ q ∈ kws, ∃ u, PySem.W.nsIn K D q.1 = some (some u) ∧ RelV q.2 u) :
    FunD K x qual (defArgs st) (defBody st) (defScope st) [] kws f (PySem.W.fnOf x qual (defArgs st) (defBody st) (defScope st) .none (.ref D) doc pm an cdv ct) :=
  ⟨⟨oc, od, .none, .ref D, doc, pm, an, cdv, ct, osl, rfl, l, c, .inl ⟨rfl, rfl⟩, .inr ⟨D, rfl, h⟩⟩, k⟩
theorem kit_self {K : PySem.W.Frag} {C : Addr} : PySem.W.kitOne K (.ref C) (.ref C) = some true := by
  unfold PySem.W.kitOne
  simp
theorem kit_no {K : PySem.W.Frag} {C D : Addr} (h : PySem.W.subIn K (.ref C) (.ref D) = some false) (hd : PySem.W.subIn K (.ref D) (.ref D) = some true) (hc : PySem.W.hasDictIn K D = true) (ht : PySem.W.typeIn K (.ref D) = some (.type "type")) :
    PySem.W.kitOne K (.ref C) (.ref D) = some false := by
  have ne : (Value.ref C == Value.ref D) = false := Bool.eq_false_iff.mpr fun e => by
    have e' : Value.ref C = Value.ref D := beq_iff_eq.mp e
    rw [e', hd] at h
    cases h
  obtain ⟨cd, hcd, _⟩ := PySem.W.any_some hc
  unfold PySem.W.kitOne PySem.W.kitCls
  rw [ne, if_neg Bool.false_ne_true]
  show (if ((PySem.W.clsIn K D).isSome && PySem.W.typeIn K (.ref D) == some (.type "type")) = true then PySem.W.subIn K (.ref C) (.ref D) else none) = some false
  rw [hcd, ht]
  exact h
/-- the k-th of a list, alone -/
abbrev seg {α : Type} (l : List α) (k : Nat) : List α := (l.drop k).take 1
theorem seg_rel {vs : List V} {us : List Value} (r : Vals vs us) (k : Nat) : Vals (seg vs k) (seg us k) := (r.drop k).take 1
end Vk

/-! texts repeated -/
namespace Vk
open PySem PySem.Spec PyProof.Rows L2
/-- c * n -/
def strRep (c : Str) (n : Int) : Str := if n < 1 then Str.empty else if (n == 1 || c.length == 0) = true then c else ⟨(List.replicate n.toNat c.cps).foldl (· ++ ·) #[]⟩
theorem rep_size (a : Array Nat) : ∀ (k : Nat) (b : Array Nat), ((List.replicate k a).foldl (· ++ ·) b).size = b.size + k * a.size
  | 0, b => by simp
  | k + 1, b => by
    rw [List.replicate_succ, List.foldl_cons, rep_size a k, Array.size_append, Nat.succ_mul]
    omega
def rRepS : R2 := fun x y H Q => ∃ (c : Str) (n : Int), x = .str c ∧ y = .int n ∧ c.length ≤ 100 ∧ 0 ≤ n ∧ n ≤ 100000 ∧ Q (.str (strRep c n)) H
theorem op_repS {X : Cx} : OpR X (binaryOp .Mult) rRepS := by
  intro pins s σ H x y v u Q I rx ry h
  obtain ⟨c, n, rfl, rfl, lc, n0, n1, q⟩ := h
  obtain ⟨t, rfl⟩ := rx
  obtain ⟨t', rfl⟩ := ry
  refine PySem.P.mul_str ?_ (fun h1 _ => ?_) (fun h1 _ => ?_) ?_
  · have h1 : ¬ n < -(2 ^ 63 : Int) := by omega
    have h2 : ¬ n ≥ 2 ^ 63 := by omega
    rw [decide_eq_false h1, decide_eq_false h2]
    rfl
  · have h3 : (1000 : Int) ≤ (2 ^ 63 - 1) / n := by
      rw [Int.le_ediv_iff_mul_le (by omega)]
      omega
    omega
  · have h5 : c.length * n.toNat ≤ 100 * 100000 := Nat.mul_le_mul lc (by omega)
    have h6 : ¬ (c.length * n.toNat > sizeLine) := by
      have e : sizeLine = 16777216 := sizeLine_eq
      omega
    exact decide_eq_false h6
  · unfold strRep at q
    split
    · rename_i h1
      rw [if_pos h1] at q
      exact ⟨by decide, .str _, H, I.tok _, ⟨_, rfl⟩, q⟩
    · rename_i h1
      rw [if_neg h1] at q
      split
      · rename_i h2
        rw [if_pos h2] at q
        exact ⟨.str _, H, I, ⟨_, rfl⟩, q⟩
      · rename_i h2
        rw [if_neg h2] at q
        refine ⟨?_, .str _, H, I.tok _, ⟨_, rfl⟩, q⟩
        show ((List.replicate n.toNat c.cps).foldl (· ++ ·) #[]).size ≤ sizeLine
        have lc' : c.cps.size ≤ 100 := lc
        have h5 : n.toNat * c.cps.size ≤ 100000 * 100 := Nat.mul_le_mul (by omega) lc'
        have e : sizeLine = 16777216 := sizeLine_eq
        have e0 : (#[] : Array Nat).size = 0 := rfl
        rw [rep_size, e0]
        omega
end Vk

namespace K30
open PySem PySem.Spec PyProof.Rows L2 Vk
def top (i : Nat) : Stmt := PySem.Challenge.pw_layoutsets_k30_costs_of_layouts.main.body.getD i (.Pass ⟨0, 0, 0, 0⟩)
abbrev s_is_whole : Stmt := top 1
abbrev N_is_whole : List Str := ["thing"]
abbrev P_is_whole : List Str := ["thing"]
theorem sc_is_whole : FnScope N_is_whole ["thing"] (defScope s_is_whole) := ⟨rfl, rfl, rfl, by decide +kernel, rfl, by decide +kernel, by decide +kernel⟩
abbrev s_is_plain : Stmt := top 2
abbrev N_is_plain : List Str := ["thing", "sign"]
abbrev P_is_plain : List Str := ["thing"]
theorem sc_is_plain : FnScope N_is_plain ["thing"] (defScope s_is_plain) := ⟨rfl, rfl, rfl, by decide +kernel, rfl, by decide +kernel, by decide +kernel⟩
abbrev s_check_layout : Stmt := top 9
abbrev N_check_layout : List Str := ["thing", "k", "row"]
abbrev P_check_layout : List Str := ["thing"]
theorem sc_check_layout : FnScope N_check_layout ["thing"] (defScope s_check_layout) := ⟨rfl, rfl, rfl, by decide +kernel, rfl, by decide +kernel, by decide +kernel⟩
abbrev s_is_line : Stmt := top 10
abbrev N_is_line : List Str := ["thing"]
abbrev P_is_line : List Str := ["thing"]
theorem sc_is_line : FnScope N_is_line ["thing"] (defScope s_is_line) := ⟨rfl, rfl, rfl, by decide +kernel, rfl, by decide +kernel, by decide +kernel⟩
abbrev s_refuse_non_layouts : Stmt := top 11
abbrev N_refuse_non_layouts : List Str := ["things", "thing", "problem"]
abbrev P_refuse_non_layouts : List Str := ["things"]
theorem sc_refuse_non_layouts : FnScope N_refuse_non_layouts ["things"] (defScope s_refuse_non_layouts) := ⟨rfl, rfl, rfl, by decide +kernel, rfl, by decide +kernel, by decide +kernel⟩
abbrev s_cost_of : Stmt := top 13
abbrev N_cost_of : List Str := ["layout", "width", "column", "indent", "ends", "own", "string", "end"]
abbrev P_cost_of : List Str := ["layout", "width", "column", "indent"]
theorem sc_cost_of : FnScope N_cost_of ["layout", "width", "column", "indent"] (defScope s_cost_of) := ⟨rfl, rfl, rfl, by decide +kernel, rfl, by decide +kernel, by decide +kernel⟩
abbrev s_refuse_wrong_numbers : Stmt := top 14
abbrev N_refuse_wrong_numbers : List Str := ["width", "column", "indent", "number"]
abbrev P_refuse_wrong_numbers : List Str := ["width", "column", "indent"]
theorem sc_refuse_wrong_numbers : FnScope N_refuse_wrong_numbers ["width", "column", "indent"] (defScope s_refuse_wrong_numbers) := ⟨rfl, rfl, rfl, by decide +kernel, rfl, by decide +kernel, by decide +kernel⟩
abbrev s_l_at : Stmt := top 16
abbrev N_l_at : List Str := ["_law_script", "_law_k"]
abbrev P_l_at : List Str := ["_law_script", "_law_k"]
theorem sc_l_at : FnScope N_l_at ["_law_script", "_law_k"] (defScope s_l_at) := ⟨rfl, rfl, rfl, by decide +kernel, rfl, by decide +kernel, by decide +kernel⟩
abbrev s_l_mixed : Stmt := top 17
abbrev N_l_mixed : List Str := ["_law_cell", "_law_k", "_law_number"]
abbrev P_l_mixed : List Str := ["_law_cell", "_law_k"]
theorem sc_l_mixed : FnScope N_l_mixed ["_law_cell", "_law_k"] (defScope s_l_mixed) := ⟨rfl, rfl, rfl, by decide +kernel, rfl, by decide +kernel, by decide +kernel⟩
abbrev s_l_purse : Stmt := top 18
abbrev N_l_purse : List Str := ["_law_script", "_law_at_here", "_law_cell"]
abbrev P_l_purse : List Str := ["_law_script", "_law_at_here"]
theorem sc_l_purse : FnScope N_l_purse ["_law_script", "_law_at_here"] (defScope s_l_purse) := ⟨rfl, rfl, rfl, by decide +kernel, rfl, by decide +kernel, by decide +kernel⟩
abbrev s_l_draw : Stmt := top 19
abbrev N_l_draw : List Str := ["_law_purse_here", "_law_out_of", "_law_drawn", "_law_number", "_law_k"]
abbrev P_l_draw : List Str := ["_law_purse_here", "_law_out_of"]
theorem sc_l_draw : FnScope N_l_draw ["_law_purse_here", "_law_out_of"] (defScope s_l_draw) := ⟨rfl, rfl, rfl, by decide +kernel, rfl, by decide +kernel, by decide +kernel⟩
abbrev s_l_layout : Stmt := top 20
abbrev N_l_layout : List Str := ["_law_purse_here", "_law_strings", "_law_found", "_law_turn"]
abbrev P_l_layout : List Str := ["_law_purse_here"]
theorem sc_l_layout : FnScope N_l_layout ["_law_purse_here"] (defScope s_l_layout) := ⟨rfl, rfl, rfl, by decide +kernel, rfl, by decide +kernel, by decide +kernel⟩
abbrev s_l_due : Stmt := top 21
abbrev N_l_due : List Str := ["_law_row", "_law_wide", "_law_start", "_law_deep", "_law_found", "_law_k", "_law_own", "_law_string", "_law_end"]
abbrev P_l_due : List Str := ["_law_row", "_law_wide", "_law_start", "_law_deep"]
theorem sc_l_due : FnScope N_l_due ["_law_row", "_law_wide", "_law_start", "_law_deep"] (defScope s_l_due) := ⟨rfl, rfl, rfl, by decide +kernel, rfl, by decide +kernel, by decide +kernel⟩
abbrev s_l_told : Stmt := top 22
abbrev N_l_told : List Str := ["_law_row", "_law_wide", "_law_start", "_law_deep", "_law_caught", "_law_told_here", "error"]
abbrev P_l_told : List Str := ["_law_row", "_law_wide", "_law_start", "_law_deep"]
theorem sc_l_told : FnScope N_l_told ["_law_row", "_law_wide", "_law_start", "_law_deep"] (defScope s_l_told) := ⟨rfl, rfl, rfl, by decide +kernel, rfl, by decide +kernel, by decide +kernel⟩
abbrev s_l_refused : Stmt := top 23
abbrev N_l_refused : List Str := ["_law_purse_here", "_law_row", "_law_odd", "_law_bad", "_law_one", "_law_other", "_law_k"]
abbrev P_l_refused : List Str := ["_law_purse_here", "_law_row"]
theorem sc_l_refused : FnScope N_l_refused ["_law_purse_here", "_law_row"] (defScope s_l_refused) := ⟨rfl, rfl, rfl, by decide +kernel, rfl, by decide +kernel, by decide +kernel⟩
abbrev s_law : Stmt := top 24
abbrev N_law : List Str := ["_law_script", "_law_at_here", "_law_purse_here", "_law_turn", "_law_row", "_law_wide", "_law_start", "_law_deep", "_law_k"]
abbrev P_law : List Str := ["_law_script"]
theorem sc_law : FnScope N_law ["_law_script"] (defScope s_law) := ⟨rfl, rfl, rfl, by decide +kernel, rfl, by decide +kernel, by decide +kernel⟩
abbrev se_InvalidLayout : Stmt := inClass (top 5) 0
theorem sce_InvalidLayout : FnScope ["self", "problem"] ["self", "problem"] (defScope se_InvalidLayout) := ⟨rfl, rfl, rfl, by decide +kernel, rfl, by decide +kernel, by decide +kernel⟩
abbrev se_InvalidPlace : Stmt := inClass (top 6) 0
theorem sce_InvalidPlace : FnScope ["self", "value"] ["self", "value"] (defScope se_InvalidPlace) := ⟨rfl, rfl, rfl, by decide +kernel, rfl, by decide +kernel, by decide +kernel⟩
abbrev se_InvalidWidth : Stmt := inClass (top 7) 0
theorem sce_InvalidWidth : FnScope ["self", "value"] ["self", "value"] (defScope se_InvalidWidth) := ⟨rfl, rfl, rfl, by decide +kernel, rfl, by decide +kernel, by decide +kernel⟩
structure Tx (K : PySem.W.Frag) (mg : Str → Option Value) where
  a_is_whole : Addr
  d_is_whole : FuncData
  F_is_whole : Fun K "is_whole" "is_whole" s_is_whole a_is_whole d_is_whole
  m_is_whole : mg "is_whole" = some (.ref a_is_whole)
  b_is_whole : Binds K d_is_whole ["thing"] []
  a_is_plain : Addr
  d_is_plain : FuncData
  F_is_plain : Fun K "is_plain" "is_plain" s_is_plain a_is_plain d_is_plain
  m_is_plain : mg "is_plain" = some (.ref a_is_plain)
  b_is_plain : Binds K d_is_plain ["thing"] []
  a_check_layout : Addr
  d_check_layout : FuncData
  F_check_layout : Fun K "check_layout" "check_layout" s_check_layout a_check_layout d_check_layout
  m_check_layout : mg "check_layout" = some (.ref a_check_layout)
  b_check_layout : Binds K d_check_layout ["thing"] []
  a_is_line : Addr
  d_is_line : FuncData
  F_is_line : Fun K "_is_line" "_is_line" s_is_line a_is_line d_is_line
  m_is_line : mg "_is_line" = some (.ref a_is_line)
  b_is_line : Binds K d_is_line ["thing"] []
  a_refuse_non_layouts : Addr
  d_refuse_non_layouts : FuncData
  F_refuse_non_layouts : Fun K "refuse_non_layouts" "refuse_non_layouts" s_refuse_non_layouts a_refuse_non_layouts d_refuse_non_layouts
  m_refuse_non_layouts : mg "refuse_non_layouts" = some (.ref a_refuse_non_layouts)
  b_refuse_non_layouts : Binds K d_refuse_non_layouts ["things"] []
  a_cost_of : Addr
  d_cost_of : FuncData
  F_cost_of : FunD K "cost_of" "cost_of" (defArgs s_cost_of) (defBody s_cost_of) (defScope s_cost_of) [] [("column", .int 0), ("indent", .int 0)] a_cost_of d_cost_of
  m_cost_of : mg "cost_of" = some (.ref a_cost_of)
  a_refuse_wrong_numbers : Addr
  d_refuse_wrong_numbers : FuncData
  F_refuse_wrong_numbers : Fun K "_refuse_wrong_numbers" "_refuse_wrong_numbers" s_refuse_wrong_numbers a_refuse_wrong_numbers d_refuse_wrong_numbers
  m_refuse_wrong_numbers : mg "_refuse_wrong_numbers" = some (.ref a_refuse_wrong_numbers)
  b_refuse_wrong_numbers : Binds K d_refuse_wrong_numbers ["width", "column", "indent"] []
  a_l_at : Addr
  d_l_at : FuncData
  F_l_at : Fun K "_law_at" "_law_at" s_l_at a_l_at d_l_at
  m_l_at : mg "_law_at" = some (.ref a_l_at)
  b_l_at : Binds K d_l_at ["_law_script", "_law_k"] []
  a_l_mixed : Addr
  d_l_mixed : FuncData
  F_l_mixed : Fun K "_law_mixed" "_law_mixed" s_l_mixed a_l_mixed d_l_mixed
  m_l_mixed : mg "_law_mixed" = some (.ref a_l_mixed)
  b_l_mixed : Binds K d_l_mixed ["_law_cell", "_law_k"] []
  a_l_purse : Addr
  d_l_purse : FuncData
  F_l_purse : Fun K "_law_purse" "_law_purse" s_l_purse a_l_purse d_l_purse
  m_l_purse : mg "_law_purse" = some (.ref a_l_purse)
  b_l_purse : Binds K d_l_purse ["_law_script", "_law_at_here"] []
  a_l_draw : Addr
  d_l_draw : FuncData
  F_l_draw : Fun K "_law_draw" "_law_draw" s_l_draw a_l_draw d_l_draw
  m_l_draw : mg "_law_draw" = some (.ref a_l_draw)
  b_l_draw : Binds K d_l_draw ["_law_purse_here", "_law_out_of"] []
  a_l_layout : Addr
  d_l_layout : FuncData
  F_l_layout : Fun K "_law_layout" "_law_layout" s_l_layout a_l_layout d_l_layout
  m_l_layout : mg "_law_layout" = some (.ref a_l_layout)
  b_l_layout : Binds K d_l_layout ["_law_purse_here"] []
  a_l_due : Addr
  d_l_due : FuncData
  F_l_due : Fun K "_law_due" "_law_due" s_l_due a_l_due d_l_due
  m_l_due : mg "_law_due" = some (.ref a_l_due)
  b_l_due : Binds K d_l_due ["_law_row", "_law_wide", "_law_start", "_law_deep"] []
  a_l_told : Addr
  d_l_told : FuncData
  F_l_told : Fun K "_law_told" "_law_told" s_l_told a_l_told d_l_told
  m_l_told : mg "_law_told" = some (.ref a_l_told)
  b_l_told : Binds K d_l_told ["_law_row", "_law_wide", "_law_start", "_law_deep"] []
  a_l_refused : Addr
  d_l_refused : FuncData
  F_l_refused : Fun K "_law_refused" "_law_refused" s_l_refused a_l_refused d_l_refused
  m_l_refused : mg "_law_refused" = some (.ref a_l_refused)
  b_l_refused : Binds K d_l_refused ["_law_purse_here", "_law_row"] []
  a_law : Addr
  d_law : FuncData
  F_law : Fun K "law" "law" s_law a_law d_law
  m_law : mg "law" = some (.ref a_law)
  b_law : Binds K d_law ["_law_script"] []
  z_all : mg "all" = none
  z_bool : mg "bool" = none
  z_enumerate : mg "enumerate" = none
  z_int : mg "int" = none
  z_isinstance : mg "isinstance" = none
  z_len : mg "len" = none
  z_max : mg "max" = none
  z_min : mg "min" = none
  z_range : mg "range" = none
  z_str : mg "str" = none
  z_sum : mg "sum" = none
  z_tuple : mg "tuple" = none
  kb_cost_of_1_width_column_indent : ∃ mv : List Value, KBn K d_cost_of ["layout", "width", "column", "indent"] 1 ["width", "column", "indent"] (fun us ws => seg us 0 ++ seg ws 0 ++ seg ws 1 ++ seg ws 2) (fun vs zs => seg vs 0 ++ seg zs 0 ++ seg zs 1 ++ seg zs 2)
  kb_cost_of_1_width_column : ∃ mv : List Value, KBn K d_cost_of ["layout", "width", "column", "indent"] 1 ["width", "column"] (fun us ws => seg us 0 ++ seg ws 0 ++ seg ws 1 ++ seg mv 0) (fun vs zs => seg vs 0 ++ seg zs 0 ++ seg zs 1 ++ seg ([.int 0] : List V) 0)
  kb_cost_of_1_width : ∃ mv : List Value, KBn K d_cost_of ["layout", "width", "column", "indent"] 1 ["width"] (fun us ws => seg us 0 ++ seg ws 0 ++ seg mv 0 ++ seg mv 1) (fun vs zs => seg vs 0 ++ seg zs 0 ++ seg ([.int 0, .int 0] : List V) 0 ++ seg ([.int 0, .int 0] : List V) 1)
  kb_cost_of_layout_indent_width : ∃ mv : List Value, KBn K d_cost_of ["layout", "width", "column", "indent"] 0 ["layout", "indent", "width"] (fun us ws => seg ws 0 ++ seg ws 2 ++ seg mv 0 ++ seg ws 1) (fun vs zs => seg zs 0 ++ seg zs 2 ++ seg ([.int 0] : List V) 0 ++ seg zs 1)
  C_LayoutError : Addr
  m_LayoutError : mg "LayoutError" = some (.ref C_LayoutError)
  e_InvalidLayout : Err K mg "InvalidLayout" "InvalidLayout.__init__" "problem" se_InvalidLayout
  ex_InvalidLayout : PySem.W.exmOne K (.ref e_InvalidLayout.C) (.ref C_LayoutError) = some true
  e_InvalidPlace : Err K mg "InvalidPlace" "InvalidPlace.__init__" "value" se_InvalidPlace
  ex_InvalidPlace : PySem.W.exmOne K (.ref e_InvalidPlace.C) (.ref C_LayoutError) = some true
  e_InvalidWidth : Err K mg "InvalidWidth" "InvalidWidth.__init__" "value" se_InvalidWidth
  ex_InvalidWidth : PySem.W.exmOne K (.ref e_InvalidWidth.C) (.ref C_LayoutError) = some true
  ki_InvalidLayout_InvalidLayout : PySem.W.kitOne K (.ref e_InvalidLayout.C) (.ref e_InvalidLayout.C) = some true
  ki_InvalidLayout_InvalidWidth : PySem.W.kitOne K (.ref e_InvalidLayout.C) (.ref e_InvalidWidth.C) = some false
  ki_InvalidLayout_InvalidPlace : PySem.W.kitOne K (.ref e_InvalidLayout.C) (.ref e_InvalidPlace.C) = some false
  ki_InvalidPlace_InvalidLayout : PySem.W.kitOne K (.ref e_InvalidPlace.C) (.ref e_InvalidLayout.C) = some false
  ki_InvalidPlace_InvalidWidth : PySem.W.kitOne K (.ref e_InvalidPlace.C) (.ref e_InvalidWidth.C) = some false
  ki_InvalidPlace_InvalidPlace : PySem.W.kitOne K (.ref e_InvalidPlace.C) (.ref e_InvalidPlace.C) = some true
  ki_InvalidWidth_InvalidLayout : PySem.W.kitOne K (.ref e_InvalidWidth.C) (.ref e_InvalidLayout.C) = some false
  ki_InvalidWidth_InvalidWidth : PySem.W.kitOne K (.ref e_InvalidWidth.C) (.ref e_InvalidWidth.C) = some true
  ki_InvalidWidth_InvalidPlace : PySem.W.kitOne K (.ref e_InvalidWidth.C) (.ref e_InvalidPlace.C) = some false
theorem init_InvalidLayout {P : Program} {w : World} {K : PySem.W.Frag} {mg : Str → Option Value} {base : Heap} (T : Tx K mg) : FnOk P w K mg base CX0 1 T.e_InvalidLayout.I T.e_InvalidLayout.D ["self", "problem"] (spOI T.e_InvalidLayout.C "problem") := by
  refine T.e_InvalidLayout.F.ok sce_InvalidLayout (fun vs H Q E h => ?_) (fun cdv A outer s H vs Q E hr h => ⟨tOst K "problem" (tVar 0) (tVar 1), ?_, oi_pure T.e_InvalidLayout.ox T.e_InvalidLayout.no h rfl⟩)
  · obtain ⟨a, y, rfl, _⟩ := h
    rfl
  · exact pss_one (ps_ost (pv 0) (pv 1))
theorem init_InvalidPlace {P : Program} {w : World} {K : PySem.W.Frag} {mg : Str → Option Value} {base : Heap} (T : Tx K mg) : FnOk P w K mg base CX0 1 T.e_InvalidPlace.I T.e_InvalidPlace.D ["self", "value"] (spOI T.e_InvalidPlace.C "value") := by
  refine T.e_InvalidPlace.F.ok sce_InvalidPlace (fun vs H Q E h => ?_) (fun cdv A outer s H vs Q E hr h => ⟨tOst K "value" (tVar 0) (tVar 1), ?_, oi_pure T.e_InvalidPlace.ox T.e_InvalidPlace.no h rfl⟩)
  · obtain ⟨a, y, rfl, _⟩ := h
    rfl
  · exact pss_one (ps_ost (pv 0) (pv 1))
theorem init_InvalidWidth {P : Program} {w : World} {K : PySem.W.Frag} {mg : Str → Option Value} {base : Heap} (T : Tx K mg) : FnOk P w K mg base CX0 1 T.e_InvalidWidth.I T.e_InvalidWidth.D ["self", "value"] (spOI T.e_InvalidWidth.C "value") := by
  refine T.e_InvalidWidth.F.ok sce_InvalidWidth (fun vs H Q E h => ?_) (fun cdv A outer s H vs Q E hr h => ⟨tOst K "value" (tVar 0) (tVar 1), ?_, oi_pure T.e_InvalidWidth.ox T.e_InvalidWidth.no h rfl⟩)
  · obtain ⟨a, y, rfl, _⟩ := h
    rfl
  · exact pss_one (ps_ost (pv 0) (pv 1))
end K30

namespace K30
open PySem PySem.Spec PyProof.Rows L2 Vk
/-! ### what the program answers of data -/
def signOk (c : Nat) : Bool := !decide (c < 32) && !decide (126 < c)
def wholeD : PyData → Bool
  | .int i => decide (0 ≤ i)
  | _ => false
def plainD : PyData → Bool
  | .str z => z.cps.toList.all signOk
  | _ => false
def lineD : PyData → Bool
  | .tuple [a, b] => wholeD a && plainD b
  | _ => false
theorem sp_cps : (" " : Str).cps.toList = [32] := by decide +kernel
theorem td_cps : ("~" : Str).cps.toList = [126] := by decide +kernel
theorem one_lt {a b : Nat} : decide (([a] : List Nat) < [b]) = decide (a < b) := by
  have e : (([a] : List Nat) < [b]) ↔ a < b := by
    rw [List.cons_lt_cons_iff]
    simp
  by_cases h : a < b
  · rw [decide_eq_true h, decide_eq_true (e.mpr h)]
  · rw [decide_eq_false h, decide_eq_false (fun q => h (e.mp q))]
theorem yesT {σ : L2.St} {H : Hp} {Q : Bool → Hp → Prop} (h : Q true H) : tYes σ H Q := h
theorem weight_mem {d : PyData} : ∀ {ds : List PyData}, d ∈ ds → d.weight ≤ PyData.weightAll ds
  | [], h => by cases h
  | e :: r, h => by
    show d.weight ≤ e.weight + 1 + PyData.weightAll r
    rcases List.mem_cons.mp h with rfl | h
    · omega
    · have := weight_mem h
      omega
def spWhole (K : PySem.W.Frag) : Sp := fun vs H Q _ => ∃ (v : V) (d : PyData), vs = [v] ∧ Dp K H v d ∧ Q (.bl (wholeD d)) H
def spPlain (K : PySem.W.Frag) : Sp := fun vs H Q _ => ∃ (v : V) (d : PyData), vs = [v] ∧ Dp K H v d ∧ d.weight ≤ 1000000 ∧ ∀ H', Same H H' → Q (.bl (plainD d)) H'
def spLine (K : PySem.W.Frag) : Sp := fun vs H Q _ => ∃ (v : V) (d : PyData), vs = [v] ∧ Dp K H v d ∧ d.weight ≤ 1000000 ∧ ∀ H', Same H H' → Q (.bl (lineD d)) H'
section
variable {P : Program} {w : World} {K : PySem.W.Frag} {mg : Str → Option Value} {base : Heap} {k : Nat}
theorem ok_whole (T : Tx K mg) : FnOk P w K mg base CX0 (k + 1) T.a_is_whole T.d_is_whole P_is_whole (spWhole K) := by
  refine T.F_is_whole.ok sc_is_whole (fun vs H Q E h => ?_) (fun cdv A outer s H vs Q E hr h => ?_)
  · obtain ⟨v, d, rfl, _⟩ := h
    rfl
  obtain ⟨v, d, rfl, hd, hq⟩ := h
  refine ⟨_, (pss_one (ps_ret (pe_and (pe_callB call_isi rfl T.z_isinstance (by decide +kernel) (pa_cons (pv 0) (pa_cons (pe_bltn (v := .ty "int") rfl T.z_int (by decide +kernel) rfl) pa_nil))) (pe_and (pe_not (pe_callB call_isi rfl T.z_isinstance (by decide +kernel) (pa_cons (pv 0) (pa_cons (pe_bltn (v := .ty "bool") rfl T.z_bool (by decide +kernel) rfl) pa_nil)))) (pe_one (pe_cmpR op_ge (pv 0) pe_int (nomark _))))))), ?_⟩
  refine ⟨_, rfl, _, _, _, _, _, rfl, .ty "int", dp_ty hd, kit_int d, _, rfl, ?_⟩
  cases hd with
  | bl b => exact iteT ⟨_, rfl, _, _, _, _, _, rfl, .ty "bool", dp_ty (.bl b), kit_bool (.bool b), _, rfl, _, rfl, iteF hq⟩
  | int i => exact iteT ⟨_, rfl, _, _, _, _, _, rfl, .ty "bool", dp_ty (.int i), kit_bool (.int i), _, rfl, _, rfl, iteT ⟨_, rfl, _, _, rfl, rfl, hq⟩⟩
  | non => exact iteF hq
  | str x => exact iteF hq
  | lst a b => exact iteF hq
  | tup a b => exact iteF hq
theorem ok_plain (T : Tx K mg) : FnOk P w K mg base CX0 (k + 1) T.a_is_plain T.d_is_plain P_is_plain (spPlain K) := by
  refine T.F_is_plain.ok sc_is_plain (fun vs H Q E h => ?_) (fun cdv A outer s H vs Q E hr h => ?_)
  · obtain ⟨v, d, rfl, _⟩ := h
    rfl
  obtain ⟨v, d, rfl, hd, hw, hq⟩ := h
  refine ⟨_, (pss_one (ps_ret (pe_and (pe_callB call_isi rfl T.z_isinstance (by decide +kernel) (pa_cons (pv 0) (pa_cons (pe_bltn (v := .ty "str") rfl T.z_str (by decide +kernel) rfl) pa_nil))) (pe_one (pe_callB (cr_all rfl) rfl T.z_all (by decide +kernel) (pa_cons (pe_lc (own := [("sign", 1)]) (g := gName 1) (tt := tYes) rfl sc_is_plain.nd (pi_str (pv 0)) (blkOk_by (own := [("sign", 1)]) (N := N_is_plain) (sc := defScope s_is_plain) (by decide +kernel)) (fun _ _ _ _ _ => (pg_name (i := 1) sc_is_plain.nd rfl (Or.inl rfl))) (fun _ _ _ _ _ => pts_nil) (fun _ _ _ _ _ => (pe_chain op_le_str op_le_str pe_str (pv 1) pe_str))) pa_nil)))))), ?_⟩
  refine ⟨_, rfl, _, _, _, _, _, rfl, .ty "str", dp_ty hd, kit_str d, _, rfl, ?_⟩
  cases hd with
  | str z =>
    refine iteT ⟨_, rfl, z, rfl, fun D hD => ?_⟩
    refine lc_it walk_str (fun i H' => H' = upd H D (.lst ((z.cps.toList.take i).map fun c => .bl (signOk c)))) ?_ (fun _ _ _ _ => trivial) ?_ ?_
    · rfl
    · rintro i x _ _ hi rfl ⟨rfl, c, hc, rfl⟩
      have hc' : z.cps.toList[i]? = some c := by simpa using hc
      refine ⟨rfl, yesT ?_⟩
      refine iteT ?_
      refine ⟨_, rfl, _, _, rfl, rfl, _, rfl, ?_⟩
      have hz : z.cps.size ≤ 1000000 := hw
      have go : ∀ b : Bool, b = signOk c → ∃ acc, upd H D (.lst ((z.cps.toList.take i).map fun c => V.bl (signOk c))) D = some (.lst acc) ∧ acc.length < sizeLine ∧
          upd (upd H D (.lst ((z.cps.toList.take i).map fun c => V.bl (signOk c)))) D (.lst (acc ++ [.bl b])) = upd H D (.lst ((z.cps.toList.take (i + 1)).map fun c => V.bl (signOk c))) := by
        rintro _ rfl
        refine ⟨_, upd_same, ?_, ?_⟩
        · refine Nat.lt_of_le_of_lt (m := 1000000) ?_ (by decide)
          rw [List.length_map, List.length_take]
          omega
        · rw [upd_upd, List.take_add_one, hc', List.map_append]
          rfl
      rw [sp_cps]
      show if (!decide ([c] < [32])) = true then _ else _
      rw [one_lt]
      refine ite2 (fun h1 => ?_) (fun h1 => ?_)
      · refine ⟨_, _, rfl, rfl, ?_⟩
        rw [td_cps]
        show ∃ acc, _
        refine go _ ?_
        show (!decide ([126] < [c])) = signOk c
        rw [one_lt]
        unfold signOk
        rw [h1]
        rfl
      · refine go _ ?_
        unfold signOk
        rw [Bool.eq_false_iff.mpr h1]
        rfl
    · rintro _ rfl
      have e : z.cps.toList.take z.cps.size = z.cps.toList := List.take_of_length_le (by simp)
      refine ⟨D, z.cps.toList.map signOk, rfl, .of (by rw [upd_same, e, List.map_map]; rfl), ?_⟩
      have e2 : ((z.cps.toList.map signOk).all id) = plainD (.str z) := by
        rw [List.all_map]
        rfl
      rw [e2]
      exact hq _ (same_new hD)
  | non => exact iteF (hq _ (.refl _))
  | bl b => exact iteF (hq _ (.refl _))
  | int i => exact iteF (hq _ (.refl _))
  | lst a b => exact iteF (hq _ (.refl _))
  | tup a b => exact iteF (hq _ (.refl _))
end
/-! ### check_layout -/
def firstBad : Nat → List PyData → Option Nat
  | _, [] => none
  | k, r :: rs => if lineD r = true then firstBad (k + 1) rs else some k
def indentOf : PyData → Int
  | .tuple (.int i :: _) => i
  | _ => 0
def checkRows (ds : List PyData) : PyData := match firstBad 0 ds with
  | some k => .tuple [.str "line", .int (k : Nat)]
  | none => if indentOf (ds.headD .none) = 0 then .none else .tuple [.str "first"]
def checkD : PyData → PyData
  | .tuple [] => .tuple [.str "form"]
  | .tuple (r :: rs) => checkRows (r :: rs)
  | _ => .tuple [.str "form"]
theorem firstBad_at : ∀ (pre post : List PyData) (r : PyData) (k : Nat), (∀ d ∈ pre, lineD d = true) → lineD r = false →
    firstBad k (pre ++ r :: post) = some (k + pre.length)
  | [], post, r, k, _, h => by
    show (if lineD r = true then _ else some k) = _
    rw [h]
    rfl
  | d :: pre, post, r, k, hp, h => by
    show (if lineD d = true then firstBad (k + 1) (pre ++ r :: post) else some k) = _
    rw [if_pos (hp d (List.mem_cons_self ..)), firstBad_at pre post r (k + 1) (fun e he => hp e (List.mem_cons_of_mem _ he)) h]
    exact congrArg some (by simp only [List.length_cons]; omega)
theorem firstBad_no : ∀ (ds : List PyData) (k : Nat), (∀ d ∈ ds, lineD d = true) → firstBad k ds = none
  | [], _, _ => rfl
  | d :: ds, k, h => by
    show (if lineD d = true then firstBad (k + 1) ds else some k) = _
    rw [if_pos (h d (List.mem_cons_self ..))]
    exact firstBad_no ds (k + 1) fun e he => h e (List.mem_cons_of_mem _ he)
theorem firstBad_ix {ds : List PyData} {i : Nat} {r : PyData} (hr : ds[i]? = some r) (hp : ∀ d ∈ ds.take i, lineD d = true) (h : lineD r = false) :
    firstBad 0 ds = some i := by
  obtain ⟨hi, rfl⟩ := List.getElem?_eq_some_iff.mp hr
  have e : ds = ds.take i ++ ds[i] :: ds.drop (i + 1) := by
    rw [← List.drop_eq_getElem_cons hi, List.take_append_drop]
  have q := firstBad_at (ds.take i) (ds.drop (i + 1)) ds[i] 0 hp h
  rw [← e, List.length_take] at q
  rw [q]
  exact congrArg some (by omega)
theorem lineD_two {ds : List PyData} (h : ds.length ≠ 2) : lineD (.tuple ds) = false := by
  match ds, h with
  | [], _ => rfl
  | [_], _ => rfl
  | _ :: _ :: _ :: _, _ => rfl
  | [_, _], h => exact absurd rfl h
theorem lineD_shape {d : PyData} (h : lineD d = true) : ∃ (i : Int) (z : Str), d = .tuple [.int i, .str z] ∧ 0 ≤ i ∧ z.cps.toList.all signOk = true := by
  match d, h with
  | .tuple [a, b], h =>
    have h' : (wholeD a && plainD b) = true := h
    rw [Bool.and_eq_true] at h'
    cases a with
    | int i =>
      cases b with
      | str z => exact ⟨i, z, rfl, of_decide_eq_true h'.1, h'.2⟩
      | _ => exact absurd h'.2 Bool.false_ne_true
    | _ => exact absurd h'.1 Bool.false_ne_true
theorem two_of {α : Type} : ∀ {l : List α}, l.length = 2 → ∃ a b, l = [a, b]
  | [a, b], _ => ⟨a, b, rfl⟩
  | [], h => by simp at h
  | [_], h => by simp at h
  | _ :: _ :: _ :: _, h => by simp at h
theorem two_all {K : PySem.W.Frag} {H : Hp} {vs : List V} {d0 d1 : PyData} (h : DpAll K H vs [d0, d1]) :
    ∃ v0 v1, vs = [v0, v1] ∧ Dp K H v0 d0 ∧ Dp K H v1 d1 := by
  cases h with
  | cons h0 t =>
    cases t with
    | cons h1 n =>
      cases n
      exact ⟨_, _, rfl, h0, h1⟩
theorem cons_all {K : PySem.W.Frag} {H : Hp} {vs : List V} {d0 : PyData} {ds : List PyData} (h : DpAll K H vs (d0 :: ds)) :
    ∃ v0 ws, vs = v0 :: ws ∧ Dp K H v0 d0 ∧ DpAll K H ws ds := by
  cases h with
  | cons h0 t => exact ⟨_, _, rfl, h0, t⟩
theorem eqv_int (a b : Int) : PyData.eqv (.int a) (.int b) = (a == b) := by
  unfold PyData.eqv
  rfl
theorem neI {a b : Int} : (!(a == b)) = decide (a ≠ b) := by
  by_cases h : a = b
  · subst h
    simp
  · simp [h]
def spCheck (K : PySem.W.Frag) : Sp := fun vs H Q _ => ∃ (v : V) (d : PyData), vs = [v] ∧ Dp K H v d ∧ d.weight ≤ 1000000 ∧
  ∀ (u : V) (H' : Hp), Same H H' → Dp K H' u (checkD d) → Q u H'
theorem one_tup {K : PySem.W.Frag} {H : Hp} {p : Addr} {v : V} {d : PyData} (h : Dp K (upd H p (.tup [v])) v d) : Dp K (upd H p (.tup [v])) (.ref p) (.tuple [d]) :=
  .tup (.of upd_same) (.cons h .nil)
end K30

namespace K30
open PySem PySem.Spec PyProof.Rows L2 Vk
/-! ### the draws -/
def spAt (K : PySem.W.Frag) : Sp := fun vs H Q _ => ∃ (a : Addr) (ns : List Int) (k : Int),
  vs = [.ref a, .int k] ∧ SqL K H a (ns.map V.int) ∧ ns.length ≤ 63 ∧ 0 ≤ k ∧ ∀ i : Int, Q (.int i) H
def spMixed : Sp := fun vs H Q _ => ∃ c k : Int,
  vs = [.int c, .int k] ∧ 0 ≤ c ∧ c < 2147483647 ∧ 0 ≤ k ∧ k ≤ 2000000000 ∧ ∀ i : Int, Q (.int i) H
def spPurse (K : PySem.W.Frag) : Sp := fun vs H Q _ => ∃ (a : Addr) (ns : List Int) (k : Int),
  vs = [.ref a, .int k] ∧ SqL K H a (ns.map V.int) ∧ ns.length ≤ 63 ∧ 0 ≤ k ∧ k ≤ 100 ∧
  ∀ (p : Addr) (o : HO), H p = none → PurseAt (upd H p o) p 900000000 → Q (.ref p) (upd H p o)
def spDraw : Sp := fun vs H Q _ => ∃ (p : Addr) (m : Int) (n : Nat),
  vs = [.ref p, .int m] ∧ PurseAt H p (n + 1) ∧ 0 < m ∧ m < 536870912 ∧
  ∀ (H' : Hp) (d : Int), hide p H' = hide p H → PurseAt H' p n → 0 ≤ d → d < m → Q (.int d) H'
section
variable {P : Program} {w : World} {K : PySem.W.Frag} {mg : Str → Option Value} {base : Heap} {k : Nat}
theorem ok_at (T : Tx K mg) : FnOk P w K mg base CX0 (k + 1) T.a_l_at T.d_l_at ["_law_script", "_law_k"] (spAt K) := by
  refine T.F_l_at.ok sc_l_at (fun vs H Q E h => ?_) (fun cdv A outer s H vs Q E hr h => ?_)
  · obtain ⟨a, ns, z, rfl, _⟩ := h
    rfl
  obtain ⟨a, ns, z, rfl, hS, h63, h0, hq⟩ := h
  refine ⟨_, (pss_cons (ps_if (pt_cmpR op_lt (pv 1) (pe_callB call_len rfl T.z_len (by decide +kernel) (pa_cons (pv 0) pa_nil)) (nomark _))
(pss_one (ps_ret (pe_ix ix_list (pv 0) (pv 1) (fun _ _ => rfl))))
pss_nil)
(pss_one (ps_ret pe_int))), ?_⟩
  refine ⟨_, rfl, _, rfl, .ref a, _, rfl, .inl ⟨_, hS, rfl⟩, _, _, rfl, rfl, _, rfl, ?_⟩
  have hl : (ns.map V.int).length = ns.length := List.length_map _
  refine ite2 (fun c => ?_) (fun c => ?_)
  · have c' : z < (((ns.map V.int).length : Nat) : Int) := of_decide_eq_true c
    rw [hl] at c'
    have hz : z.toNat < ns.length := by omega
    refine ⟨_, rfl, _, rfl, a, _, z, .int ns[z.toNat], rfl, rfl, hS, ?_, hq _⟩
    exact at_of (j := z.toNat) (by omega) (by simp [hz])
  · exact hq 0
theorem ok_mixed (T : Tx K mg) : FnOk P w K mg base CX0 (k + 1) T.a_l_mixed T.d_l_mixed ["_law_cell", "_law_k"] spMixed := by
  refine T.F_l_mixed.ok sc_l_mixed (fun vs H Q E h => ?_) (fun cdv A outer s H vs Q E hr h => ?_)
  · obtain ⟨c, z, rfl, _⟩ := h
    rfl
  obtain ⟨c, z, rfl, c0, c1, z0, z1, hq⟩ := h
  refine ⟨_, (pss_cons (ps_set (i := 2) sc_l_mixed.nd rfl (Or.inl rfl) (pe_op op_mod (pe_callTy call_int1 rfl T.z_int (by decide +kernel) (pa_cons (pe_op op_add (pe_op op_add (pe_op op_add (pe_op op_mul (pv 0) pe_int) (pe_op op_mul (pe_op op_mul pe_int (pv 1)) (pv 1))) (pv 1)) pe_int) pa_nil)) pe_int))
(pss_cons (ps_set (i := 2) sc_l_mixed.nd rfl (Or.inl rfl) (pe_op op_mod (pe_callTy call_int1 rfl T.z_int (by decide +kernel) (pa_cons (pe_op op_add (pe_op op_mul (pv 2) (pv 2)) pe_int) pa_nil)) pe_int))
(pss_one (ps_ret (pe_op op_mod (pe_callTy call_int1 rfl T.z_int (by decide +kernel) (pa_cons (pe_op op_mul (pv 2) pe_int) pa_nil)) pe_int))))), ?_⟩
  refine ⟨_, rfl, _, _, rfl, rfl, .inl ⟨by omega, by omega⟩, _, rfl, _, _, rfl, rfl, .inr ⟨by omega, by omega⟩, _, rfl, _, _, rfl, rfl, .inr ⟨by omega, by omega⟩,
    _, _, rfl, rfl, _, rfl, _, _, rfl, rfl, _, _, rfl, rfl, .inl ⟨_, rfl, _, _, rfl, rfl, (show (0 : Int) < 2147483647 by decide), ?_⟩⟩
  refine ⟨_, rfl, _, rfl, _, _, rfl, rfl, .inl ⟨by omega, by omega⟩, _, _, rfl, rfl, .inl ⟨_, rfl, _, _, rfl, rfl, (show (0 : Int) < 2147483629 by decide), ?_⟩⟩
  exact ⟨_, rfl, _, _, rfl, rfl, .inl ⟨by omega, by omega⟩, .inl ⟨_, rfl, _, _, rfl, rfl, (show (0 : Int) < 2147483587 by decide), hq _⟩⟩
theorem ok_purse (T : Tx K mg) (G_l_at : FnOk P w K mg base CX0 k T.a_l_at T.d_l_at ["_law_script", "_law_k"] (spAt K)) : FnOk P w K mg base CX0 (k + 1) T.a_l_purse T.d_l_purse P_l_purse (spPurse K) := by
  refine T.F_l_purse.ok sc_l_purse (fun vs H Q E h => ?_) (fun cdv A outer s H vs Q E hr h => ?_)
  · obtain ⟨a, ns, z, rfl, _⟩ := h
    rfl
  obtain ⟨a, ns, z, rfl, hS, h63, z0, z1, hq⟩ := h
  refine ⟨_, (pss_cons (ps_set (i := 2) sc_l_purse.nd rfl (Or.inl rfl) (pe_call G_l_at hr rfl T.m_l_at T.F_l_at.kp T.b_l_at .nil pass0 (pa_cons (pv 0) (pa_cons (pv 1) pa_nil))))
(pss_one (ps_ret (pe_lst (pa_cons (pe_op op_mod (pe_callTy call_int1 rfl T.z_int (by decide +kernel) (pa_cons (pe_callB (call_max2 rfl) rfl T.z_max (by decide +kernel) (pa_cons (pe_op op_sub (pv 2) (pe_op op_pow pe_int pe_int)) (pa_cons pe_int pa_nil))) pa_nil)) (pe_op op_powW (pe_op op_pow pe_int pe_int) pe_int)) (pa_cons (pe_op op_mod (pe_callTy call_int1 rfl T.z_int (by decide +kernel) (pa_cons (pv 2) pa_nil)) pe_int) (pa_cons (pe_op op_mul pe_int (pv 1)) pa_nil))))))), ?_⟩
  refine ⟨_, rfl, _, rfl, a, ns, z, rfl, hS, h63, z0, fun cell => ?_⟩
  refine ⟨_, rfl, _, _, rfl, rfl, ⟨by decide, by decide, by decide⟩, _, _, rfl, rfl, _, _, rfl, .inl ⟨_, rfl, _, _, rfl, rfl, ⟨by decide, by decide, by decide⟩, _, _, rfl, rfl, ⟨by decide, by decide +kernel⟩, ?_⟩⟩
  refine ⟨_, _, rfl, rfl, (show (0 : Int) < (10 ^ Int.toNat 60) ^ Int.toNat 10 by decide +kernel), ?_⟩
  refine ⟨_, rfl, .inl ⟨_, rfl, _, _, rfl, rfl, (show (0 : Int) < 2147483647 by decide), _, rfl, _, _, rfl, rfl, .inl ⟨by decide, by decide⟩, (by show 3 ≤ sizeLine; decide), fun p hp => ?_⟩⟩
  exact hq p _ hp ⟨_, _, _, upd_same, by omega, by omega, by omega, by omega⟩
end
end K30

namespace K30
open PySem PySem.Spec PyProof.Rows L2 Vk
theorem bits_small {m : Int} (m0 : 0 < m) (m1 : m < 536870912) : (1 : Int) + ((Builtin.Int.intBits m : Nat) : Int) / 30 = 1 := by
  have h : Builtin.Int.intBits m ≤ 29 := by
    unfold Builtin.Int.intBits
    split
    · decide
    · have h2 : m.natAbs.log2 < 29 := (Nat.log2_lt (by omega)).mpr (by omega)
      omega
  omega
section
variable {P : Program} {w : World} {K : PySem.W.Frag} {mg : Str → Option Value} {base : Heap} {k : Nat}
theorem ok_draw (T : Tx K mg) (G_l_mixed : FnOk P w K mg base CX0 k T.a_l_mixed T.d_l_mixed ["_law_cell", "_law_k"] spMixed) : FnOk P w K mg base CX0 (k + 1) T.a_l_draw T.d_l_draw P_l_draw spDraw := by
  refine T.F_l_draw.ok sc_l_draw (fun vs H Q E h => ?_) (fun cdv A outer s H vs Q E hr h => ?_)
  · obtain ⟨p, m, n, rfl, _⟩ := h
    rfl
  obtain ⟨p, m, n, rfl, ⟨a, b, c, hp, b0, b1, c0, c1⟩, m0, m1, hq⟩ := h
  refine ⟨_, (pss_cons (ps_if (pt_cmpR op_gt (pe_ix ix_list (pv 0) pe_int (fun _ _ => rfl)) pe_int (nomark _))
(pss_cons (ps_set (i := 2) sc_l_draw.nd rfl (Or.inl rfl) (pe_op op_mod (pe_callTy call_int1 rfl T.z_int (by decide +kernel) (pa_cons (pe_ix ix_list (pv 0) pe_int (fun _ _ => rfl)) pa_nil)) (pv 1)))
(pss_cons (ps_asg (pe_op op_fdiv (pe_ix ix_list (pv 0) pe_int (fun _ _ => rfl)) (pv 1)) (pg_sub (pv 0) pe_int set_list))
(pss_one (ps_ret (pv 2)))))
pss_nil)
(pss_cons (ps_set (i := 3) sc_l_draw.nd rfl (Or.inl rfl) pe_int)
(pss_cons (ps_for PassesOwn.never rfl (pi_range1 rfl T.z_range (pa_cons (pe_op op_add pe_int (pe_op op_fdiv (pe_bits (pv 1)) pe_int)) pa_nil)) (pg_name (i := 4) sc_l_draw.nd rfl (Or.inl rfl))
(pss_cons (ps_asg (pe_op op_add (pe_ix ix_list (pv 0) pe_int (fun _ _ => rfl)) pe_int) (pg_sub (pv 0) pe_int set_list))
(pss_one (ps_set (i := 3) sc_l_draw.nd rfl (Or.inl rfl) (pe_op op_add (pe_op op_mul (pv 3) pe_int) (pe_call G_l_mixed hr rfl T.m_l_mixed T.F_l_mixed.kp T.b_l_mixed .nil pass0 (pa_cons (pe_ix ix_list (pv 0) pe_int (fun _ _ => rfl)) (pa_cons (pe_ix ix_list (pv 0) pe_int (fun _ _ => rfl)) pa_nil))))))))
(pss_one (ps_ret (pe_op op_mod (pe_callTy call_int1 rfl T.z_int (by decide +kernel) (pa_cons (pv 3) pa_nil)) (pv 1))))))), ?_⟩
  refine ⟨_, rfl, p, _, _, .int a, rfl, rfl, .of hp, rfl, _, _, rfl, rfl, _, rfl, ?_⟩
  refine ite2 (fun t => ?_) (fun t => ?_)
  · refine ⟨_, rfl, p, _, _, .int a, rfl, rfl, .of hp, rfl, .inl ⟨_, rfl, _, rfl, _, _, rfl, rfl, m0, ?_⟩⟩
    refine ⟨_, rfl, p, _, _, .int a, rfl, rfl, .of hp, rfl, _, rfl, _, _, rfl, rfl, ⟨m0, by omega⟩, _, rfl, p, _, _, 0, rfl, rfl, hp, rfl, ?_⟩
    refine ⟨_, rfl, ?_⟩
    exact hq _ _ hide_upd ⟨_, _, _, upd_same, b0, b1, c0, by omega⟩ (Int.emod_nonneg _ (by omega)) (Int.emod_lt_of_pos _ m0)
  · refine ⟨_, rfl, m, rfl, _, _, rfl, rfl, ⟨by decide, by decide⟩, _, _, rfl, rfl, ?_⟩
    have eb := bits_small m0 m1
    refine ⟨1 + ((Builtin.Int.intBits m : Nat) : Int) / 30, rfl, by omega, by omega, for_range (lo := 0) (n := (1 + ((Builtin.Int.intBits m : Nat) : Int) / 30).toNat)
      (fun i σ H' => ∃ (d u : Option V) (z : Int), σ = [some (.ref p), some (.int m), d, some (.int z), u] ∧ ((i = 0 ∧ z = 0 ∧ H' = H) ∨ (i = 1 ∧ hide p H' = hide p H ∧ PurseAt H' p n))) ⟨none, none, 0, rfl, .inl ⟨rfl, rfl, rfl⟩⟩ ?_ ?_⟩
    · rintro i σ H2 hi ⟨d, u, z, rfl, q⟩
      rcases q with ⟨rfl, rfl, rfl⟩ | ⟨rfl, _⟩
      · refine ⟨_, rfl, p, _, _, .int c, rfl, rfl, .of hp, rfl, _, _, rfl, rfl, _, rfl, p, _, _, 2, rfl, rfl, hp, rfl, ?_⟩
        refine ⟨_, rfl, _, _, rfl, rfl, .inr ⟨by decide, by decide⟩, ?_⟩
        refine ⟨_, rfl, p, _, _, .int b, rfl, rfl, .of upd_same, rfl, _, rfl, p, _, _, .int (c + 1), rfl, rfl, .of upd_same, rfl, ?_⟩
        refine ⟨b, c + 1, rfl, b0, b1, by omega, by omega, fun i => ⟨_, _, rfl, rfl, ?_⟩⟩
        exact ⟨_, _, _, rfl, .inr ⟨rfl, hide_upd, _, _, _, upd_same, b0, b1, by omega, by omega⟩⟩
      · omega
    · rintro σ H2 ⟨d, u, z, rfl, q⟩
      rcases q with ⟨h0, _⟩ | ⟨_, hh, pu⟩
      · omega
      · exact ⟨_, rfl, .inl ⟨_, rfl, _, rfl, _, _, rfl, rfl, m0, hq _ _ hh pu (Int.emod_nonneg _ (by omega)) (Int.emod_lt_of_pos _ m0)⟩⟩
end
/-! ### small data -/
def leafOk : PyData → Bool
  | .none | .bool _ => true
  | .int i => decide (i.natAbs < 2 ^ 100)
  | .str z => decide (z.cps.size ≤ 100) && z.cps.all (· < 0x110000)
  | _ => false
def okD : Nat → PyData → Bool
  | n + 1, .tuple ds => decide (ds.length ≤ 9) && ds.all (okD n)
  | n + 1, .list ds => decide (ds.length ≤ 9) && ds.all (okD n)
  | _, d => leafOk d
theorem okD_leaf {d : PyData} (h : leafOk d = true) : ∀ n, okD n d = true
  | 0 => by
    unfold okD
    exact h
  | n + 1 => by
    cases d with
    | tuple ds => cases h
    | list ds => cases h
    | _ => exact h
theorem okD_up : ∀ (n : Nat) (d : PyData), okD n d = true → okD (n + 1) d = true
  | 0, d, h => okD_leaf (show leafOk d = true from h) 1
  | n + 1, .tuple ds, h => by
    have h' : (decide (ds.length ≤ 9) && ds.all (okD n)) = true := h
    show (decide (ds.length ≤ 9) && ds.all (okD (n + 1))) = true
    rw [Bool.and_eq_true, List.all_eq_true] at h' ⊢
    exact ⟨h'.1, fun d hd => okD_up n d (h'.2 d hd)⟩
  | n + 1, .list ds, h => by
    have h' : (decide (ds.length ≤ 9) && ds.all (okD n)) = true := h
    show (decide (ds.length ≤ 9) && ds.all (okD (n + 1))) = true
    rw [Bool.and_eq_true, List.all_eq_true] at h' ⊢
    exact ⟨h'.1, fun d hd => okD_up n d (h'.2 d hd)⟩
  | n + 1, .none, h => h
  | n + 1, .bool _, h => h
  | n + 1, .int _, h => h
  | n + 1, .str _, h => h
  | n + 1, .dict _, h => h
theorem okD_tup {n : Nat} {ds : List PyData} : okD (n + 1) (.tuple ds) = true ↔ ds.length ≤ 9 ∧ ∀ d ∈ ds, okD n d = true := by
  show (decide (ds.length ≤ 9) && ds.all (okD n)) = true ↔ _
  rw [Bool.and_eq_true, List.all_eq_true, decide_eq_true_eq]
theorem okD_lst {n : Nat} {ds : List PyData} : okD (n + 1) (.list ds) = true ↔ ds.length ≤ 9 ∧ ∀ d ∈ ds, okD n d = true := by
  show (decide (ds.length ≤ 9) && ds.all (okD n)) = true ↔ _
  rw [Bool.and_eq_true, List.all_eq_true, decide_eq_true_eq]
def lim : Nat → Nat
  | 0 => 101
  | n + 1 => 9 * (lim n + 1) + 101
theorem leaf_all {d : PyData} (h : leafOk d = true) : d.weight ≤ 101 ∧ d.canLay0 = true ∧ d.depth = 0 := by
  cases d with
  | none => exact ⟨by decide, rfl, rfl⟩
  | bool b => exact ⟨by show 0 ≤ 101; decide, rfl, rfl⟩
  | int i =>
    have h' : i.natAbs < 2 ^ 100 := of_decide_eq_true h
    refine ⟨?_, rfl, rfl⟩
    show (if i == 0 then 0 else i.natAbs.log2 + 1) ≤ 101
    have l := PySem.Flt.log2_lt_of (by decide) h'
    split <;> omega
  | str z =>
    have h' : (decide (z.cps.size ≤ 100) && z.cps.all (· < 0x110000)) = true := h
    rw [Bool.and_eq_true, decide_eq_true_eq] at h'
    exact ⟨by show z.cps.size ≤ 101; omega, h'.2, rfl⟩
  | list _ => cases h
  | tuple _ => cases h
  | dict _ => cases h
theorem rows_all {B D : Nat} : ∀ {ds : List PyData}, (∀ d ∈ ds, d.weight ≤ B ∧ d.canLay0 = true ∧ d.depth ≤ D) →
    PyData.weightAll ds ≤ ds.length * (B + 1) ∧ PyData.canLayAll0 ds = true ∧ PyData.depthAll ds ≤ D
  | [], _ => ⟨Nat.zero_le _, rfl, Nat.zero_le _⟩
  | d :: ds, h => by
    obtain ⟨a1, a2, a3⟩ := h d (List.mem_cons_self ..)
    obtain ⟨b1, b2, b3⟩ := rows_all (ds := ds) fun e he => h e (List.mem_cons_of_mem _ he)
    refine ⟨?_, ?_, ?_⟩
    · show d.weight + 1 + PyData.weightAll ds ≤ (ds.length + 1) * (B + 1)
      rw [Nat.succ_mul]
      omega
    · show (d.canLay0 && PyData.canLayAll0 ds) = true
      rw [a2, b2]
      rfl
    · show max d.depth (PyData.depthAll ds) ≤ D
      omega
theorem okD_of_leaf {n : Nat} {d : PyData} (h : leafOk d = true) : d.weight ≤ lim (n + 1) ∧ d.canLay0 = true ∧ d.depth ≤ n + 1 := by
  obtain ⟨a, b, c⟩ := leaf_all h
  refine ⟨?_, b, by omega⟩
  show _ ≤ 9 * (lim n + 1) + 101
  omega
theorem okD_all : ∀ (n : Nat) (d : PyData), okD n d = true → d.weight ≤ lim n ∧ d.canLay0 = true ∧ d.depth ≤ n
  | 0, d, h => by
    obtain ⟨a, b, c⟩ := leaf_all (show leafOk d = true from h)
    exact ⟨a, b, by omega⟩
  | n + 1, .tuple ds, h => by
    obtain ⟨h1, h2⟩ := okD_tup.mp h
    obtain ⟨b1, b2, b3⟩ := rows_all (B := lim n) (D := n) fun d hd => okD_all n d (h2 d hd)
    refine ⟨?_, b2, ?_⟩
    · show PyData.weightAll ds ≤ 9 * (lim n + 1) + 101
      have := Nat.mul_le_mul_right (lim n + 1) h1
      omega
    · show PyData.depthAll ds + 1 ≤ n + 1
      omega
  | n + 1, .list ds, h => by
    obtain ⟨h1, h2⟩ := okD_lst.mp h
    obtain ⟨b1, b2, b3⟩ := rows_all (B := lim n) (D := n) fun d hd => okD_all n d (h2 d hd)
    refine ⟨?_, b2, ?_⟩
    · show PyData.weightAll ds ≤ 9 * (lim n + 1) + 101
      have := Nat.mul_le_mul_right (lim n + 1) h1
      omega
    · show PyData.depthAll ds + 1 ≤ n + 1
      omega
  | n + 1, .none, h => okD_of_leaf h
  | n + 1, .bool b, h => okD_of_leaf h
  | n + 1, .int i, h => okD_of_leaf h
  | n + 1, .str z, h => okD_of_leaf h
  | n + 1, .dict z, h => okD_of_leaf h
/-- as the law's data are: four deep at most -/
abbrev Fine (d : PyData) : Prop := okD 4 d = true
theorem Fine.weight {d : PyData} (h : Fine d) : d.weight ≤ 1000000 := Nat.le_trans (okD_all 4 d h).1 (by decide)
theorem Fine.shaped {d : PyData} (h : Fine d) : SeqAt.shaped d = true := by
  obtain ⟨_, b, c⟩ := okD_all 4 d h
  show (d.canLay0 && decide (d.depth ≤ 64)) = true
  rw [b, decide_eq_true (by omega)]
  rfl
theorem Fine.sub {ds : List PyData} (h : Fine (.tuple ds)) {d : PyData} (hd : d ∈ ds) : Fine d := okD_up 3 d ((okD_tup.mp h).2 d hd)
theorem Fine.shaped_lay {d : PyData} (h : Fine d) : d.canLay0 = true := (okD_all 4 d h).2.1
end K30

namespace K30
open PySem PySem.Spec PyProof.Rows L2 Vk
/-! ### drawn layouts -/
abbrev Row := Int × Str
def rowD (r : Row) : PyData := .tuple [.int r.1, .str r.2]
def rowsD (rs : List Row) : PyData := .tuple (rs.map rowD)
def okZ (z : Str) : Prop := z.cps.toList.all signOk = true ∧ leafOk (.str z) = true
structure GoodRow (r : Row) : Prop where
  lo : 0 ≤ r.1
  hi : r.1 ≤ 1000
  z : okZ r.2
structure GoodRows (rs : List Row) : Prop where
  ne : rs ≠ []
  all : ∀ r ∈ rs, GoodRow r
  head : (rs.headD (0, "")).1 = 0
  len : rs.length ≤ 8
def spLayout (K : PySem.W.Frag) : Sp := fun vs H Q _ => ∃ (p : Addr) (n : Nat), vs = [.ref p] ∧ PurseAt H p (n + 20) ∧
  ∀ (H' : Hp) (v : V) (rs : List Row), Same (hide p H) (hide p H') → PurseAt H' p n → Dp K (hide p H') v (rowsD rs) → GoodRows rs → Q v H'
def wordsOf : List Str := ["", "a", "ab", "row of words", strRep "~" 30, "x y"]
theorem okZs : ∀ z ∈ wordsOf, okZ z := by
  have h : (wordsOf.all fun z => z.cps.toList.all signOk && leafOk (.str z)) = true := by decide +kernel
  intro z hz
  have q := List.all_eq_true.mp h z hz
  rw [Bool.and_eq_true] at q
  exact q
theorem GoodRows.more {rs : List Row} {r : Row} (h : GoodRows rs) (hr : GoodRow r) (l : rs.length ≤ 7) : GoodRows (rs ++ [r]) := by
  refine ⟨by simp, fun e he => ?_, ?_, by simp; omega⟩
  · rcases List.mem_append.mp he with he | he
    · exact h.all e he
    · rw [List.mem_singleton.mp he]
      exact hr
  · obtain ⟨d, ds, rfl⟩ := List.exists_cons_of_ne_nil h.ne
    exact h.head
theorem strs_dp {K : PySem.W.Frag} {H : Hp} : ∀ zs : List Str, DpAll K H (zs.map V.str) (zs.map PyData.str)
  | [] => .nil
  | z :: zs => .cons (.str z) (strs_dp zs)
theorem pickS {K : PySem.W.Frag} {H2 : Hp} {l : Addr} {zs : List Str} {i : Int} {Q : VK} (hl : H2 l = some (.lst (zs.map V.str))) (h0 : 0 ≤ i) (h1 : i < (zs.length : Int)) (q : ∀ z, z ∈ zs → Q (.str z) H2) : rIxL K (.ref l) (.int i) H2 Q := by
  obtain ⟨v, e1, e2⟩ := atI_in (xs := zs.map V.str) h0 (by rw [List.length_map]; exact h1)
  obtain ⟨z, hz, rfl⟩ := List.mem_map.mp e2
  exact ⟨l, _, i, _, rfl, rfl, .of hl, e1, q z hz⟩
theorem hide2_upd {p f : Addr} {H : Hp} {o : HO} : hide f (hide p (upd H f o)) = hide f (hide p H) := by
  funext b
  by_cases hb : b = f
  · rw [hb, hide_at, hide_at]
  · rw [hide_ne hb, hide_ne hb]
    by_cases hp : b = p
    · rw [hp, hide_at, hide_at]
    · rw [hide_ne hp, hide_ne hp, upd_ne hb]
theorem rowsAll {K : PySem.W.Frag} {H : Hp} {vs : List V} {rs : List Row} {u : V} {r : Row} : DpAll K H vs (rs.map rowD) → Dp K H u (rowD r) → DpAll K H (vs ++ [u]) ((rs ++ [r]).map rowD) := fun h g => by
  rw [List.map_append]
  exact DpAll.append h (.cons g .nil)
section
variable {P : Program} {w : World} {K : PySem.W.Frag} {mg : Str → Option Value} {base : Heap} {k : Nat}
theorem ok_layout (T : Tx K mg) (G_l_draw : FnOk P w K mg base CX0 k T.a_l_draw T.d_l_draw P_l_draw spDraw) :
    FnOk P w K mg base CX0 (k + 1) T.a_l_layout T.d_l_layout P_l_layout (spLayout K) := by
  refine T.F_l_layout.ok sc_l_layout (fun vs H Q E h => ?_) (fun cdv A outer s H vs Q E hr h => ?_)
  · obtain ⟨p, n, rfl, _⟩ := h
    rfl
  obtain ⟨p, n, rfl, hp, hq⟩ := h
  refine ⟨_, (pss_cons (ps_set (i := 1) sc_l_layout.nd rfl (Or.inl rfl) (pe_lst (pa_cons pe_str (pa_cons pe_str (pa_cons pe_str (pa_cons pe_str (pa_cons (pe_op op_repS pe_str pe_int) (pa_cons pe_str pa_nil))))))))
(pss_cons (ps_set (i := 2) sc_l_layout.nd rfl (Or.inl rfl) (pe_lst (pa_cons (pe_tup (pa_cons pe_int (pa_cons (pe_ix ix_list (pv 1) (pe_call G_l_draw hr rfl T.m_l_draw T.F_l_draw.kp T.b_l_draw .nil pass0 (pa_cons (pv 0) (pa_cons pe_int pa_nil))) (fun _ _ => rfl)) pa_nil))) pa_nil)))
(pss_cons (ps_for PassesOwn.never rfl (pi_range1 rfl T.z_range (pa_cons (pe_call G_l_draw hr rfl T.m_l_draw T.F_l_draw.kp T.b_l_draw .nil pass0 (pa_cons (pv 0) (pa_cons pe_int pa_nil))) pa_nil)) (pg_name (i := 3) sc_l_layout.nd rfl (Or.inl rfl))
(pss_one (ps_expr (pe_bm PySem.F.plainAttrs_list PySem.F.slot_list_append PySem.F.type_list_append mt_append (pv 2) (pa_cons (pe_tup (pa_cons (pe_call G_l_draw hr rfl T.m_l_draw T.F_l_draw.kp T.b_l_draw .nil pass0 (pa_cons (pv 0) (pa_cons pe_int pa_nil))) (pa_cons (pe_ix ix_list (pv 1) (pe_call G_l_draw hr rfl T.m_l_draw T.F_l_draw.kp T.b_l_draw .nil pass0 (pa_cons (pv 0) (pa_cons pe_int pa_nil))) (fun _ _ => rfl)) pa_nil))) pa_nil)))))
(pss_one (ps_ret (pe_callTy call_tuple_of rfl T.z_tuple (by decide +kernel) (pa_cons (pv 2) pa_nil))))))), ?_⟩
  refine ⟨_, _, rfl, rfl, by decide, by decide, by decide, (by show 6 ≤ sizeLine; decide), fun l hl => ?_⟩
  have hl0 : upd H l (.lst (wordsOf.map V.str)) l = some (.lst (wordsOf.map V.str)) := upd_same
  have nl : l ≠ p := (hp.ne hl).symm
  refine ⟨_, rfl, _, rfl, p, 6, n + 19, rfl, hp.new hl, by decide, by decide, fun H1 d hh pu d0 d1 => ?_⟩
  have hl1 : H1 l = some (.lst (wordsOf.map V.str)) := (hide_get hh nl).trans hl0
  refine pickS hl1 d0 d1 fun z hz => ?_
  refine ⟨(by show 2 ≤ sizeLine; decide), fun t ht => ⟨(by show 1 ≤ sizeLine; decide), fun f hf => ?_⟩⟩
  have nf : f ≠ p := (PurseAt.ne (pu.new (o := .tup [.int 0, .str z]) ht) hf).symm
  have s1 : Same (hide p H) (hide p H1) := (hs_new hl).trans (same_eq hh)
  have nfH : ∀ b o, hide p H b = some o → b ≠ f := fun b o e zz => by
    have q := (s1.trans (hs_new (o := .tup [.int 0, .str z]) ht)) b o e
    rw [zz, hide_ne nf, hf] at q
    cases q
  have pt := pu.new (o := .tup [.int 0, .str z]) ht
  have pf := pt.new (o := .lst [.ref t]) hf
  have s2 : Same (hide p H) (hide p (upd (upd H1 t (.tup [.int 0, .str z])) f (.lst [.ref t]))) := s1.trans ((hs_new ht).trans (hs_new hf))
  have lf : f ≠ l := fun e => by
    rw [e, upd_ne (fun z => by rw [z, ht] at hl1; cases hl1), hl1] at hf
    cases hf
  have hl2 : upd (upd H1 t (.tup [.int 0, .str z])) f (.lst [.ref t]) l = some (.lst (wordsOf.map V.str)) := by
    rw [upd_ne (Ne.symm lf), upd_ne (fun z => by rw [z, ht] at hl1; cases hl1), hl1]
  have d2 : DpAll K (hide f (hide p (upd (upd H1 t (.tup [.int 0, .str z])) f (.lst [.ref t])))) [.ref t] ([((0 : Int), z)].map rowD) := by
    have g := tup_new (K := K) pu ht (.cons (.int 0) (.cons (.str z) .nil))
    have hf' : hide p (upd H1 t (.tup [.int 0, .str z])) f = none := by
      rw [hide_ne nf]
      exact hf
    rw [hide2_upd]
    have e : hide f (hide p (upd H1 t (.tup [.int 0, .str z]))) = hide p (upd H1 t (.tup [.int 0, .str z])) := by
      funext b
      by_cases hb : b = f
      · rw [hb, hide_at, hf']
      · rw [hide_ne hb]
    rw [e]
    exact .cons g .nil
  have hf2 : upd (upd H1 t (.tup [.int 0, .str z])) f (.lst [.ref t]) f = some (.lst [.ref t]) := upd_same
  generalize hG : upd (upd H1 t (.tup [.int 0, .str z])) f (.lst [.ref t]) = G at pf s2 hl2 d2 hf2 ⊢
  refine ⟨_, rfl, p, 5, n + 18, rfl, pf, by decide, by decide, fun H3 d3 hh3 pu3 e0 e1 => ⟨d3, rfl, by omega, by omega, for_range (lo := 0) (n := d3.toNat)
    (fun i σ H' => ∃ (vs : List V) (rs : List Row) (t : Option V), σ = [some (.ref p), some (.ref l), some (.ref f), t] ∧ H' l = some (.lst (wordsOf.map V.str)) ∧ H' f = some (.lst vs) ∧
      DpAll K (hide f (hide p H')) vs (rs.map rowD) ∧ GoodRows rs ∧ rs.length ≤ i + 1 ∧ PurseAt H' p (n + (18 - 2 * i)) ∧ Same (hide p H) (hide p H'))
    ⟨_, _, none, rfl, (hide_get hh3 nl).trans hl2, (hide_get hh3 nf).trans hf2, by rw [hh3]; exact d2, ⟨by simp, fun r hr => ?_, rfl, by simp⟩, by simp, pu3, s2.trans (same_eq hh3)⟩ ?_ ?_⟩⟩
  · rw [List.mem_singleton.mp hr]
    exact ⟨(by show (0 : Int) ≤ 0; decide), (by show (0 : Int) ≤ 1000; decide), okZs z hz⟩
  · rintro i σ H4 hi ⟨vs, rs, t4, rfl, hl4, hf4, dp4, g4, l4, pu4, s4⟩
    refine ⟨_, rfl, .inl ⟨rfl, _, .of hf4⟩, _, rfl, p, 10, n + (17 - 2 * i), rfl, pu4.less (by omega), by decide, by decide, fun H5 j hh5 pu5 j0 j1 => ?_⟩
    refine ⟨_, rfl, _, rfl, p, 6, n + (16 - 2 * i), rfl, pu5.less (by omega), by decide, by decide, fun H6 e hh6 pu6 f0 f1 => ?_⟩
    have h46 : hide p H6 = hide p H4 := hh6.trans hh5
    refine pickS ((hide_get h46 nl).trans hl4) f0 f1 fun z6 hz6 => ?_
    refine ⟨(by show 2 ≤ sizeLine; decide), fun q1 hq1 => ?_⟩
    have hf6 : H6 f = some (.lst vs) := (hide_get h46 nf).trans hf4
    have hl6 : H6 l = some (.lst (wordsOf.map V.str)) := (hide_get h46 nl).trans hl4
    have q1f : f ≠ q1 := ne_of_none hf6 hq1
    have q1l : l ≠ q1 := ne_of_none hl6 hq1
    have q1p : q1 ≠ p := (pu6.ne hq1).symm
    have lvs : vs.length = rs.length := by rw [DpAll.length dp4, List.length_map]
    have l8 := g4.len
    refine ⟨f, vs, .ref q1, rfl, rfl, by rw [upd_ne q1f, hf6], Nat.lt_of_lt_of_le (m := 1000) (by omega) (by decide), ?_⟩
    refine ⟨_, rs ++ [(j, z6)], _, rfl, by rw [upd_ne (Ne.symm lf), upd_ne q1l, hl6], upd_same, ?_, g4.more ⟨j0, (by show j ≤ 1000; omega), okZs z6 hz6⟩ (by omega), by simp; omega, ?_, ?_⟩
    · rw [hide2_upd]
      have s6 : Same (hide f (hide p H4)) (hide f (hide p (upd H6 q1 (.tup [.int j, .str z6])))) := by
        rw [← h46]
        exact Same.hide (hs_new hq1)
      refine rowsAll (DpAll.same s6 dp4) (.tup (.of ?_) (.cons (.int j) (.cons (.str z6) .nil)))
      rw [hide_ne (Ne.symm q1f), hide_ne q1p, upd_same]
    · obtain ⟨a, b, c, hp6, r6⟩ := pu6
      exact ⟨a, b, c, by rw [upd_ne (Ne.symm nf), upd_ne (Ne.symm q1p), hp6], by omega⟩
    · intro b o e0
      have eb := s4 b o e0
      have s7 : hide p (upd H6 q1 (.tup [.int j, .str z6])) b = some o := hs_new hq1 b o (by rw [h46]; exact eb)
      rw [hide_out nf, upd_ne (nfH b o e0)]
      exact s7
  · rintro σ H4 ⟨vs, rs, t4, rfl, hl4, hf4, dp4, g4, l4, pu4, s4⟩
    refine ⟨_, rfl, f, vs, rfl, .inl ⟨.of hf4, fun r hr => ?_⟩⟩
    have sr : Same (hide f (hide p H4)) (hide p (upd H4 r (.tup vs))) := hide_same.trans (hs_new hr)
    exact hq _ _ rs (s4.trans (hs_new hr)) ((pu4.new hr).less (by omega)) (.tup (.of (hide_new pu4 hr)) (DpAll.same sr dp4)) g4
end
end K30

namespace K30
open PySem PySem.Spec PyProof.Rows L2 Vk
/-! ### the law's own cost -/
def endAt (i : Nat) (r : Row) (s d : Int) : Int := (if 0 < i then d + r.1 else s) + (r.2.length : Nat)
def exFold (w s d : Int) : Nat → Int → List Row → Int
  | _, acc, [] => acc
  | i, acc, r :: rs => exFold w s d (i + 1) (acc + max (endAt i r s d - w) 0) rs
def total (w s d : Int) (rs : List Row) : Int := exFold w s d 0 0 rs
def costD (w s d : Int) (rs : List Row) : PyData := .tuple [.int (total w s d rs), .int (rs.length : Nat)]
def spDue (K : PySem.W.Frag) : Sp := fun vs H Q _ => ∃ (v : V) (rs : List Row) (w s d : Int), vs = [v, .int w, .int s, .int d] ∧ Dp K H v (rowsD rs) ∧ (∀ r ∈ rs, r.2.length ≤ 1000000) ∧
  ∀ (u : V) (H' : Hp), Same H H' → Dp K H' u (costD w s d rs) → Q u H'
theorem row_at {K : PySem.W.Frag} {H : Hp} {v : V} {rs : List Row} (h : Dp K H v (rowsD rs)) : ∃ a xs, v = .ref a ∧ SqT K H a xs ∧ xs.length = rs.length ∧
    ∀ (i : Nat) (y : V), xs[i]? = some y → ∃ (r : Row) (b : Addr), rs[i]? = some r ∧ y = .ref b ∧ SqT K H b [.int r.1, .str r.2] := by
  obtain ⟨a, xs, rfl, hs, ha⟩ := Dp.ofTup h
  have l := DpAll.length ha
  rw [List.length_map] at l
  refine ⟨a, xs, rfl, hs, l, fun i y hy => ?_⟩
  have hi : i < rs.length := by
    rw [← l]
    exact (List.getElem?_eq_some_iff.mp hy).1
  have hr : rs[i]? = some rs[i] := List.getElem?_eq_getElem hi
  have hd : (rs.map rowD)[i]? = some (rowD rs[i]) := by rw [List.getElem?_map, hr]; rfl
  obtain ⟨y', hy', dy⟩ := DpAll.get ha hd
  obtain rfl := Option.some.inj (hy.symm.trans hy')
  obtain ⟨b, ys, rfl, hb, hys⟩ := Dp.ofTup dy
  obtain ⟨y0, y1, rfl, g0, g1⟩ := two_all hys
  obtain rfl := Dp.ofInt g0
  obtain rfl := Dp.ofStr g1
  exact ⟨rs[i], b, hr, rfl, hb⟩
theorem ex_step {w s d acc T : Int} {rs : List Row} {i : Nat} {r : Row} (hr : rs[i]? = some r) (h : exFold w s d i acc (rs.drop i) = T) : exFold w s d (i + 1) (acc + max (endAt i r s d - w) 0) (rs.drop (i + 1)) = T := by
  obtain ⟨hi, e⟩ := List.getElem?_eq_some_iff.mp hr
  rw [List.drop_eq_getElem_cons hi, e] at h
  exact h
theorem max_if {x : Int} : (if (0 : Int) > x then 0 else x) = max x 0 := by
  split <;> omega
section
variable {P : Program} {w : World} {K : PySem.W.Frag} {mg : Str → Option Value} {base : Heap} {k : Nat}
theorem ok_due (T : Tx K mg) : FnOk P w K mg base CX0 (k + 1) T.a_l_due T.d_l_due P_l_due (spDue K) := by
  refine T.F_l_due.ok sc_l_due (fun vs H Q E h => ?_) (fun cdv A outer s H vs Q E hr h => ?_)
  · obtain ⟨v, rs, wd, st, dp, rfl, _⟩ := h
    rfl
  obtain ⟨v, rs, wd, st, dp, rfl, hd, hz, hq⟩ := h
  refine ⟨_, (pss_cons (ps_set (i := 4) sc_l_due.nd rfl (Or.inl rfl) pe_int)
(pss_cons (ps_for PassesOwn.never rfl (pi_enT rfl T.z_enumerate (pa_cons (pv 0) pa_nil)) (pg_tup rfl (pgs_cons (pg_name (i := 5) sc_l_due.nd rfl (Or.inl rfl)) (pgs_cons (pg_tup rfl (pgs_cons (pg_name (i := 6) sc_l_due.nd rfl (Or.inl rfl)) (pgs_cons (pg_name (i := 7) sc_l_due.nd rfl (Or.inl rfl)) pgs_nil))) pgs_nil)))
(pss_cons (ps_set (i := 8) sc_l_due.nd rfl (Or.inl rfl) (pe_op op_add (pe_ix ix_list (pe_lst (pa_cons (pv 2) (pa_cons (pe_op op_add (pv 3) (pv 6)) pa_nil))) (pe_callTy call_int1 rfl T.z_int (by decide +kernel) (pa_cons (pe_cmpR op_gt (pv 5) pe_int (nomark _)) pa_nil)) (fun _ _ => rfl)) (pe_callB call_len rfl T.z_len (by decide +kernel) (pa_cons (pv 7) pa_nil))))
(pss_one (ps_set (i := 4) sc_l_due.nd rfl (Or.inl rfl) (pe_op op_add (pv 4) (pe_callB (call_max2 rfl) rfl T.z_max (by decide +kernel) (pa_cons (pe_op op_sub (pv 8) (pv 1)) (pa_cons pe_int pa_nil))))))))
(pss_one (ps_ret (pe_tup (pa_cons (pv 4) (pa_cons (pe_callB call_len rfl T.z_len (by decide +kernel) (pa_cons (pv 0) pa_nil)) pa_nil))))))), ?_⟩
  obtain ⟨a, xs, rfl, hs, lx, hrow⟩ := row_at hd
  refine ⟨_, rfl, _, _, rfl, hs, for_it walk_enT (fun i σ H' => Same H H' ∧ ∃ (acc : Int) (v1 v2 v3 v4 : Option V), σ = [some (.ref a), some (.int wd), some (.int st), some (.int dp), some (.int acc), v1, v2, v3, v4] ∧ exFold wd st dp i acc (rs.drop i) = total wd st dp rs)
    ⟨.refl _, 0, none, none, none, none, rfl, rfl⟩ (fun i σ H' _ q => Same.seqT q.1 hs) ?_ ?_⟩
  · rintro i x σ H1 H2 hi ⟨s1, acc, v1, v2, v3, v4, rfl, ha⟩ ⟨T1, x1, x2, rfl, hT, rfl, e1, e2⟩
    obtain rfl := Option.some.inj e1
    obtain ⟨r, b, hr1, rfl, hb⟩ := hrow i _ e2
    have s2 : Same H (upd H1 T1 (.tup [.int (i : Nat), .ref b])) := s1.trans (same_new hT)
    refine ⟨T1, _, rfl, .of upd_same, rfl, _, _, rfl, _, _, rfl, b, _, rfl, Same.seqT s2 hb, rfl, _, _, rfl, _, _, rfl, rfl, rfl, ?_⟩
    refine ⟨_, rfl, _, rfl, _, rfl, _, _, rfl, rfl, (by show 2 ≤ sizeLine; decide), fun l hl => ?_⟩
    have s3 : Same H _ := s2.trans (same_new (o := .lst [.int st, .int (dp + r.1)]) hl)
    have hix : atI [V.int st, V.int (dp + r.1)] (if decide ((0 : Int) < (i : Nat)) = true then 1 else 0) = some (.int (if 0 < i then dp + r.1 else st)) := by
      by_cases c : 0 < i
      · rw [if_pos c, if_pos (decide_eq_true (by omega))]
        rfl
      · rw [if_neg c, if_neg (by simpa using c)]
        rfl
    refine ⟨_, rfl, _, _, rfl, rfl, .inr ⟨_, rfl, l, _, _, _, rfl, rfl, .of upd_same, hix, _, rfl, _, _, rfl, ⟨Nat.le_trans (hz r (List.mem_of_getElem? hr1)) (by decide), rfl⟩, _, _, rfl, rfl, ?_⟩⟩
    refine ⟨_, rfl, _, rfl, _, rfl, _, _, rfl, rfl, _, _, rfl, _, _, rfl, rfl, ?_⟩
    refine ⟨s3, _, _, _, _, _, rfl, ?_⟩
    rw [max_if]
    exact ex_step hr1 ha
  · rintro σ H1 ⟨s1, acc, v1, v2, v3, v4, rfl, ha⟩
    rw [List.drop_of_length_le (by omega)] at ha
    have ha' : acc = total wd st dp rs := ha
    subst ha'
    refine ⟨_, rfl, _, rfl, _, _, rfl, .inr ⟨_, Same.seqT s1 hs, rfl⟩, (by show 2 ≤ sizeLine; decide), fun p hp => ?_⟩
    refine hq _ _ (s1.trans (same_new hp)) ?_
    unfold costD
    rw [← lx]
    exact .tup (.of upd_same) (.cons (.int _) (.cons (.int _) .nil))
end
end K30

namespace K30
open PySem PySem.Spec PyProof.Rows L2 Vk
/-! ### what cost_of promises, and what the law is told -/
/-- an error of the class at C with the field f that is v -/
def Out (E : XK) (C : Addr) (f : Str) (v : V) (H' : Hp) : Prop := ∀ dd, H' dd = none → E (.ref C) (some dd) (upd H' dd (.xd [(f, v)]))
def rowOf : PyData → Row
  | .tuple [.int i, .str z] => (i, z)
  | _ => (0, "")
def rowsOf : PyData → List Row
  | .tuple ds => ds.map rowOf
  | _ => []
def intOf : PyData → Int
  | .int i => i
  | _ => 0
def costP (d dw dc di : PyData) : PyData := costD (intOf dw) (intOf dc) (intOf di) (rowsOf d)
structure Cost (K : PySem.W.Frag) (CL CW CP : Addr) (v wv cv iv : V) (d dw dc di : PyData) (H : Hp) (Q : VK) (E : XK) : Prop where
  hd : Dp K H v d
  hw : d.weight ≤ 1000000
  w : Dp K H wv dw
  c : Dp K H cv dc
  i : Dp K H iv di
  el : checkD d ≠ .none → ∀ H' u, Same H H' → Dp K H' u (checkD d) → Out E CL "problem" u H'
  ew : checkD d = .none → wholeD dw = false → ∀ H', Same H H' → Out E CW "value" wv H'
  ec : checkD d = .none → wholeD dw = true → wholeD dc = false → ∀ H', Same H H' → Out E CP "value" cv H'
  ei : checkD d = .none → wholeD dw = true → wholeD dc = true → wholeD di = false → ∀ H', Same H H' → Out E CP "value" iv H'
  ok : checkD d = .none → wholeD dw = true → wholeD dc = true → wholeD di = true → ∀ H' u, Same H H' → Dp K H' u (costP d dw dc di) → Q u H'
def spCost (K : PySem.W.Frag) (CL CW CP : Addr) : Sp := fun vs H Q E => ∃ (v wv cv iv : V) (d dw dc di : PyData), vs = [v, wv, cv, iv] ∧ Cost K CL CW CP v wv cv iv d dw dc di H Q E
def toldD (d dw dc di : PyData) : PyData := match checkD d with
  | .none => if wholeD dw = false then .list [.str "width", dw] else if wholeD dc = false then .list [.str "place", dc] else if wholeD di = false then .list [.str "place", di] else .list [.str "told", costP d dw dc di]
  | p => .list [.str "layout", p]
def spTold (K : PySem.W.Frag) : Sp := fun vs H Q _ => ∃ (v wv cv iv : V) (d dw dc di : PyData), vs = [v, wv, cv, iv] ∧ Dp K H v d ∧ d.weight ≤ 1000000 ∧ Dp K H wv dw ∧ Dp K H cv dc ∧ Dp K H iv di ∧
  ∀ u H', Same H H' → Dp K H' u (toldD d dw dc di) → Q u H'
theorem toldD_bad {d dw dc di : PyData} (h : checkD d ≠ .none) : toldD d dw dc di = .list [.str "layout", checkD d] := by
  unfold toldD
  split
  · rename_i e
    exact absurd e h
  · rfl
theorem toldD_ok {d dw dc di : PyData} (h : checkD d = .none) : toldD d dw dc di = if wholeD dw = false then .list [.str "width", dw] else if wholeD dc = false then .list [.str "place", dc] else if wholeD di = false then .list [.str "place", di] else .list [.str "told", costP d dw dc di] := by
  unfold toldD
  rw [h]
theorem kept {H' : Hp} {dd a : Addr} {cls : Value} {fs : List (Str × V)} (hdd : H' dd = none) (ha : upd H' dd (.xd fs) a = none) :
    upd (upd H' dd (.xd fs)) a (Vk.CE cls (some dd) a) a = some (Vk.CE cls (some dd) a) ∧ upd (upd H' dd (.xd fs)) a (Vk.CE cls (some dd) a) dd = some (.xd fs) ∧ Same H' (upd (upd H' dd (.xd fs)) a (Vk.CE cls (some dd) a)) := by
  have ne : dd ≠ a := fun e => by
    rw [← e, upd_same] at ha
    cases ha
  exact ⟨upd_same, by rw [upd_ne ne, upd_same], (same_new hdd).trans (same_new ha)⟩
theorem ref_non {a : Addr} : decide (V.ref a = V.non) = false := rfl
section
variable {P : Program} {w : World} {K : PySem.W.Frag} {mg : Str → Option Value} {base : Heap} {k : Nat}
theorem ok_told (T : Tx K mg) (G_cost_of : FnOk P w K mg base (L2.CX P w) k T.a_cost_of T.d_cost_of P_cost_of (spCost K T.e_InvalidLayout.C T.e_InvalidWidth.C T.e_InvalidPlace.C)) :
    FnOk P w K mg base CX0 (k + 1) T.a_l_told T.d_l_told P_l_told (spTold K) := by
  obtain ⟨mv, kb_cost_of_1_width_column_indent⟩ := T.kb_cost_of_1_width_column_indent
  refine T.F_l_told.ok sc_l_told (fun vs H Q E h => ?_) (fun cdv A outer s H vs Q E hr h => ?_)
  · obtain ⟨v, wv, cv, iv, d, dw, dc, di, rfl, _⟩ := h
    rfl
  obtain ⟨v, wv, cv, iv, d, dw, dc, di, rfl, hd, hw, h1, h2, h3, hq⟩ := h
  refine ⟨_, (pss_cons (ps_set (i := 4) sc_l_told.nd rfl (Or.inl rfl) pe_non)
(pss_cons (ps_set (i := 5) sc_l_told.nd rfl (Or.inl rfl) pe_non)
(pss_cons (ps_try_asK (i := 6) (Wout := (fun _ _ _ _ => False)) rfl rfl sc_l_told.nd rfl rfl ⟨rfl, by decide, Or.inl T.m_LayoutError⟩ takes0 rfl (fun W pn xe tk pown => (pss_one (ps_set (i := 5) sc_l_told.nd rfl (Or.inl rfl) (pe_callNS G_cost_of hr rfl T.m_cost_of T.F_cost_of.kp kb_cost_of_1_width_column_indent (fun σ => passAt tk σ) (pa_cons (pv 0) pa_nil) (pk_cons (pv 1) (pk_cons (pv 2) (pk_cons (pv 3) pk_nil)))))))
(fun a oe cls d pn hz hf => (pss_one (ps_set (i := 4) sc_l_told.nd rfl (Or.inl rfl) (pv 6)))))
(pss_cons (ps_if (pt_cmpR op_isN (pv 4) pe_non (nomark _))
(pss_one (ps_ret (pe_lst (pa_cons pe_str (pa_cons (pv 5) pa_nil)))))
pss_nil)
(pss_cons (ps_if (pt_val (pe_callB call_isK rfl T.z_isinstance (by decide +kernel) (pa_cons (pv 4) (pa_cons (pe_glob (v := .ref T.e_InvalidLayout.C) rfl T.e_InvalidLayout.m rfl) pa_nil))))
(pss_one (ps_ret (pe_lst (pa_cons pe_str (pa_cons (pe_xfK T.e_InvalidLayout.xf T.e_InvalidLayout.no (pv 4)) pa_nil)))))
pss_nil)
(pss_cons (ps_if (pt_val (pe_callB call_isK rfl T.z_isinstance (by decide +kernel) (pa_cons (pv 4) (pa_cons (pe_glob (v := .ref T.e_InvalidWidth.C) rfl T.e_InvalidWidth.m rfl) pa_nil))))
(pss_one (ps_ret (pe_lst (pa_cons pe_str (pa_cons (pe_xfK T.e_InvalidWidth.xf T.e_InvalidWidth.no (pv 4)) pa_nil)))))
pss_nil)
(pss_one (ps_ret (pe_ix ix_list (pe_lst (pa_cons (pe_lst (pa_cons pe_str (pa_cons pe_non pa_nil))) (pa_cons (pe_lst (pa_cons pe_str (pa_cons (pe_xfK T.e_InvalidPlace.xf T.e_InvalidPlace.no (pv 4)) pa_nil))) pa_nil))) (pe_callTy call_int1 rfl T.z_int (by decide +kernel) (pa_cons (pe_callB call_isK rfl T.z_isinstance (by decide +kernel) (pa_cons (pv 4) (pa_cons (pe_glob (v := .ref T.e_InvalidPlace.C) rfl T.e_InvalidPlace.m rfl) pa_nil))) pa_nil)) (fun _ _ => rfl)))))))))), ?_⟩
  refine ⟨_, rfl, _, rfl, _, rfl, _, rfl, rfl, rfl, v, wv, cv, iv, d, dw, dc, di, rfl, hd, hw, h1, h2, h3, ?_, ?_, ?_, ?_, ?_⟩
  · intro c H' u s' du dd hdd
    refine ⟨true, T.ex_InvalidLayout, fun _ a ha => ?_, fun q => Bool.noConfusion q⟩
    obtain ⟨cE, xE, sE⟩ := kept hdd ha (cls := .ref T.e_InvalidLayout.C)
    refine ⟨_, rfl, _, rfl, rfl, _, rfl, iteF ?_⟩
    refine ⟨_, rfl, a, _, dd, _, _, _, true, rfl, cE, xE, T.e_InvalidLayout.ec, fun u r => r, T.ki_InvalidLayout_InvalidLayout, _, rfl, iteT ?_⟩
    refine ⟨_, rfl, a, dd, _, u, rfl, cE, xE, rfl, (by show 2 ≤ sizeLine; decide), fun p hp => ?_⟩
    refine hq _ _ (s'.trans (sE.trans (same_new hp))) ?_
    rw [toldD_bad c]
    exact .lst (.of upd_same) (.cons (.str _) (.cons (Dp.same (sE.trans (same_new hp)) du) .nil))
  · intro c cw H' s' dd hdd
    refine ⟨true, T.ex_InvalidWidth, fun _ a ha => ?_, fun q => Bool.noConfusion q⟩
    obtain ⟨cE, xE, sE⟩ := kept hdd ha (cls := .ref T.e_InvalidWidth.C)
    refine ⟨_, rfl, _, rfl, rfl, _, rfl, iteF ?_⟩
    refine ⟨_, rfl, a, _, dd, _, _, _, false, rfl, cE, xE, T.e_InvalidWidth.ec, fun u r => r, T.ki_InvalidWidth_InvalidLayout, _, rfl, iteF ?_⟩
    refine ⟨_, rfl, a, _, dd, _, _, _, true, rfl, cE, xE, T.e_InvalidWidth.ec, fun u r => r, T.ki_InvalidWidth_InvalidWidth, _, rfl, iteT ?_⟩
    refine ⟨_, rfl, a, dd, _, wv, rfl, cE, xE, rfl, (by show 2 ≤ sizeLine; decide), fun p hp => ?_⟩
    refine hq _ _ (s'.trans (sE.trans (same_new hp))) ?_
    rw [toldD_ok c, if_pos cw]
    exact .lst (.of upd_same) (.cons (.str _) (.cons (Dp.same (s'.trans (sE.trans (same_new hp))) h1) .nil))
  · intro c cw cc H' s' dd hdd
    refine ⟨true, T.ex_InvalidPlace, fun _ a ha => ?_, fun q => Bool.noConfusion q⟩
    obtain ⟨cE, xE, sE⟩ := kept hdd ha (cls := .ref T.e_InvalidPlace.C)
    refine ⟨_, rfl, _, rfl, rfl, _, rfl, iteF ?_⟩
    refine ⟨_, rfl, a, _, dd, _, _, _, false, rfl, cE, xE, T.e_InvalidPlace.ec, fun u r => r, T.ki_InvalidPlace_InvalidLayout, _, rfl, iteF ?_⟩
    refine ⟨_, rfl, a, _, dd, _, _, _, false, rfl, cE, xE, T.e_InvalidPlace.ec, fun u r => r, T.ki_InvalidPlace_InvalidWidth, _, rfl, iteF ?_⟩
    refine ⟨(by show 2 ≤ sizeLine; decide), fun l1 hl1 => ?_⟩
    have n1 := same_new (o := .lst [.str "other", .non]) hl1
    refine ⟨_, rfl, a, dd, _, cv, rfl, n1 _ _ cE, n1 _ _ xE, rfl, (by show 2 ≤ sizeLine; decide), fun l2 hl2 => ⟨(by show 2 ≤ sizeLine; decide), fun l3 hl3 => ?_⟩⟩
    have n2 := n1.trans (same_new (o := .lst [.str "place", cv]) hl2)
    have n3 := n2.trans (same_new (o := .lst [.ref l1, .ref l2]) hl3)
    have g2 := same_new (o := .lst [.ref l1, .ref l2]) hl3 _ _ (upd_same (a := l2) (o := .lst [.str "place", cv]))
    refine ⟨_, rfl, a, _, dd, _, _, _, true, rfl, n3 _ _ cE, n3 _ _ xE, T.e_InvalidPlace.ec, fun u r => r, T.ki_InvalidPlace_InvalidPlace, .inr ⟨_, rfl, l3, _, _, .ref l2, rfl, rfl, .of upd_same, rfl, ?_⟩⟩
    refine hq _ _ (s'.trans (sE.trans n3)) ?_
    rw [toldD_ok c, if_neg (by rw [cw]; decide), if_pos cc]
    exact .lst (.of g2) (.cons (.str _) (.cons (Dp.same (s'.trans (sE.trans n3)) h2) .nil))
  · intro c cw cc ci H' s' dd hdd
    refine ⟨true, T.ex_InvalidPlace, fun _ a ha => ?_, fun q => Bool.noConfusion q⟩
    obtain ⟨cE, xE, sE⟩ := kept hdd ha (cls := .ref T.e_InvalidPlace.C)
    refine ⟨_, rfl, _, rfl, rfl, _, rfl, iteF ?_⟩
    refine ⟨_, rfl, a, _, dd, _, _, _, false, rfl, cE, xE, T.e_InvalidPlace.ec, fun u r => r, T.ki_InvalidPlace_InvalidLayout, _, rfl, iteF ?_⟩
    refine ⟨_, rfl, a, _, dd, _, _, _, false, rfl, cE, xE, T.e_InvalidPlace.ec, fun u r => r, T.ki_InvalidPlace_InvalidWidth, _, rfl, iteF ?_⟩
    refine ⟨(by show 2 ≤ sizeLine; decide), fun l1 hl1 => ?_⟩
    have n1 := same_new (o := .lst [.str "other", .non]) hl1
    refine ⟨_, rfl, a, dd, _, iv, rfl, n1 _ _ cE, n1 _ _ xE, rfl, (by show 2 ≤ sizeLine; decide), fun l2 hl2 => ⟨(by show 2 ≤ sizeLine; decide), fun l3 hl3 => ?_⟩⟩
    have n2 := n1.trans (same_new (o := .lst [.str "place", iv]) hl2)
    have n3 := n2.trans (same_new (o := .lst [.ref l1, .ref l2]) hl3)
    have g2 := same_new (o := .lst [.ref l1, .ref l2]) hl3 _ _ (upd_same (a := l2) (o := .lst [.str "place", iv]))
    refine ⟨_, rfl, a, _, dd, _, _, _, true, rfl, n3 _ _ cE, n3 _ _ xE, T.e_InvalidPlace.ec, fun u r => r, T.ki_InvalidPlace_InvalidPlace, .inr ⟨_, rfl, l3, _, _, .ref l2, rfl, rfl, .of upd_same, rfl, ?_⟩⟩
    refine hq _ _ (s'.trans (sE.trans n3)) ?_
    rw [toldD_ok c, if_neg (by rw [cw]; decide), if_neg (by rw [cc]; decide), if_pos ci]
    exact .lst (.of g2) (.cons (.str _) (.cons (Dp.same (s'.trans (sE.trans n3)) h3) .nil))
  · intro c cw cc ci H' u s' du
    refine ⟨_, rfl, rfl, _, rfl, iteT ⟨_, rfl, (by show 2 ≤ sizeLine; decide), fun p hp => ?_⟩⟩
    refine hq _ _ (s'.trans (same_new hp)) ?_
    rw [toldD_ok c, if_neg (by rw [cw]; decide), if_neg (by rw [cc]; decide), if_neg (by rw [ci]; decide)]
    exact .lst (.of upd_same) (.cons (.str _) (.cons (Dp.same (same_new hp) du) .nil))
end
end K30

namespace K30
open PySem PySem.Spec PyProof.Rows L2 Vk
/-! ### what is refused -/
def odds : List PyData := [.int (-1), .none, .bool true, .str "0", .tuple [.int 0], .int (-(10 ^ 30)), .list [.int 0], .bool false]
def rA : PyData := .tuple [.int 0, .str "a"]
def bads : List PyData := [.none, .tuple [], .list [rA], .tuple [.tuple [.int 1, .str "a"]], .tuple [rA, .tuple [.int 0, .none]], .tuple [rA, .int 7], .tuple [rA, .tuple [.int (-1), .str "b"]]]
theorem pickL {K : PySem.W.Frag} {H2 G : Hp} {l : Addr} {vs : List V} {ds : List PyData} {i : Int} {Q : VK} (hl : H2 l = some (.lst vs)) (h0 : 0 ≤ i) (h1 : i < (vs.length : Int)) (hv : DpAll K G vs ds) (q : ∀ v d, d ∈ ds → Dp K G v d → Q v H2) : rIxL K (.ref l) (.int i) H2 Q := by
  obtain ⟨v, e1, e2⟩ := atI_in h0 h1
  obtain ⟨d, d1, d2⟩ := DpAll.mem hv e2
  exact ⟨l, _, i, _, rfl, rfl, .of hl, e1, q v d d1 d2⟩
def spRefused (K : PySem.W.Frag) : Sp := fun vs H Q _ => ∃ (p : Addr) (n : Nat) (v : V) (d : PyData), vs = [.ref p, v] ∧ PurseAt H p (n + 3) ∧ Dp K (hide p H) v d ∧ Fine d ∧ checkD d = .none ∧
  ∀ H', Same (hide p H) (hide p H') → PurseAt H' p n → Q (.bl true) H'
theorem same_at {p D : Addr} {G H3 : Hp} {o : HO} (hD : G D = none) (s : Same (hide p G) (hide p H3)) (ne : D ≠ p) : Same (hide p G) (hide p (upd H3 D o)) := fun b u e => by
  have nb : b ≠ D := fun z => by
    rw [z, hide_ne ne, hD] at e
    cases e
  rw [hide_out ne, upd_ne nb]
  exact s b u e
theorem PurseAt.upd {H : Hp} {p D : Addr} {n : Nat} {o : HO} (h : PurseAt H p n) (ne : D ≠ p) : PurseAt (L2.upd H D o) p n := by
  obtain ⟨a, b, c, e, r⟩ := h
  exact ⟨a, b, c, by rw [upd_ne (Ne.symm ne)]; exact e, r⟩
def isNon : PyData → Bool
  | .none => true
  | _ => false
theorem isNon_is {d : PyData} (h : d = .none) : isNon d = true := by rw [h]; rfl
theorem bads_ok : ∀ d ∈ bads, Fine d ∧ checkD d ≠ .none ∧ SeqAt.shaped (.list [.str "layout", checkD d]) = true := by
  have h : (bads.all fun d => okD 4 d && (!isNon (checkD d) && SeqAt.shaped (.list [.str "layout", checkD d]))) = true := by decide +kernel
  intro d hd
  have q := List.all_eq_true.mp h d hd
  rw [Bool.and_eq_true, Bool.and_eq_true] at q
  refine ⟨q.1, fun e => ?_, q.2.2⟩
  have q2 := q.2.1
  rw [isNon_is e] at q2
  cases q2
theorem odds_ok : ∀ d ∈ odds, Fine d ∧ wholeD d = false ∧ SeqAt.shaped (.list [.str "width", d]) = true ∧ SeqAt.shaped (.list [.str "place", d]) = true := by
  have h : (odds.all fun d => okD 4 d && (!wholeD d && (SeqAt.shaped (.list [.str "width", d]) && SeqAt.shaped (.list [.str "place", d])))) = true := by decide +kernel
  intro d hd
  have q := List.all_eq_true.mp h d hd
  rw [Bool.and_eq_true, Bool.and_eq_true, Bool.and_eq_true] at q
  exact ⟨q.1, by simpa using q.2.1, q.2.2.1, q.2.2.2⟩
theorem dp_nonF {K : PySem.W.Frag} {H : Hp} {u : V} {d : PyData} (h : Dp K H u d) (n : d ≠ .none) : decide (u = .non) = false := by
  cases h <;> first | exact absurd rfl n | simp
theorem eqv_same {d : PyData} (h : SeqAt.shaped d = true) : PyData.eqv d d = true := SeqAt.eqv_refl d (SeqAt.canLay_of_shaped h)
section
variable {P : Program} {w : World} {K : PySem.W.Frag} {mg : Str → Option Value} {base : Heap} {k : Nat}
theorem ok_refused (T : Tx K mg) (G_l_draw : FnOk P w K mg base CX0 k T.a_l_draw T.d_l_draw P_l_draw spDraw) (G_l_told : FnOk P w K mg base CX0 k T.a_l_told T.d_l_told P_l_told (spTold K))
    (G_check_layout : FnOk P w K mg base CX0 k T.a_check_layout T.d_check_layout P_check_layout (spCheck K)) :
    FnOk P w K mg base CX0 (k + 1) T.a_l_refused T.d_l_refused P_l_refused (spRefused K) := by
  refine T.F_l_refused.ok sc_l_refused (fun vs H Q E h => ?_) (fun cdv A outer s H vs Q E hr h => ?_)
  · obtain ⟨p, n, v, d, rfl, _⟩ := h
    rfl
  obtain ⟨p, n, v, d, rfl, pu, hd, hf, hc, hq⟩ := h
  refine ⟨_, (pss_cons (ps_set (i := 2) sc_l_refused.nd rfl (Or.inr rfl) (pe_lst (pa_cons (pe_un un_neg pe_int) (pa_cons pe_non (pa_cons pe_bl (pa_cons pe_str (pa_cons (pe_tup (pa_cons pe_int pa_nil)) (pa_cons (pe_un un_neg (pe_op op_pow pe_int pe_int)) (pa_cons (pe_lst (pa_cons pe_int pa_nil)) (pa_cons pe_bl pa_nil))))))))))
(pss_cons (ps_set (i := 3) sc_l_refused.nd rfl (Or.inl rfl) (pe_lst (pa_cons pe_non (pa_cons (pe_tup pa_nil) (pa_cons (pe_lst (pa_cons (pe_tup (pa_cons pe_int (pa_cons pe_str pa_nil))) pa_nil)) (pa_cons (pe_tup (pa_cons (pe_tup (pa_cons pe_int (pa_cons pe_str pa_nil))) pa_nil)) (pa_cons (pe_tup (pa_cons (pe_tup (pa_cons pe_int (pa_cons pe_str pa_nil))) (pa_cons (pe_tup (pa_cons pe_int (pa_cons pe_non pa_nil))) pa_nil))) (pa_cons (pe_tup (pa_cons (pe_tup (pa_cons pe_int (pa_cons pe_str pa_nil))) (pa_cons pe_int pa_nil))) (pa_cons (pe_tup (pa_cons (pe_tup (pa_cons pe_int (pa_cons pe_str pa_nil))) (pa_cons (pe_tup (pa_cons (pe_un un_neg pe_int) (pa_cons pe_str pa_nil))) pa_nil))) pa_nil)))))))))
(pss_cons (ps_set (i := 3) sc_l_refused.nd rfl (Or.inl rfl) (pe_ix ix_list (pv 3) (pe_call G_l_draw hr rfl T.m_l_draw T.F_l_draw.kp T.b_l_draw .nil pass0 (pa_cons (pv 0) (pa_cons pe_int pa_nil))) (fun _ _ => rfl)))
(pss_cons (ps_asg (pe_lc (own := [("_law_k", 6)]) (g := gName 6) (tt := tYes) rfl sc_l_refused.nd (pi_range1 rfl T.z_range (pa_cons pe_int pa_nil)) (blkOk_by (own := [("_law_k", 6)]) (N := N_l_refused) (sc := defScope s_l_refused) (by decide +kernel)) (fun _ _ _ _ _ => (pg_name (i := 6) sc_l_refused.nd rfl (Or.inl rfl))) (fun _ _ _ _ _ => pts_nil) (fun _ _ _ _ _ => (pe_ix (show IxR _ (rIxL K) from ix_list) (pv 2) (pe_call G_l_draw hr rfl T.m_l_draw T.F_l_draw.kp T.b_l_draw .nil pass0 (pa_cons (pv 0) (pa_cons pe_int pa_nil))) (fun _ _ => rfl)))) (pg_lst rfl (pgs_cons (pg_name (i := 4) sc_l_refused.nd rfl (Or.inl rfl)) (pgs_cons (pg_name (i := 5) sc_l_refused.nd rfl (Or.inl rfl)) pgs_nil))))
(pss_cons (ps_if (PW.pt (pw_or (pt_cmpR (op_neD hr.units) (pe_call G_l_told hr rfl T.m_l_told T.F_l_told.kp T.b_l_told .nil pass0 (pa_cons (pv 3) (pa_cons (pv 4) (pa_cons (pv 5) (pa_cons (pv 5) pa_nil))))) (pe_lst (pa_cons pe_str (pa_cons (pe_call G_check_layout hr rfl T.m_check_layout T.F_check_layout.kp T.b_check_layout .nil pass0 (pa_cons (pv 3) pa_nil)) pa_nil))) (nomark _)) (pw_or1 (pt_cmpR op_isN (pe_call G_check_layout hr rfl T.m_check_layout T.F_check_layout.kp T.b_check_layout .nil pass0 (pa_cons (pv 3) pa_nil)) pe_non (nomark _)))))
(pss_one (ps_ret pe_bl))
pss_nil)
(pss_cons (ps_if (PW.pt (pw_or (pt_cmpR (op_neD hr.units) (pe_call G_l_told hr rfl T.m_l_told T.F_l_told.kp T.b_l_told .nil pass0 (pa_cons (pv 1) (pa_cons (pv 4) (pa_cons (pv 5) (pa_cons (pv 5) pa_nil))))) (pe_lst (pa_cons pe_str (pa_cons (pv 4) pa_nil))) (nomark _)) (pw_or1 (pt_cmpR (op_neD hr.units) (pe_call G_l_told hr rfl T.m_l_told T.F_l_told.kp T.b_l_told .nil pass0 (pa_cons (pv 1) (pa_cons pe_int (pa_cons (pv 4) (pa_cons (pv 5) pa_nil))))) (pe_lst (pa_cons pe_str (pa_cons (pv 4) pa_nil))) (nomark _)))))
(pss_one (ps_ret pe_bl))
pss_nil)
(pss_one (ps_ret (pe_cmpR (op_eqD hr.units) (pe_call G_l_told hr rfl T.m_l_told T.F_l_told.kp T.b_l_told .nil pass0 (pa_cons (pv 1) (pa_cons pe_int (pa_cons pe_int (pa_cons (pv 5) pa_nil))))) (pe_lst (pa_cons pe_str (pa_cons (pv 5) pa_nil))) (nomark _)))))))))), ?_⟩
  refine ⟨_, rfl, ?_⟩
  refine ⟨(by show 1 ≤ sizeLine; decide), fun t0 h0 => ?_⟩
  have g0 := tup_new (K := K) pu h0 (.cons (.int 0) .nil)
  have s0 := hs_new (p := p) (o := .tup [.int 0]) h0
  have p0 := pu.new (o := .tup [.int 0]) h0
  generalize hG0 : upd H t0 _ = G0 at g0 s0 p0 ⊢
  refine ⟨_, _, rfl, rfl, ⟨by decide, by decide, by decide⟩, _, rfl, ?_⟩
  refine ⟨(by show 1 ≤ sizeLine; decide), fun l0 h1 => ?_⟩
  have g1 := lst_new (K := K) p0 h1 (.cons (.int 0) .nil)
  have s1 := hs_new (p := p) (o := .lst [.int 0]) h1
  have p1 := p0.new (o := .lst [.int 0]) h1
  generalize hG1 : upd G0 l0 _ = G1 at g1 s1 p1 ⊢
  refine ⟨(by show 8 ≤ sizeLine; decide), fun lo h2 => ?_⟩
  have a2 : DpAll K (hide p G1) [.int (-1), .non, .bl true, .str "0", .ref t0, .int (-(10 ^ Int.toNat 30)), .ref l0, .bl false] odds := (.cons (.int (-1)) (.cons .non (.cons (.bl true) (.cons (.str "0") (.cons (Dp.same (s1) g0) (.cons (.int (-(10 ^ 30))) (.cons g1 (.cons (.bl false) .nil))))))))
  have k2 : upd G1 lo (.lst [.int (-1), .non, .bl true, .str "0", .ref t0, .int (-(10 ^ Int.toNat 30)), .ref l0, .bl false]) lo = some (.lst [.int (-1), .non, .bl true, .str "0", .ref t0, .int (-(10 ^ Int.toNat 30)), .ref l0, .bl false]) := upd_same
  have g2 := lst_new (K := K) p1 h2 a2
  have s2 := hs_new (p := p) (o := .lst [.int (-1), .non, .bl true, .str "0", .ref t0, .int (-(10 ^ Int.toNat 30)), .ref l0, .bl false]) h2
  have p2 := p1.new (o := .lst [.int (-1), .non, .bl true, .str "0", .ref t0, .int (-(10 ^ Int.toNat 30)), .ref l0, .bl false]) h2
  generalize hG2 : upd G1 lo _ = G2 at k2 g2 s2 p2 ⊢
  refine ⟨(by show 0 ≤ sizeLine; decide), fun t1 h3 => ?_⟩
  have g3 := tup_new (K := K) p2 h3 .nil
  have s3 := hs_new (p := p) (o := .tup []) h3
  have p3 := p2.new (o := .tup []) h3
  generalize hG3 : upd G2 t1 _ = G3 at g3 s3 p3 ⊢
  refine ⟨(by show 2 ≤ sizeLine; decide), fun t2 h4 => ?_⟩
  have g4 := tup_new (K := K) p3 h4 (.cons (.int 0) (.cons (.str "a") .nil))
  have s4 := hs_new (p := p) (o := .tup [.int 0, .str "a"]) h4
  have p4 := p3.new (o := .tup [.int 0, .str "a"]) h4
  generalize hG4 : upd G3 t2 _ = G4 at g4 s4 p4 ⊢
  refine ⟨(by show 1 ≤ sizeLine; decide), fun l2 h5 => ?_⟩
  have g5 := lst_new (K := K) p4 h5 (.cons g4 .nil)
  have s5 := hs_new (p := p) (o := .lst [.ref t2]) h5
  have p5 := p4.new (o := .lst [.ref t2]) h5
  generalize hG5 : upd G4 l2 _ = G5 at g5 s5 p5 ⊢
  refine ⟨(by show 2 ≤ sizeLine; decide), fun t3 h6 => ?_⟩
  have g6 := tup_new (K := K) p5 h6 (.cons (.int 1) (.cons (.str "a") .nil))
  have s6 := hs_new (p := p) (o := .tup [.int 1, .str "a"]) h6
  have p6 := p5.new (o := .tup [.int 1, .str "a"]) h6
  generalize hG6 : upd G5 t3 _ = G6 at g6 s6 p6 ⊢
  refine ⟨(by show 1 ≤ sizeLine; decide), fun t4 h7 => ?_⟩
  have g7 := tup_new (K := K) p6 h7 (.cons g6 .nil)
  have s7 := hs_new (p := p) (o := .tup [.ref t3]) h7
  have p7 := p6.new (o := .tup [.ref t3]) h7
  generalize hG7 : upd G6 t4 _ = G7 at g7 s7 p7 ⊢
  refine ⟨(by show 2 ≤ sizeLine; decide), fun t5 h8 => ?_⟩
  have g8 := tup_new (K := K) p7 h8 (.cons (.int 0) (.cons (.str "a") .nil))
  have s8 := hs_new (p := p) (o := .tup [.int 0, .str "a"]) h8
  have p8 := p7.new (o := .tup [.int 0, .str "a"]) h8
  generalize hG8 : upd G7 t5 _ = G8 at g8 s8 p8 ⊢
  refine ⟨(by show 2 ≤ sizeLine; decide), fun t6 h9 => ?_⟩
  have g9 := tup_new (K := K) p8 h9 (.cons (.int 0) (.cons .non .nil))
  have s9 := hs_new (p := p) (o := .tup [.int 0, .non]) h9
  have p9 := p8.new (o := .tup [.int 0, .non]) h9
  generalize hG9 : upd G8 t6 _ = G9 at g9 s9 p9 ⊢
  refine ⟨(by show 2 ≤ sizeLine; decide), fun t7 h10 => ?_⟩
  have g10 := tup_new (K := K) p9 h10 (.cons (Dp.same (s9) g8) (.cons g9 .nil))
  have s10 := hs_new (p := p) (o := .tup [.ref t5, .ref t6]) h10
  have p10 := p9.new (o := .tup [.ref t5, .ref t6]) h10
  generalize hG10 : upd G9 t7 _ = G10 at g10 s10 p10 ⊢
  refine ⟨(by show 2 ≤ sizeLine; decide), fun t8 h11 => ?_⟩
  have g11 := tup_new (K := K) p10 h11 (.cons (.int 0) (.cons (.str "a") .nil))
  have s11 := hs_new (p := p) (o := .tup [.int 0, .str "a"]) h11
  have p11 := p10.new (o := .tup [.int 0, .str "a"]) h11
  generalize hG11 : upd G10 t8 _ = G11 at g11 s11 p11 ⊢
  refine ⟨(by show 2 ≤ sizeLine; decide), fun t9 h12 => ?_⟩
  have g12 := tup_new (K := K) p11 h12 (.cons g11 (.cons (.int 7) .nil))
  have s12 := hs_new (p := p) (o := .tup [.ref t8, .int 7]) h12
  have p12 := p11.new (o := .tup [.ref t8, .int 7]) h12
  generalize hG12 : upd G11 t9 _ = G12 at g12 s12 p12 ⊢
  refine ⟨(by show 2 ≤ sizeLine; decide), fun t10 h13 => ?_⟩
  have g13 := tup_new (K := K) p12 h13 (.cons (.int 0) (.cons (.str "a") .nil))
  have s13 := hs_new (p := p) (o := .tup [.int 0, .str "a"]) h13
  have p13 := p12.new (o := .tup [.int 0, .str "a"]) h13
  generalize hG13 : upd G12 t10 _ = G13 at g13 s13 p13 ⊢
  refine ⟨_, rfl, ?_⟩
  refine ⟨(by show 2 ≤ sizeLine; decide), fun t11 h14 => ?_⟩
  have g14 := tup_new (K := K) p13 h14 (.cons (.int (-1)) (.cons (.str "b") .nil))
  have s14 := hs_new (p := p) (o := .tup [.int (-1), .str "b"]) h14
  have p14 := p13.new (o := .tup [.int (-1), .str "b"]) h14
  generalize hG14 : upd G13 t11 _ = G14 at g14 s14 p14 ⊢
  refine ⟨(by show 2 ≤ sizeLine; decide), fun t12 h15 => ?_⟩
  have g15 := tup_new (K := K) p14 h15 (.cons (Dp.same (s14) g13) (.cons g14 .nil))
  have s15 := hs_new (p := p) (o := .tup [.ref t10, .ref t11]) h15
  have p15 := p14.new (o := .tup [.ref t10, .ref t11]) h15
  generalize hG15 : upd G14 t12 _ = G15 at g15 s15 p15 ⊢
  refine ⟨(by show 7 ≤ sizeLine; decide), fun lb h16 => ?_⟩
  have a16 : DpAll K (hide p G15) [.non, .ref t1, .ref l2, .ref t4, .ref t7, .ref t9, .ref t12] bads := (.cons .non (.cons (Dp.same (s4.trans (s5.trans (s6.trans (s7.trans (s8.trans (s9.trans (s10.trans (s11.trans (s12.trans (s13.trans (s14.trans (s15)))))))))))) g3) (.cons (Dp.same (s6.trans (s7.trans (s8.trans (s9.trans (s10.trans (s11.trans (s12.trans (s13.trans (s14.trans (s15)))))))))) g5) (.cons (Dp.same (s8.trans (s9.trans (s10.trans (s11.trans (s12.trans (s13.trans (s14.trans (s15)))))))) g7) (.cons (Dp.same (s11.trans (s12.trans (s13.trans (s14.trans (s15))))) g10) (.cons (Dp.same (s13.trans (s14.trans (s15))) g12) (.cons g15 .nil)))))))
  have k16 : upd G15 lb (.lst [.non, .ref t1, .ref l2, .ref t4, .ref t7, .ref t9, .ref t12]) lb = some (.lst [.non, .ref t1, .ref l2, .ref t4, .ref t7, .ref t9, .ref t12]) := upd_same
  have g16 := lst_new (K := K) p15 h16 a16
  have s16 := hs_new (p := p) (o := .lst [.non, .ref t1, .ref l2, .ref t4, .ref t7, .ref t9, .ref t12]) h16
  have p16 := p15.new (o := .lst [.non, .ref t1, .ref l2, .ref t4, .ref t7, .ref t9, .ref t12]) h16
  generalize hG16 : upd G15 lb _ = G16 at k16 g16 s16 p16 ⊢
  have sB : Same (hide p H) (hide p G15) := s0.trans (s1.trans (s2.trans (s3.trans (s4.trans (s5.trans (s6.trans (s7.trans (s8.trans (s9.trans (s10.trans (s11.trans (s12.trans (s13.trans (s14.trans (s15)))))))))))))))
  have sO : Same (hide p G2) (hide p G16) := s3.trans (s4.trans (s5.trans (s6.trans (s7.trans (s8.trans (s9.trans (s10.trans (s11.trans (s12.trans (s13.trans (s14.trans (s15.trans (s16)))))))))))))
  have nD : ∀ {a : Addr}, G15 a = none → a ≠ p := fun ha => (p15.ne ha).symm
  refine ⟨_, rfl, _, rfl, p, 7, n + 2, rfl, p16, by decide, by decide, fun I1 e hh pu1 e0 e1 => ?_⟩
  refine pickL (G := hide p G15) ((hide_get hh (nD h16)).trans k16) e0 e1 a16 fun vb db hdb dvb => ?_
  obtain ⟨fb, cb, shb⟩ := bads_ok db hdb
  have sI : Same (hide p G16) (hide p I1) := same_eq hh
  have nlo : lo ≠ p := (p1.ne h2).symm
  have hlo : hide p I1 lo = some _ := (sO.trans sI) lo _ ((hide_ne nlo).trans k2)
  refine ⟨2, rfl, by decide, by decide, fun D hD => lc_range (lo := 0) (n := 2) (fun i H' => ∃ acc : List V, H' D = some (.lst acc) ∧ acc.length = i ∧ (∀ v ∈ acc, ∃ d ∈ odds, Dp K (hide p G1) v d) ∧ PurseAt H' p (n + (2 - i)) ∧ Same (hide p I1) (hide p H'))
    ⟨[], upd_same, rfl, by simp, pu1.new hD, hs_new hD⟩ ?_ ?_⟩
  · rintro i H' hi ⟨acc, hD', hl, ha, pu', s'⟩
    have dD : D ≠ p := (pu1.ne hD).symm
    refine ⟨rfl, yesT (iteT ?_)⟩
    refine ⟨_, rfl, _, rfl, p, 8, n + (1 - i), rfl, pu'.less (by omega), by decide, by decide, fun H3 e hh3 pu3 e0 e1 => ?_⟩
    have hlo3 := (s'.trans (same_eq hh3)) lo _ hlo
    rw [hide_ne nlo] at hlo3
    refine pickL hlo3 e0 e1 a2 fun y dy hdy dvy => ?_
    refine ⟨acc, (hide_get hh3 dD).trans hD', Nat.lt_of_le_of_lt (m := 2) (by omega) (by decide), ?_⟩
    refine ⟨_, upd_same, by simp [hl], fun v hv => ?_, (PurseAt.upd pu3 dD).less (by omega), same_at hD (s'.trans (same_eq hh3)) dD⟩
    rcases List.mem_append.mp hv with hv | hv
    · exact ha v hv
    · rw [List.mem_singleton.mp hv]
      exact ⟨dy, hdy, dvy⟩
  · rintro H3 ⟨acc, hD3, hl, ha, pu3, s3⟩
    obtain ⟨v1, v2, rfl⟩ := two_of hl
    obtain ⟨d1, hd1, dv1⟩ := ha v1 (by simp)
    obtain ⟨d2, hd2, dv2⟩ := ha v2 (by simp)
    obtain ⟨f1, w1, sh1, sk1⟩ := odds_ok d1 hd1
    obtain ⟨f2, w2, sh2, sk2⟩ := odds_ok d2 hd2
    have sA : Same (hide p G1) (hide p H3) := s2.trans (sO.trans (sI.trans s3))
    have sC : Same (hide p G15) (hide p H3) := s16.trans (sI.trans s3)
    have sH : Same (hide p H) (hide p H3) := sB.trans sC
    have x1 : Dp K H3 v1 d1 := Dp.same (sA.trans hide_same) dv1
    have x2 : Dp K H3 v2 d2 := Dp.same (sA.trans hide_same) dv2
    have xb : Dp K H3 vb db := Dp.same (sC.trans hide_same) dvb
    have xv : Dp K H3 v d := Dp.same (sH.trans hide_same) hd
    refine ⟨D, _, rfl, .of hD3, rfl, _, _, rfl, _, _, rfl, rfl, ?_⟩
    refine ⟨_, rfl, _, rfl, _, rfl, _, rfl, vb, v1, v2, v2, db, d1, d2, d2, rfl, xb, fb.weight, x1, x2, x2, fun u4 H4 s4 du => ?_⟩
    refine ⟨_, rfl, vb, db, rfl, Dp.same s4 xb, fb.weight, fun r H5 s5 dr => ⟨(by show 2 ≤ sizeLine; decide), fun q hq5 => ?_⟩⟩
    rw [toldD_bad cb] at du
    have s6 := s5.trans (same_new (o := .lst [.str "layout", r]) hq5)
    refine ⟨_, _, Dp.same s6 du, .lst (.of upd_same) (.cons (.str _) (.cons (Dp.same (same_new hq5) dr) .nil)), shb, shb, _, rfl, ?_⟩
    rw [eqv_same shb]
    have t6 := s4.trans s6
    have y1 := Dp.same t6 x1
    have y2 := Dp.same t6 x2
    have yv := Dp.same t6 xv
    have q6 := pu3.same t6
    generalize upd H5 q _ = H6 at s6 t6 y1 y2 yv q6 ⊢
    refine iteF ⟨_, rfl, vb, db, rfl, Dp.same t6 xb, fb.weight, fun r2 H7 s7 dr2 => ⟨rfl, _, rfl, ?_⟩⟩
    rw [dp_nonF dr2 cb]
    refine iteF ?_
    have z1 := Dp.same s7 y1
    have z2 := Dp.same s7 y2
    have zv := Dp.same s7 yv
    refine ⟨_, rfl, _, rfl, _, rfl, _, rfl, v, v1, v2, v2, d, d1, d2, d2, rfl, zv, hf.weight, z1, z2, z2, fun u8 H8 s8 d8 => ?_⟩
    rw [toldD_ok hc, if_pos w1] at d8
    refine ⟨_, rfl, (by show 2 ≤ sizeLine; decide), fun q9 h9 => ?_⟩
    have s9 := same_new (o := .lst [.str "width", v1]) h9
    refine ⟨_, _, Dp.same s9 d8, .lst (.of upd_same) (.cons (.str _) (.cons (Dp.same (s8.trans s9) z1) .nil)), sh1, sh1, _, rfl, ?_⟩
    rw [eqv_same sh1]
    have t9 := s7.trans (s8.trans s9)
    generalize upd H8 q9 _ = H9 at s9 t9 ⊢
    refine iteF ⟨_, rfl, _, rfl, _, rfl, v, .int 3, v1, v2, d, .int 3, d1, d2, rfl, Dp.same t9 yv, hf.weight, .int 3, Dp.same t9 y1, Dp.same t9 y2, fun u10 H10 s10 d10 => ?_⟩
    rw [toldD_ok hc, if_neg (by decide), if_pos w1] at d10
    refine ⟨_, rfl, (by show 2 ≤ sizeLine; decide), fun q11 h11 => ?_⟩
    have s11 := same_new (o := .lst [.str "place", v1]) h11
    refine ⟨_, _, Dp.same s11 d10, .lst (.of upd_same) (.cons (.str _) (.cons (Dp.same (t9.trans (s10.trans s11)) y1) .nil)), sk1, sk1, _, rfl, ?_⟩
    rw [eqv_same sk1]
    have t11 := t9.trans (s10.trans s11)
    generalize upd H10 q11 _ = H11 at s11 t11 ⊢
    refine iteF ⟨_, rfl, _, rfl, v, .int 0, .int 0, v2, d, .int 0, .int 0, d2, rfl, Dp.same t11 yv, hf.weight, .int 0, .int 0, Dp.same t11 y2, fun u12 H12 s12 d12 => ?_⟩
    rw [toldD_ok hc, if_neg (by decide), if_neg (by decide), if_pos w2] at d12
    refine ⟨_, rfl, (by show 2 ≤ sizeLine; decide), fun q13 h13 => ?_⟩
    have s13 := same_new (o := .lst [.str "place", v2]) h13
    refine ⟨_, _, Dp.same s13 d12, .lst (.of upd_same) (.cons (.str _) (.cons (Dp.same (t11.trans (s12.trans s13)) y2) .nil)), sk2, sk2, ?_⟩
    rw [eqv_same sk2]
    have t13 := t6.trans (t11.trans (s12.trans s13))
    exact hq _ (sH.trans (Same.hide t13)) ((pu3.same t13).less (by omega))
end
end K30

namespace K30
open PySem PySem.Spec PyProof.Rows L2 Vk
/-! ### the law -/
def spLaw (K : PySem.W.Frag) : Sp := fun vs H Q _ => ∃ (a : Addr) (ns : List Int), vs = [.ref a] ∧ SqL K H a (ns.map V.int) ∧ ns.length ≤ 63 ∧ ∀ H', Q (.bl true) H'
theorem rowsOf_rows (rs : List Row) : rowsOf (rowsD rs) = rs := by
  show (rs.map rowD).map rowOf = rs
  rw [List.map_map]
  have e : (rowOf ∘ rowD) = id := by
    funext r
    rfl
  rw [e, List.map_id]
theorem GoodRow.fine {r : Row} (h : GoodRow r) : okD 1 (rowD r) = true := by
  have h1 := h.lo
  have h2 := h.hi
  refine okD_tup.mpr ⟨by simp, fun d hd => ?_⟩
  rcases List.mem_cons.mp hd with e | hd
  · rw [e]
    refine decide_eq_true ?_
    exact Nat.lt_of_le_of_lt (show r.1.natAbs ≤ 1000 by omega) (by decide)
  · rw [List.mem_singleton.mp hd]
    exact h.z.2
theorem GoodRows.fine {rs : List Row} (h : GoodRows rs) : Fine (rowsD rs) := by
  refine okD_up 3 _ (okD_up 2 _ (okD_tup.mpr ⟨by have := h.len; rw [List.length_map]; omega, fun d hd => ?_⟩))
  obtain ⟨r, hr, rfl⟩ := List.mem_map.mp hd
  exact (h.all r hr).fine
theorem GoodRows.check {rs : List Row} (h : GoodRows rs) : checkD (rowsD rs) = .none := by
  obtain ⟨r, rs', rfl⟩ := List.exists_cons_of_ne_nil h.ne
  show checkRows (rowD r :: rs'.map rowD) = .none
  unfold checkRows
  rw [firstBad_no (rowD r :: rs'.map rowD) 0 fun d hd => ?_]
  · show (if r.1 = 0 then PyData.none else _) = _
    have hh : r.1 = 0 := h.head
    rw [if_pos hh]
  · have hd' : d ∈ (r :: rs').map rowD := hd
    obtain ⟨q, hq, rfl⟩ := List.mem_map.mp hd'
    have g := h.all q hq
    show (decide (0 ≤ q.1) && q.2.cps.toList.all signOk) = true
    rw [decide_eq_true g.lo, g.z.1]
    rfl
theorem GoodRows.short {rs : List Row} (h : GoodRows rs) : ∀ r ∈ rs, r.2.length ≤ 1000000 := fun r hr => by
  have q := (h.all r hr).z.2
  have q' : (decide (r.2.cps.size ≤ 100) && r.2.cps.all (· < 0x110000)) = true := q
  rw [Bool.and_eq_true, decide_eq_true_eq] at q'
  have e : r.2.length = r.2.cps.size := rfl
  omega
theorem whole_int {i : Int} (h : 0 ≤ i) : wholeD (.int i) = true := decide_eq_true h
theorem told_rows {rs : List Row} {w s d : Int} (h : GoodRows rs) (hw : 0 ≤ w) (hs : 0 ≤ s) (hd : 0 ≤ d) : toldD (rowsD rs) (.int w) (.int s) (.int d) = .list [.str "told", costD w s d rs] := by
  rw [toldD_ok h.check, whole_int hw, whole_int hs, whole_int hd, if_neg (by decide), if_neg (by decide), if_neg (by decide)]
  unfold costP
  rw [rowsOf_rows]
  rfl
theorem cost_shaped (w s d : Int) (rs : List Row) : SeqAt.shaped (costD w s d rs) = true := rfl
theorem told_shaped (w s d : Int) (rs : List Row) : SeqAt.shaped (.list [.str "told", costD w s d rs]) = true := by
  have b : (PyData.str "told").canLay0 = true := by decide +kernel
  show ((PyData.canLay0 (.str "told") && ((PyData.canLay0 (.int (total w s d rs)) && (PyData.canLay0 (.int (rs.length : Nat)) && true)) && true)) && decide (PyData.depth (.list [.str "told", costD w s d rs]) ≤ 64)) = true
  rw [b]
  rfl
/-- cost_of asked with what is right -/
theorem cost_right {K : PySem.W.Frag} {CL CW CP : Addr} {v : V} {rs : List Row} {w s d : Int} {H : Hp} {Q : VK} {E : XK} (g : GoodRows rs) (hw : 0 ≤ w) (hs : 0 ≤ s) (hd : 0 ≤ d) (dv : Dp K H v (rowsD rs))
    (q : ∀ H' u, Same H H' → Dp K H' u (costD w s d rs) → Q u H') : Cost K CL CW CP v (.int w) (.int s) (.int d) (rowsD rs) (.int w) (.int s) (.int d) H Q E where
  hd := dv
  hw := g.fine.weight
  w := .int w
  c := .int s
  i := .int d
  el := fun c => absurd g.check c
  ew := fun _ c => by
    rw [whole_int hw] at c
    cases c
  ec := fun _ _ c => by
    rw [whole_int hs] at c
    cases c
  ei := fun _ _ _ c => by
    rw [whole_int hd] at c
    cases c
  ok := fun _ _ _ _ H' u s' du => by
    refine q H' u s' ?_
    have e : costP (rowsD rs) (.int w) (.int s) (.int d) = costD w s d rs := by
      unfold costP
      rw [rowsOf_rows]
      rfl
    rw [e] at du
    exact du
theorem ints_dp {K : PySem.W.Frag} {H : Hp} : ∀ zs : List Int, DpAll K H (zs.map V.int) (zs.map PyData.int)
  | [] => .nil
  | z :: zs => .cons (.int z) (ints_dp zs)
def fixed : List Str := ["", "a", "abc", "de"]
theorem okFs : ∀ z ∈ fixed, okZ z := by
  have h : (fixed.all fun z => z.cps.toList.all signOk && leafOk (.str z)) = true := by decide +kernel
  intro z hz
  have q := List.all_eq_true.mp h z hz
  rw [Bool.and_eq_true] at q
  exact q
theorem good_fixed {rs : List Row} (h : (rs.all fun r => decide (0 ≤ r.1) && (decide (r.1 ≤ 1000) && fixed.contains r.2)) = true) (hn : rs ≠ []) (h0 : (rs.headD (0, "")).1 = 0) (l : rs.length ≤ 8) : GoodRows rs :=
  ⟨hn, fun r hr => by
    have q := List.all_eq_true.mp h r hr
    rw [Bool.and_eq_true, Bool.and_eq_true, decide_eq_true_eq, decide_eq_true_eq] at q
    exact ⟨q.1, q.2.1, okFs _ (List.contains_iff_mem.mp q.2.2)⟩, h0, l⟩
def r1 : List Row := [(0, "a")]
def r2 : List Row := [(0, ""), (9, "")]
def r3 : List Row := [(0, "")]
def r4 : List Row := [(0, "abc"), (2, "de")]
theorem g1 : GoodRows r1 := good_fixed (by decide +kernel) (by simp [r1]) rfl (by decide)
theorem g2 : GoodRows r2 := good_fixed (by decide +kernel) (by simp [r2]) rfl (by decide)
theorem g3 : GoodRows r3 := good_fixed (by decide +kernel) (by simp [r3]) rfl (by decide)
theorem g4 : GoodRows r4 := good_fixed (by decide +kernel) (by simp [r4]) rfl (by decide)
theorem c2 : costD 5 0 0 r2 = .tuple [.int 4, .int 2] := by
  unfold costD
  have e : total 5 0 0 r2 = 4 := by decide +kernel
  rw [e]
  rfl
theorem c3 : costD 5 8 0 r3 = .tuple [.int 3, .int 1] := by
  unfold costD
  have e : total 5 8 0 r3 = 3 := by decide +kernel
  rw [e]
  rfl
theorem c4 : costD 3 1 0 r4 = .tuple [.int 2, .int 2] := by
  unfold costD
  have e : total 3 1 0 r4 = 2 := by decide +kernel
  rw [e]
  rfl
theorem told_first {K : PySem.W.Frag} {H : Hp} {u : V} {d : PyData} {Q : VK} (h : Dp K H u (.list [.str "told", d])) (q : Q (.str "told") H) : rIxL K u (.int 0) H Q := by
  obtain ⟨l, xs, rfl, hl, hx⟩ := Dp.ofLst h
  obtain ⟨x0, x1, rfl, e0, e1⟩ := two_all hx
  obtain rfl := Dp.ofStr e0
  exact ⟨l, _, 0, _, rfl, rfl, hl, rfl, q⟩
theorem str_shaped : SeqAt.shaped (.str "told") = true := by decide +kernel
section
variable {P : Program} {w : World} {K : PySem.W.Frag} {mg : Str → Option Value} {base : Heap} {k : Nat}
theorem ok_law (T : Tx K mg) (G_cost_of : FnOk P w K mg base (L2.CX P w) k T.a_cost_of T.d_cost_of P_cost_of (spCost K T.e_InvalidLayout.C T.e_InvalidWidth.C T.e_InvalidPlace.C))
    (G_l_purse : FnOk P w K mg base CX0 k T.a_l_purse T.d_l_purse P_l_purse (spPurse K)) (G_l_layout : FnOk P w K mg base CX0 k T.a_l_layout T.d_l_layout P_l_layout (spLayout K)) (G_l_draw : FnOk P w K mg base CX0 k T.a_l_draw T.d_l_draw P_l_draw spDraw)
    (G_l_due : FnOk P w K mg base CX0 k T.a_l_due T.d_l_due P_l_due (spDue K)) (G_l_told : FnOk P w K mg base CX0 k T.a_l_told T.d_l_told P_l_told (spTold K)) (G_l_refused : FnOk P w K mg base CX0 k T.a_l_refused T.d_l_refused P_l_refused (spRefused K)) :
    FnOk P w K mg base CX0 (k + 1) T.a_law T.d_law P_law (spLaw K) := by
  obtain ⟨mv1, kb_cost_of_1_width⟩ := T.kb_cost_of_1_width
  obtain ⟨mv2, kb_cost_of_layout_indent_width⟩ := T.kb_cost_of_layout_indent_width
  obtain ⟨mv3, kb_cost_of_1_width_column⟩ := T.kb_cost_of_1_width_column
  refine T.F_law.ok sc_law (fun vs H Q E h => ?_) (fun cdv A outer s H vs Q E hr h => ?_)
  · obtain ⟨a, ns, rfl, _⟩ := h
    rfl
  obtain ⟨a, ns, rfl, hS, h63, hq⟩ := h
  refine ⟨_, (pss_cons (ps_for PassesOwn.never rfl (pi_range1 rfl T.z_range (pa_cons (pe_op op_add pe_int (pe_callB (call_min2 rfl) rfl T.z_min (by decide +kernel) (pa_cons pe_int (pa_cons (pe_callB call_len rfl T.z_len (by decide +kernel) (pa_cons (pv 0) pa_nil)) pa_nil)))) pa_nil)) (pg_name (i := 1) sc_law.nd rfl (Or.inl rfl))
(pss_cons (ps_set (i := 2) sc_law.nd rfl (Or.inr rfl) (pe_call G_l_purse hr rfl T.m_l_purse T.F_l_purse.kp T.b_l_purse .nil pass0 (pa_cons (pv 0) (pa_cons (pv 1) pa_nil))))
(pss_one (ps_for PassesOwn.never rfl (pi_range1 rfl T.z_range (pa_cons pe_int pa_nil)) (pg_name (i := 3) sc_law.nd rfl (Or.inl rfl))
(pss_cons (ps_set (i := 4) sc_law.nd rfl (Or.inl rfl) (pe_call G_l_layout hr rfl T.m_l_layout T.F_l_layout.kp T.b_l_layout .nil pass0 (pa_cons (pv 2) pa_nil)))
(pss_cons (ps_set (i := 5) sc_law.nd rfl (Or.inl rfl) (pe_ix ix_list (pe_lst (pa_cons (pe_call G_l_draw hr rfl T.m_l_draw T.F_l_draw.kp T.b_l_draw .nil pass0 (pa_cons (pv 2) (pa_cons pe_int pa_nil))) (pa_cons (pe_call G_l_draw hr rfl T.m_l_draw T.F_l_draw.kp T.b_l_draw .nil pass0 (pa_cons (pv 2) (pa_cons pe_int pa_nil))) (pa_cons pe_int (pa_cons pe_int (pa_cons pe_int pa_nil)))))) (pe_call G_l_draw hr rfl T.m_l_draw T.F_l_draw.kp T.b_l_draw .nil pass0 (pa_cons (pv 2) (pa_cons pe_int pa_nil))) (fun _ _ => rfl)))
(pss_cons (ps_asg (pe_lc (own := [("_law_k", 8)]) (g := gName 8) (tt := tYes) rfl sc_law.nd (pi_range1 rfl T.z_range (pa_cons pe_int pa_nil)) (blkOk_by (own := [("_law_k", 8)]) (N := N_law) (sc := defScope s_law) (by decide +kernel)) (fun _ _ _ _ _ => (pg_name (i := 8) sc_law.nd rfl (Or.inl rfl))) (fun _ _ _ _ _ => pts_nil) (fun _ _ _ _ _ => (pe_ix (show IxR _ (rIxL K) from ix_list) (pe_lst (pa_cons (pe_call G_l_draw hr rfl T.m_l_draw T.F_l_draw.kp T.b_l_draw .nil pass0 (pa_cons (pv 2) (pa_cons pe_int pa_nil))) (pa_cons pe_int (pa_cons pe_int (pa_cons pe_int (pa_cons pe_int (pa_cons pe_int pa_nil))))))) (pe_call G_l_draw hr rfl T.m_l_draw T.F_l_draw.kp T.b_l_draw .nil pass0 (pa_cons (pv 2) (pa_cons pe_int pa_nil))) (fun _ _ => rfl)))) (pg_lst rfl (pgs_cons (pg_name (i := 6) sc_law.nd rfl (Or.inl rfl)) (pgs_cons (pg_name (i := 7) sc_law.nd rfl (Or.inl rfl)) pgs_nil))))
(pss_cons (ps_if (pt_cmpR (op_neD hr.units) (pe_call G_l_told hr rfl T.m_l_told T.F_l_told.kp T.b_l_told .nil pass0 (pa_cons (pv 4) (pa_cons (pv 5) (pa_cons (pv 6) (pa_cons (pv 7) pa_nil))))) (pe_lst (pa_cons pe_str (pa_cons (pe_call G_l_due hr rfl T.m_l_due T.F_l_due.kp T.b_l_due .nil pass0 (pa_cons (pv 4) (pa_cons (pv 5) (pa_cons (pv 6) (pa_cons (pv 7) pa_nil))))) pa_nil))) (nomark _))
(pss_one (ps_ret pe_bl))
pss_nil)
(pss_cons (ps_if (pt_cmpR (op_neD hr.units) (pe_callNS G_cost_of hr rfl T.m_cost_of T.F_cost_of.kp kb_cost_of_1_width (fun σ => passAt (takes0 (X := _)) σ) (pa_cons (pv 4) pa_nil) (pk_cons (pv 5) pk_nil)) (pe_call G_l_due hr rfl T.m_l_due T.F_l_due.kp T.b_l_due .nil pass0 (pa_cons (pv 4) (pa_cons (pv 5) (pa_cons pe_int (pa_cons pe_int pa_nil))))) (nomark _))
(pss_one (ps_ret pe_bl))
pss_nil)
(pss_cons (ps_if (pt_cmpR (op_neD hr.units) (pe_callKS0 G_cost_of hr rfl T.m_cost_of T.F_cost_of.kp kb_cost_of_layout_indent_width (fun σ => passAt (takes0 (X := _)) σ) (pk_cons (pv 4) (pk_cons (pv 7) (pk_cons (pv 5) pk_nil)))) (pe_call G_l_due hr rfl T.m_l_due T.F_l_due.kp T.b_l_due .nil pass0 (pa_cons (pv 4) (pa_cons (pv 5) (pa_cons pe_int (pa_cons (pv 7) pa_nil))))) (nomark _))
(pss_one (ps_ret pe_bl))
pss_nil)
(pss_one (ps_if (pt_not (pt_val (pe_call G_l_refused hr rfl T.m_l_refused T.F_l_refused.kp T.b_l_refused .nil pass0 (pa_cons (pv 2) (pa_cons (pv 4) pa_nil)))))
(pss_one (ps_ret pe_bl))
pss_nil))))))))))))
(pss_cons (ps_if (PW.pt (pw_or (pt_cmpR (op_neD hr.units) (pe_ix ix_list (pe_call G_l_told hr rfl T.m_l_told T.F_l_told.kp T.b_l_told .nil pass0 (pa_cons (pe_tup (pa_cons (pe_tup (pa_cons pe_int (pa_cons pe_str pa_nil))) pa_nil)) (pa_cons pe_int (pa_cons pe_int (pa_cons pe_int pa_nil))))) pe_int (fun _ _ => rfl)) pe_str (nomark _)) (pw_or1 (pt_cmpR (op_neD hr.units) (pe_ix ix_list (pe_call G_l_told hr rfl T.m_l_told T.F_l_told.kp T.b_l_told .nil pass0 (pa_cons (pe_tup (pa_cons (pe_tup (pa_cons pe_int (pa_cons pe_str pa_nil))) pa_nil)) (pa_cons (pe_op op_pow pe_int pe_int) (pa_cons pe_int (pa_cons pe_int pa_nil))))) pe_int (fun _ _ => rfl)) pe_str (nomark _)))))
(pss_one (ps_ret pe_bl))
pss_nil)
(pss_cons (ps_if (PW.pt (pw_or (pt_cmpR (op_neD hr.units) (pe_callNS G_cost_of hr rfl T.m_cost_of T.F_cost_of.kp kb_cost_of_1_width (fun σ => passAt (takes0 (X := _)) σ) (pa_cons (pe_tup (pa_cons (pe_tup (pa_cons pe_int (pa_cons pe_str pa_nil))) (pa_cons (pe_tup (pa_cons pe_int (pa_cons pe_str pa_nil))) pa_nil))) pa_nil) (pk_cons pe_int pk_nil)) (pe_tup (pa_cons pe_int (pa_cons pe_int pa_nil))) (nomark _)) (pw_or1 (pt_cmpR (op_neD hr.units) (pe_callNS G_cost_of hr rfl T.m_cost_of T.F_cost_of.kp kb_cost_of_1_width_column (fun σ => passAt (takes0 (X := _)) σ) (pa_cons (pe_tup (pa_cons (pe_tup (pa_cons pe_int (pa_cons pe_str pa_nil))) pa_nil)) pa_nil) (pk_cons pe_int (pk_cons pe_int pk_nil))) (pe_tup (pa_cons pe_int (pa_cons pe_int pa_nil))) (nomark _)))))
(pss_one (ps_ret pe_bl))
pss_nil)
(pss_one (ps_ret (pe_cmpR (op_eqD hr.units) (pe_callNS G_cost_of hr rfl T.m_cost_of T.F_cost_of.kp kb_cost_of_1_width_column (fun σ => passAt (takes0 (X := _)) σ) (pa_cons (pe_tup (pa_cons (pe_tup (pa_cons pe_int (pa_cons pe_str pa_nil))) (pa_cons (pe_tup (pa_cons pe_int (pa_cons pe_str pa_nil))) pa_nil))) pa_nil) (pk_cons pe_int (pk_cons pe_int pk_nil))) (pe_tup (pa_cons pe_int (pa_cons pe_int pa_nil))) (nomark _))))))), ?_⟩
  have hl : (ns.map V.int).length = ns.length := List.length_map _
  refine ⟨_, rfl, _, _, rfl, .inl ⟨_, hS, rfl⟩, _, _, rfl, _, _, rfl, rfl, _, rfl, ?_⟩
  generalize hm : (if (((ns.map V.int).length : Nat) : Int) < 6 then (((ns.map V.int).length : Nat) : Int) else 6) = m
  have m0 : 0 ≤ m ∧ m ≤ 6 := by
    rw [← hm]
    split <;> omega
  clear hm
  refine ⟨by omega, by omega, for_range (lo := 0) (n := (1 + m).toNat) (fun i σ H' => ∃ v1 v2 v3 v4 v5 v6 v7 v8 : Option V, σ = [some (.ref a), v1, v2, v3, v4, v5, v6, v7, v8] ∧ Same H H')
    ⟨none, none, none, none, none, none, none, none, rfl, .refl _⟩ ?_ ?_⟩
  · rintro i σ H1 hi ⟨v1, v2, v3, v4, v5, v6, v7, v8, rfl, sH⟩
    refine ⟨_, rfl, _, rfl, a, ns, _, rfl, sH.seq hS, h63, by omega, by omega, fun p o hp pu => ?_⟩
    refine ⟨5, rfl, by decide, by decide, for_range (lo := 0) (n := 5) (fun j σ H' => ∃ w3 w4 w5 w6 w7 w8 : Option V, σ = [some (.ref a), some (.int (0 + (i : Nat))), some (.ref p), w3, w4, w5, w6, w7, w8] ∧ Same H1 (hide p H') ∧ PurseAt H' p (900000000 - 50 * j))
      ⟨v3, v4, v5, v6, v7, v8, rfl, same_hid hp, pu⟩ ?_ ?_⟩
    · rintro j σ H2 hj ⟨w3, w4, w5, w6, w7, w8, rfl, s2, pu2⟩
      refine ⟨_, rfl, p, (900000000 - 50 * j) - 20, rfl, pu2.less (by omega), fun H3 v rs s3 pu3 dv g => ?_⟩
      refine ⟨_, rfl, p, 41, (900000000 - 50 * j) - 21, rfl, pu3.less (by omega), by decide, by decide, fun H4 x4 hh4 pu4 a0 a1 => ?_⟩
      refine ⟨_, rfl, p, 41, (900000000 - 50 * j) - 22, rfl, pu4.less (by omega), by decide, by decide, fun H5 x5 hh5 pu5 b0 b1 => ⟨(by show 5 ≤ sizeLine; decide), fun l hl => ?_⟩⟩
      refine ⟨_, rfl, p, 5, (900000000 - 50 * j) - 23, rfl, (pu5.new hl).less (by omega), by decide, by decide, fun H6 x6 hh6 pu6 c0 c1 => ?_⟩
      refine pickH pu5 hl hh6 c0 c1 (ints_dp [x4, x5, 80, 999, 1000]) fun y d hd hy => ?_
      obtain ⟨wd, hwd, rfl⟩ := List.mem_map.mp hd
      obtain rfl := Dp.ofInt hy
      have wd0 : 0 ≤ wd := by
        simp only [List.mem_cons, List.not_mem_nil, or_false] at hwd
        omega
      have s6 : Same (hide p H3) (hide p H6) := (same_eq (hh5.trans hh4)).trans ((hs_new hl).trans (same_eq hh6))
      refine ⟨2, rfl, by decide, by decide, fun D hD => lc_range (lo := 0) (n := 2) (fun i H' => ∃ zs : List Int, H' D = some (.lst (zs.map V.int)) ∧ zs.length = i ∧ (∀ z ∈ zs, 0 ≤ z) ∧ PurseAt H' p ((900000000 - 50 * j) - 23 - 2 * i) ∧ Same (hide p H6) (hide p H'))
        ⟨[], upd_same, rfl, by simp, pu6.new hD, hs_new hD⟩ ?_ ?_⟩
      · rintro e H7 he ⟨zs, hD7, hl7, ha7, pu7, s7⟩
        have dD : D ≠ p := (pu6.ne hD).symm
        refine ⟨rfl, yesT (iteT ?_)⟩
        refine ⟨_, rfl, p, 20, (900000000 - 50 * j) - 23 - 2 * e - 1, rfl, pu7.less (by omega), by decide, by decide, fun H8 x8 hh8 pu8 d0 d1 => ⟨(by show 6 ≤ sizeLine; decide), fun l8 hl8 => ?_⟩⟩
        refine ⟨_, rfl, p, 6, (900000000 - 50 * j) - 23 - 2 * e - 2, rfl, (pu8.new hl8).less (by omega), by decide, by decide, fun H9 x9 hh9 pu9 e0 e1 => ?_⟩
        refine pickH pu8 hl8 hh9 e0 e1 (ints_dp [x8, 0, 40, 41, 999, 1000]) fun y d hd hy => ?_
        obtain ⟨z, hz, rfl⟩ := List.mem_map.mp hd
        obtain rfl := Dp.ofInt hy
        have z0 : 0 ≤ z := by
          simp only [List.mem_cons, List.not_mem_nil, or_false] at hz
          omega
        have hD8 : H8 D = some (.lst (zs.map V.int)) := (hide_get hh8 dD).trans hD7
        have hD9 : H9 D = some (.lst (zs.map V.int)) := by
          rw [hide_get hh9 dD, upd_ne (ne_of_none hD8 hl8), hD8]
        refine ⟨_, hD9, Nat.lt_of_le_of_lt (m := 2) (by rw [List.length_map]; omega) (by decide), zs ++ [z], ?_, by simp [hl7], fun q hq => ?_, (PurseAt.upd pu9 dD).less (by omega), same_at hD (s7.trans ((same_eq hh8).trans ((hs_new hl8).trans (same_eq hh9)))) dD⟩
        · rw [upd_same, List.map_append]
          rfl
        · rcases List.mem_append.mp hq with hq | hq
          · exact ha7 q hq
          · rw [List.mem_singleton.mp hq]
            exact z0
      · rintro H7 ⟨zs, hD7, hl7, ha7, pu7, s7⟩
        obtain ⟨st, dp, rfl⟩ := two_of hl7
        have st0 := ha7 st (by simp)
        have dp0 := ha7 dp (by simp)
        have s37 := s6.trans s7
        have x7 : Dp K H7 v (rowsD rs) := Dp.same (s37.trans hide_same) dv
        refine ⟨D, _, rfl, .of hD7, rfl, _, _, rfl, _, _, rfl, rfl, ?_⟩
        refine ⟨_, rfl, _, rfl, _, rfl, _, rfl, v, .int wd, .int st, .int dp, rowsD rs, .int wd, .int st, .int dp, rfl, x7, g.fine.weight, .int _, .int _, .int _, fun u8 H8 s8 d8 => ?_⟩
        rw [told_rows g wd0 st0 dp0] at d8
        refine ⟨_, rfl, _, rfl, _, rfl, _, rfl, v, rs, wd, st, dp, rfl, Dp.same s8 x7, g.short, fun u9 H9 s9 d9 => ⟨(by show 2 ≤ sizeLine; decide), fun q9 hq9 => ?_⟩⟩
        have n9 := same_new (o := .lst [.str "told", u9]) hq9
        refine ⟨_, _, Dp.same (s9.trans n9) d8, .lst (.of upd_same) (.cons (.str _) (.cons (Dp.same n9 d9) .nil)), told_shaped .., told_shaped .., _, rfl, ?_⟩
        rw [eqv_same (told_shaped ..)]
        have t9 := s8.trans (s9.trans n9)
        generalize upd H9 q9 _ = G9 at n9 t9 ⊢
        refine iteF ?_
        refine ⟨_, rfl, _, rfl, rfl, rfl, v, .int wd, .int 0, .int 0, rowsD rs, .int wd, .int 0, .int 0, rfl, cost_right g wd0 (by decide) (by decide) (Dp.same t9 x7) fun H10 u10 s10 d10 => ?_⟩
        refine ⟨_, rfl, _, rfl, v, rs, wd, 0, 0, rfl, Dp.same (t9.trans s10) x7, g.short, fun u11 H11 s11 d11 => ⟨_, _, Dp.same s11 d10, d11, cost_shaped .., cost_shaped .., _, rfl, ?_⟩⟩
        rw [eqv_same (cost_shaped ..)]
        have t11 := t9.trans (s10.trans s11)
        refine iteF ?_
        refine ⟨_, rfl, _, rfl, _, rfl, rfl, rfl, v, .int wd, .int 0, .int dp, rowsD rs, .int wd, .int 0, .int dp, rfl, cost_right g wd0 (by decide) dp0 (Dp.same t11 x7) fun H12 u12 s12 d12 => ?_⟩
        refine ⟨_, rfl, _, rfl, _, rfl, v, rs, wd, 0, dp, rfl, Dp.same (t11.trans s12) x7, g.short, fun u13 H13 s13 d13 => ⟨_, _, Dp.same s13 d12, d13, cost_shaped .., cost_shaped .., _, rfl, ?_⟩⟩
        rw [eqv_same (cost_shaped ..)]
        have t13 := t11.trans (s12.trans s13)
        refine iteF ?_
        have x13 : Dp K (hide p H13) v (rowsD rs) := Dp.same (s37.trans (Same.hide t13)) dv
        refine ⟨_, rfl, _, rfl, p, (900000000 - 50 * j) - 30, v, rowsD rs, rfl, (pu7.same t13).less (by omega), x13, g.fine, g.check, fun H14 s14 pu14 => ⟨_, rfl, iteF ?_⟩⟩
        exact ⟨_, _, _, _, _, _, rfl, s2.trans (s3.trans (s37.trans ((Same.hide t13).trans s14))), pu14.less (by omega)⟩
    · rintro σ H2 ⟨w3, w4, w5, w6, w7, w8, rfl, s2, pu2⟩
      exact ⟨_, _, _, _, _, _, _, _, rfl, sH.trans (s2.trans hide_same)⟩
  · rintro σ H1 ⟨v1, v2, v3, v4, v5, v6, v7, v8, rfl, sH⟩
    refine ⟨(by show 2 ≤ sizeLine; decide), fun t1 h1 => ⟨(by show 1 ≤ sizeLine; decide), fun t2 h2 => ?_⟩⟩
    have y1 : Dp K _ (.ref t2) (rowsD r1) := dp_tup (K := K) h2 (.cons (dp_tup h1 (.cons (.int 0) (.cons (.str "a") .nil))) .nil)
    generalize upd _ t2 _ = G2 at y1 ⊢
    refine ⟨.ref t2, .int 1001, .int 1001, .int 1001, rowsD r1, .int 1001, .int 1001, .int 1001, rfl, y1, g1.fine.weight, .int _, .int _, .int _, fun u3 H3 s3 d3 => ?_⟩
    rw [told_rows g1 (by decide) (by decide) (by decide)] at d3
    obtain ⟨ld3, xsd3, rfl, hld3, hxd3⟩ := Dp.ofLst d3
    obtain ⟨ad3, bd3, rfl, ed3, fd3⟩ := two_all hxd3
    obtain rfl := Dp.ofStr ed3
    refine ⟨ld3, _, 0, _, rfl, rfl, hld3, rfl, .str "told", .str "told", .str _, .str _, str_shaped, str_shaped, _, rfl, ?_⟩
    rw [eqv_same str_shaped]
    refine iteF ?_
    refine ⟨(by show 2 ≤ sizeLine; decide), fun t4 h4 => ⟨(by show 1 ≤ sizeLine; decide), fun t5 h5 => ?_⟩⟩
    have y5 : Dp K _ (.ref t5) (rowsD r1) := dp_tup (K := K) h5 (.cons (dp_tup h4 (.cons (.int 0) (.cons (.str "a") .nil))) .nil)
    generalize upd _ t5 _ = G5 at y5 ⊢
    refine ⟨_, _, rfl, rfl, ⟨by decide, by decide, by decide⟩, .ref t5, _, .int 0, .int 0, rowsD r1, .int (10 ^ Int.toNat 9), .int 0, .int 0, rfl, y5, g1.fine.weight, .int _, .int _, .int _, fun u6 H6 s6 d6 => ?_⟩
    rw [told_rows g1 (by decide) (by decide) (by decide)] at d6
    obtain ⟨ld6, xsd6, rfl, hld6, hxd6⟩ := Dp.ofLst d6
    obtain ⟨ad6, bd6, rfl, ed6, fd6⟩ := two_all hxd6
    obtain rfl := Dp.ofStr ed6
    refine ⟨ld6, _, 0, _, rfl, rfl, hld6, rfl, .str "told", .str "told", .str _, .str _, str_shaped, str_shaped, _, rfl, ?_⟩
    rw [eqv_same str_shaped]
    refine iteF ?_
    refine ⟨(by show 2 ≤ sizeLine; decide), fun t7 h7 => ⟨(by show 2 ≤ sizeLine; decide), fun t8 h8 => ⟨(by show 2 ≤ sizeLine; decide), fun t9 h9 => ?_⟩⟩⟩
    have x7 := dp_tup (K := K) h7 (.cons (.int 0) (.cons (.str "") .nil))
    have x8 := dp_tup (K := K) h8 (.cons (.int 9) (.cons (.str "") .nil))
    have y9 : Dp K _ (.ref t9) (rowsD r2) := dp_tup (K := K) h9 (.cons (Dp.same (same_new h8) x7) (.cons x8 .nil))
    generalize upd _ t9 _ = G9 at y9 ⊢
    refine ⟨rfl, rfl, .ref t9, .int 5, .int 0, .int 0, rowsD r2, .int 5, .int 0, .int 0, rfl, cost_right g2 (by decide) (by decide) (by decide) y9 fun H10 u10 s10 d10 => ⟨(by show 2 ≤ sizeLine; decide), fun t10 h10 => ?_⟩⟩
    rw [c2] at d10
    refine ⟨_, .tuple [.int 4, .int 2], Dp.same (same_new h10) d10, .tup (.of upd_same) (.cons (.int 4) (.cons (.int 2) .nil)), rfl, rfl, _, rfl, ?_⟩
    rw [eqv_same (d := .tuple [.int 4, .int 2]) rfl]
    refine iteF ?_
    refine ⟨(by show 2 ≤ sizeLine; decide), fun t11 h11 => ⟨(by show 1 ≤ sizeLine; decide), fun t12 h12 => ?_⟩⟩
    have y12 : Dp K _ (.ref t12) (rowsD r3) := dp_tup (K := K) h12 (.cons (dp_tup h11 (.cons (.int 0) (.cons (.str "") .nil))) .nil)
    generalize upd _ t12 _ = G12 at y12 ⊢
    refine ⟨rfl, rfl, .ref t12, .int 5, .int 8, .int 0, rowsD r3, .int 5, .int 8, .int 0, rfl, cost_right g3 (by decide) (by decide) (by decide) y12 fun H13 u13 s13 d13 => ⟨(by show 2 ≤ sizeLine; decide), fun t13 h13 => ?_⟩⟩
    rw [c3] at d13
    refine ⟨_, .tuple [.int 3, .int 1], Dp.same (same_new h13) d13, .tup (.of upd_same) (.cons (.int 3) (.cons (.int 1) .nil)), rfl, rfl, _, rfl, ?_⟩
    rw [eqv_same (d := .tuple [.int 3, .int 1]) rfl]
    refine iteF ?_
    refine ⟨(by show 2 ≤ sizeLine; decide), fun t14 h14 => ⟨(by show 2 ≤ sizeLine; decide), fun t15 h15 => ⟨(by show 2 ≤ sizeLine; decide), fun t16 h16 => ?_⟩⟩⟩
    have x14 := dp_tup (K := K) h14 (.cons (.int 0) (.cons (.str "abc") .nil))
    have x15 := dp_tup (K := K) h15 (.cons (.int 2) (.cons (.str "de") .nil))
    have y16 : Dp K _ (.ref t16) (rowsD r4) := dp_tup (K := K) h16 (.cons (Dp.same (same_new h15) x14) (.cons x15 .nil))
    generalize upd _ t16 _ = G16 at y16 ⊢
    refine ⟨rfl, rfl, .ref t16, .int 3, .int 1, .int 0, rowsD r4, .int 3, .int 1, .int 0, rfl, cost_right g4 (by decide) (by decide) (by decide) y16 fun H17 u17 s17 d17 => ⟨(by show 2 ≤ sizeLine; decide), fun t17 h17 => ?_⟩⟩
    rw [c4] at d17
    refine ⟨_, .tuple [.int 2, .int 2], Dp.same (same_new h17) d17, .tup (.of upd_same) (.cons (.int 2) (.cons (.int 2) .nil)), rfl, rfl, ?_⟩
    rw [eqv_same (d := .tuple [.int 2, .int 2]) rfl]
    exact hq _
end
end K30

namespace K30
open PySem PySem.Spec PyProof.Rows L2 Vk
section
variable {P : Program} {w : World} {K : PySem.W.Frag} {mg : Str → Option Value} {base : Heap} {k : Nat}
theorem ok_line (T : Tx K mg) (G_is_whole : FnOk P w K mg base CX0 k T.a_is_whole T.d_is_whole P_is_whole (spWhole K)) (G_is_plain : FnOk P w K mg base CX0 k T.a_is_plain T.d_is_plain P_is_plain (spPlain K)) :
    FnOk P w K mg base CX0 (k + 1) T.a_is_line T.d_is_line P_is_line (spLine K) := by
  refine T.F_is_line.ok sc_is_line (fun vs H Q E h => ?_) (fun cdv A outer s H vs Q E hr h => ?_)
  · obtain ⟨v, d, rfl, _⟩ := h
    rfl
  obtain ⟨v, d, rfl, hd, hw, hq⟩ := h
  refine ⟨_, (pss_cons (ps_if (PW.pt (pw_or (pt_not (pt_val (pe_callB call_isi rfl T.z_isinstance (by decide +kernel) (pa_cons (pv 0) (pa_cons (pe_bltn (v := .ty "tuple") rfl T.z_tuple (by decide +kernel) rfl) pa_nil))))) (pw_or1 (pt_cmpR (op_neD hr.units) (pe_callB call_len rfl T.z_len (by decide +kernel) (pa_cons (pv 0) pa_nil)) pe_int (nomark _)))))
(pss_one (ps_ret pe_bl))
pss_nil)
(pss_one (ps_ret (pe_and (pe_call G_is_whole hr rfl T.m_is_whole T.F_is_whole.kp T.b_is_whole .nil pass0 (pa_cons (pe_ix ix_tup (pv 0) pe_int (fun _ _ => rfl)) pa_nil)) (pe_one (pe_call G_is_plain hr rfl T.m_is_plain T.F_is_plain.kp T.b_is_plain .nil pass0 (pa_cons (pe_ix ix_tup (pv 0) pe_int (fun _ _ => rfl)) pa_nil))))))), ?_⟩
  refine ⟨_, rfl, _, _, _, _, _, rfl, .ty "tuple", dp_ty hd, kit_tup d, _, rfl, ?_⟩
  cases hd with
  | tup hs ha =>
    rename_i a xs ds
    refine iteF ⟨_, rfl, _, _, rfl, .inr ⟨_, hs, rfl⟩, _, _, .int _, .int _, rfl, rfl, _, rfl, ?_⟩
    rw [eqv_int, neI]
    refine ite2 (fun c => ?_) (fun c => ?_)
    · have c' : ((xs.length : Nat) : Int) ≠ 2 := of_decide_eq_true c
      have e : lineD (.tuple ds) = false := lineD_two (by rw [← DpAll.length ha]; omega)
      rw [e] at hq
      exact hq _ (.refl _)
    · have c' : ¬ ((xs.length : Nat) : Int) ≠ 2 := of_decide_eq_false (Bool.eq_false_iff.mpr c)
      have l2 := DpAll.length ha
      obtain ⟨d0, d1, rfl⟩ := two_of (l := ds) (by omega)
      obtain ⟨v0, v1, rfl, h0, h1⟩ := two_all ha
      refine ⟨_, rfl, a, _, _, v0, rfl, rfl, hs, rfl, _, _, rfl, h0, _, rfl, ?_⟩
      have w1 : d1.weight ≤ 1000000 := Nat.le_trans (weight_mem (ds := [d0, d1]) (by simp)) hw
      have e : lineD (.tuple [d0, d1]) = (wholeD d0 && plainD d1) := rfl
      rw [e] at hq
      refine ite2 (fun c => ?_) (fun c => ?_)
      · rw [c] at hq
        exact ⟨_, rfl, a, _, _, v1, rfl, rfl, hs, rfl, _, _, rfl, h1, w1, fun H' s' => hq H' s'⟩
      · rw [Bool.eq_false_iff.mpr c] at hq
        exact hq _ (.refl _)
  | non => exact iteT (hq _ (.refl _))
  | bl b => exact iteT (hq _ (.refl _))
  | int i => exact iteT (hq _ (.refl _))
  | str x => exact iteT (hq _ (.refl _))
  | lst a b => exact iteT (hq _ (.refl _))
end
section
variable {P : Program} {w : World} {K : PySem.W.Frag} {mg : Str → Option Value} {base : Heap} {k : Nat}
theorem ok_check (T : Tx K mg) (G_is_line : FnOk P w K mg base CX0 k T.a_is_line T.d_is_line P_is_line (spLine K)) :
    FnOk P w K mg base CX0 (k + 1) T.a_check_layout T.d_check_layout P_check_layout (spCheck K) := by
  refine T.F_check_layout.ok sc_check_layout (fun vs H Q E h => ?_) (fun cdv A outer s H vs Q E hr h => ?_)
  · obtain ⟨v, d, rfl, _⟩ := h
    rfl
  obtain ⟨v, d, rfl, hd, hw, hq⟩ := h
  refine ⟨_, (pss_cons (ps_if (PW.pt (pw_or (pt_not (pt_val (pe_callB call_isi rfl T.z_isinstance (by decide +kernel) (pa_cons (pv 0) (pa_cons (pe_bltn (v := .ty "tuple") rfl T.z_tuple (by decide +kernel) rfl) pa_nil))))) (pw_or1 (pt_cmpR (op_eqD hr.units) (pe_callB call_len rfl T.z_len (by decide +kernel) (pa_cons (pv 0) pa_nil)) pe_int (nomark _)))))
(pss_one (ps_ret (pe_tup (pa_cons pe_str pa_nil))))
pss_nil)
(pss_cons (ps_for PassesOwn.never rfl (pi_enT rfl T.z_enumerate (pa_cons (pv 0) pa_nil)) (pg_tup rfl (pgs_cons (pg_name (i := 1) sc_check_layout.nd rfl (Or.inl rfl)) (pgs_cons (pg_name (i := 2) sc_check_layout.nd rfl (Or.inl rfl)) pgs_nil)))
(pss_one (ps_if (pt_not (pt_val (pe_call G_is_line hr rfl T.m_is_line T.F_is_line.kp T.b_is_line .nil pass0 (pa_cons (pv 2) pa_nil))))
(pss_one (ps_ret (pe_tup (pa_cons pe_str (pa_cons (pv 1) pa_nil)))))
pss_nil)))
(pss_cons (ps_if (pt_cmpR (op_neD hr.units) (pe_ix ix_tup (pe_ix ix_tup (pv 0) pe_int (fun _ _ => rfl)) pe_int (fun _ _ => rfl)) pe_int (nomark _))
(pss_one (ps_ret (pe_tup (pa_cons pe_str pa_nil))))
pss_nil)
(pss_one (ps_ret pe_non))))), ?_⟩
  refine ⟨_, rfl, _, _, _, _, _, rfl, .ty "tuple", dp_ty hd, kit_tup d, _, rfl, ?_⟩
  have bad : checkD d = .tuple [.str "form"] → ∀ p, H p = none → Q (.ref p) (upd H p (.tup [.str "form"])) := fun e p hp => by
    refine hq _ _ (same_new hp) ?_
    rw [e]
    exact one_tup (.str _)
  cases hd with
  | tup hs ha =>
    rename_i a xs ds
    have l2 := DpAll.length ha
    refine iteF ⟨_, rfl, _, _, rfl, .inr ⟨_, hs, rfl⟩, _, _, .int _, .int _, rfl, rfl, _, rfl, ?_⟩
    rw [eqv_int]
    refine ite2 (fun c => ?_) (fun c => ?_)
    · have c' : ((xs.length : Nat) : Int) = 0 := by simpa using c
      obtain rfl : ds = [] := List.length_eq_zero_iff.mp (by omega)
      exact ⟨(by show 1 ≤ sizeLine; decide), fun p hp => bad rfl p hp⟩
    · have c' : ¬ ((xs.length : Nat) : Int) = 0 := by simpa using c
      have hne : ds ≠ [] := fun e => c' (by rw [e] at l2; rw [l2]; rfl)
      have hc : checkD (.tuple ds) = checkRows ds := by
        obtain ⟨_, _, rfl⟩ := List.exists_cons_of_ne_nil hne
        rfl
      rw [hc] at hq
      refine ⟨_, rfl, a, xs, rfl, hs, for_it walk_enT (fun i σ H' => Same H H' ∧ (∃ v1 v2, σ = [some (.ref a), v1, v2]) ∧ ∀ e ∈ ds.take i, lineD e = true) ⟨.refl _, ⟨none, none, rfl⟩, by simp⟩
        (fun i σ H' _ q => Same.seqT q.1 hs) ?_ ?_⟩
      · rintro i x σ H1 H2 hi ⟨s1, ⟨v1, v2, rfl⟩, hl⟩ ⟨T1, x1, x2, rfl, hT, rfl, e1, e2⟩
        obtain rfl := Option.some.inj e1
        have hi2 : i < ds.length := by omega
        have hd2 : ds[i]? = some ds[i] := List.getElem?_eq_getElem hi2
        obtain ⟨y, hy, dy⟩ := DpAll.get ha hd2
        obtain rfl := Option.some.inj (hy.symm.trans e2)
        have s2 : Same H (upd H1 T1 (.tup [.int (i : Nat), y])) := s1.trans (same_new hT)
        refine ⟨T1, _, rfl, .of upd_same, rfl, _, _, rfl, _, _, rfl, rfl, ?_⟩
        refine ⟨_, rfl, _, ds[i], rfl, Dp.same s2 dy, Nat.le_trans (weight_mem (List.getElem_mem hi2)) hw, fun H3 s3 => ?_⟩
        refine ⟨_, rfl, ite2 (fun c => ?_) (fun c => ?_)⟩
        · have cb : lineD ds[i] = false := by simpa using c
          refine ⟨_, rfl, (by show 2 ≤ sizeLine; decide), fun p hp => ?_⟩
          refine hq _ _ ((s2.trans s3).trans (same_new hp)) ?_
          have e : checkRows ds = .tuple [.str "line", .int (i : Nat)] := by
            unfold checkRows
            rw [firstBad_ix hd2 hl cb]
          rw [e]
          exact .tup (.of upd_same) (.cons (.str _) (.cons (.int _) .nil))
        · have cb : lineD ds[i] = true := by simpa using c
          refine ⟨s2.trans s3, ⟨_, _, rfl⟩, fun e he => ?_⟩
          rw [List.take_add_one, hd2] at he
          rcases List.mem_append.mp he with he | he
          · exact hl e he
          · rw [List.mem_singleton.mp he]
            exact cb
      · rintro σ H1 ⟨s1, ⟨v1, v2, rfl⟩, hl⟩
        have hall : ∀ e ∈ ds, lineD e = true := fun e he => hl e (by rw [List.take_of_length_le (by omega)]; exact he)
        have hno : firstBad 0 ds = none := firstBad_no ds 0 hall
        obtain ⟨d0, ds', rfl⟩ := List.exists_cons_of_ne_nil hne
        obtain ⟨v0, xs', rfl, h0, ht⟩ := cons_all ha
        obtain ⟨i, z, rfl, i0, hz⟩ := lineD_shape (hall d0 (List.mem_cons_self ..))
        obtain ⟨b, ys, rfl, hb, hys⟩ := Dp.ofTup h0
        obtain ⟨y0, y1, rfl, g0, g1⟩ := two_all hys
        obtain rfl := Dp.ofInt g0
        refine ⟨_, rfl, a, _, _, _, rfl, rfl, Same.seqT s1 hs, at_of (j := 0) rfl rfl, b, _, _, _, rfl, rfl, Same.seqT s1 hb, rfl, _, _, .int _, .int _, rfl, rfl, _, rfl, ?_⟩
        rw [eqv_int, neI]
        have hcr : checkRows (.tuple [.int i, .str z] :: ds') = if i = 0 then .none else .tuple [.str "first"] := by
          unfold checkRows
          rw [hno]
          rfl
        rw [hcr] at hq
        refine ite2 (fun c => ?_) (fun c => ?_)
        · have c' : i ≠ 0 := of_decide_eq_true c
          rw [if_neg c'] at hq
          exact ⟨(by show 1 ≤ sizeLine; decide), fun p hp => hq _ _ (s1.trans (same_new hp)) (one_tup (.str _))⟩
        · have c' : ¬ i ≠ 0 := of_decide_eq_false (Bool.eq_false_iff.mpr c)
          rw [if_pos (by omega)] at hq
          exact hq _ _ s1 .non
  | non => exact iteT ⟨(by show 1 ≤ sizeLine; decide), fun p hp => bad rfl p hp⟩
  | bl b => exact iteT ⟨(by show 1 ≤ sizeLine; decide), fun p hp => bad rfl p hp⟩
  | int i => exact iteT ⟨(by show 1 ≤ sizeLine; decide), fun p hp => bad rfl p hp⟩
  | str x => exact iteT ⟨(by show 1 ≤ sizeLine; decide), fun p hp => bad rfl p hp⟩
  | lst a b => exact iteT ⟨(by show 1 ≤ sizeLine; decide), fun p hp => bad rfl p hp⟩
end
end K30

namespace K30
open PySem PySem.Spec PyProof.Rows L2 Vk
/-! ### the refusals and cost_of -/
theorem firstBad_none : ∀ (ds : List PyData) (k : Nat), firstBad k ds = none → ∀ d ∈ ds, lineD d = true
  | [], _, _, d, hd => by cases hd
  | r :: rs, k, h, d, hd => by
    unfold firstBad at h
    split at h
    · rename_i e
      rcases List.mem_cons.mp hd with rfl | hd
      · exact e
      · exact firstBad_none rs (k + 1) h d hd
    · cases h
theorem rows_lines : ∀ {ds : List PyData}, (∀ d ∈ ds, lineD d = true) → ∃ rs : List Row, ds = rs.map rowD ∧ ∀ r ∈ rs, 0 ≤ r.1
  | [], _ => ⟨[], rfl, by simp⟩
  | d :: ds, h => by
    obtain ⟨i, z, rfl, i0, _⟩ := lineD_shape (h d (List.mem_cons_self ..))
    obtain ⟨rs, rfl, hr⟩ := rows_lines (ds := ds) fun d hd => h d (List.mem_cons_of_mem _ hd)
    refine ⟨(i, z) :: rs, rfl, fun r hr' => ?_⟩
    rcases List.mem_cons.mp hr' with rfl | hr'
    · exact i0
    · exact hr r hr'
theorem rows_check {d : PyData} (h : checkD d = .none) : ∃ (r : Row) (rs : List Row), d = rowsD (r :: rs) ∧ r.1 = 0 ∧ ∀ q ∈ r :: rs, 0 ≤ q.1 := by
  cases d with
  | tuple ds =>
    cases ds with
    | nil => cases h
    | cons d0 ds =>
      have h' : checkRows (d0 :: ds) = .none := h
      unfold checkRows at h'
      split at h'
      · cases h'
      · rename_i e
        obtain ⟨rs, hrs, hr⟩ := rows_lines (firstBad_none _ _ e)
        cases rs with
        | nil => cases hrs
        | cons r rs =>
          obtain ⟨rfl, rfl⟩ := List.cons.inj hrs
          refine ⟨r, rs, rfl, ?_, hr⟩
          have h2 : (if r.1 = 0 then PyData.none else PyData.tuple [.str "first"]) = .none := h'
          by_cases c : r.1 = 0
          · exact c
          · rw [if_neg c] at h2
            cases h2
  | _ => cases h
theorem str_short {rs : List Row} (h : (rowsD rs).weight ≤ 1000000) : ∀ r ∈ rs, r.2.length ≤ 1000000 := fun r hr => by
  have h1 := Nat.le_trans (weight_mem (List.mem_map_of_mem (f := rowD) hr)) h
  have h2 : (PyData.str r.2).weight ≤ (rowD r).weight := weight_mem (ds := [.int r.1, .str r.2]) (by simp)
  have h3 : (PyData.str r.2).weight = r.2.length := rfl
  omega
theorem weightAll_len : ∀ ds : List PyData, ds.length ≤ PyData.weightAll ds
  | [] => Nat.le_refl _
  | d :: ds => by
    have := weightAll_len ds
    show ds.length + 1 ≤ PyData.weight d + 1 + PyData.weightAll ds
    omega
theorem weight_len {rs : List Row} : rs.length ≤ (rowsD rs).weight := by
  have h := weightAll_len (rs.map rowD)
  rw [List.length_map] at h
  exact h
theorem whole_is {d : PyData} (h : wholeD d = true) : ∃ i : Int, d = .int i ∧ 0 ≤ i := by
  cases d with
  | int i => exact ⟨i, rfl, of_decide_eq_true h⟩
  | _ => cases h
def spRefuse (K : PySem.W.Frag) (CL : Addr) : Sp := fun vs H Q E => ∃ (a : Addr) (v : V) (d : PyData), vs = [.ref a] ∧ SqL K H a [v] ∧ Dp K H v d ∧ d.weight ≤ 1000000 ∧
  (checkD d ≠ .none → ∀ H' u, Same H H' → Dp K H' u (checkD d) → Out E CL "problem" u H') ∧ (checkD d = .none → ∀ H', Same H H' → Q .non H')
def spWrong (K : PySem.W.Frag) (CW CP : Addr) : Sp := fun vs H Q E => ∃ (wv cv iv : V) (dw dc di : PyData), vs = [wv, cv, iv] ∧ Dp K H wv dw ∧ Dp K H cv dc ∧ Dp K H iv di ∧
  (wholeD dw = false → ∀ H', Same H H' → Out E CW "value" wv H') ∧
  (wholeD dw = true → wholeD dc = false → ∀ H', Same H H' → Out E CP "value" cv H') ∧
  (wholeD dw = true → wholeD dc = true → wholeD di = false → ∀ H', Same H H' → Out E CP "value" iv H') ∧
  (wholeD dw = true → wholeD dc = true → wholeD di = true → ∀ H', Same H H' → Q .non H')
def endV (d : Int) (r : Row) : Int := d + r.1 + (r.2.length : Nat)
def exc (w e : Int) : Int := if e - w > 0 then e - w else 0
theorem exFold_sum {w s d : Int} : ∀ (rs : List Row) (i : Nat) (acc : Int), 0 < i → exFold w s d i acc rs = acc + (rs.map fun r => exc w (endV d r)).sum
  | [], _, acc, _ => by
    show acc = acc + 0
    omega
  | r :: rs, i, acc, h => by
    show exFold w s d (i + 1) (acc + max (endAt i r s d - w) 0) rs = _
    rw [exFold_sum rs (i + 1) _ (by omega), List.map_cons, List.sum_cons]
    have e : max (endAt i r s d - w) 0 = exc w (endV d r) := by
      unfold endAt exc endV
      rw [if_pos h]
      split <;> omega
    rw [e]
    omega
theorem total_sum {w s d : Int} (r : Row) (rs : List Row) : total w s d (r :: rs) = (((s + (r.2.length : Nat)) :: rs.map (endV d)).map (exc w)).sum := by
  show exFold w s d 1 (0 + max (endAt 0 r s d - w) 0) rs = _
  rw [exFold_sum rs 1 _ (by omega), List.map_cons, List.sum_cons, List.map_map]
  have e : max (endAt 0 r s d - w) 0 = exc w (s + (r.2.length : Nat)) := by
    unfold endAt exc
    rw [if_neg (by omega)]
    split <;> omega
  rw [e]
  have f : (exc w ∘ endV d) = fun r => exc w (endV d r) := rfl
  rw [f]
  omega
section
variable {P : Program} {w : World} {K : PySem.W.Frag} {mg : Str → Option Value} {base : Heap} {k : Nat}
theorem ok_refuse (T : Tx K mg) (hk2 : 2 ≤ k) (G_check_layout : FnOk P w K mg base CX0 k T.a_check_layout T.d_check_layout P_check_layout (spCheck K)) :
    FnOk P w K mg base (L2.CX P w) (k + 1) T.a_refuse_non_layouts T.d_refuse_non_layouts P_refuse_non_layouts (spRefuse K T.e_InvalidLayout.C) := by
  refine T.F_refuse_non_layouts.okX sc_refuse_non_layouts (fun vs H Q E h => ?_) (fun cdv A outer s H vs Q E hr h => ?_)
  · obtain ⟨a, v, d, rfl, _⟩ := h
    rfl
  obtain ⟨a, v, d, rfl, hs, hd, hw, he, hq⟩ := h
  refine ⟨_, (pss_one (ps_for (passes_of rfl) rfl (pi_list (pv 0)) (pg_name (i := 1) sc_refuse_non_layouts.nd rfl (Or.inl rfl))
(pss_cons (ps_set (i := 2) sc_refuse_non_layouts.nd rfl (Or.inl rfl) (pe_call G_check_layout hr rfl T.m_check_layout T.F_check_layout.kp T.b_check_layout .nil pass0 (pa_cons (pv 1) pa_nil)))
(pss_one (ps_if (pt_cmpR op_notN (pv 2) pe_non (nomark _))
(pss_one (ps_raise rfl (takes_of rfl rfl rfl rfl) (pmk_oex T.e_InvalidLayout.ox T.e_InvalidLayout.iC T.e_InvalidLayout.tI (init_InvalidLayout T) (hr.mono hk2) T.e_InvalidLayout.b .nil pass0 rfl T.e_InvalidLayout.m (pa_cons (pv 2) pa_nil))))
pss_nil))))), ?_⟩
  refine ⟨_, rfl, a, rfl, ⟨_, hs⟩, for_list (a := a) (xs := [v]) (fun i σ H' => Same H H' ∧ (∃ v1 v2, σ = [some (.ref a), v1, v2]) ∧ (i = 1 → checkD d = .none)) ⟨.refl _, ⟨none, none, rfl⟩, by intro h; cases h⟩ (fun i σ H' _ q => q.1.seq hs) ?_ ?_⟩
  · rintro i x σ H1 hx ⟨s1, ⟨v1, v2, rfl⟩, _⟩
    have hi : i = 0 := by
      have := (List.getElem?_eq_some_iff.mp hx).1
      simp at this
      exact this
    subst hi
    obtain rfl : v = x := Option.some.inj hx
    refine ⟨_, rfl, v, d, rfl, Dp.same s1 hd, hw, fun u H2 s2 du => ?_⟩
    refine ⟨_, rfl, rfl, ?_⟩
    by_cases c : checkD d = .none
    · rw [c] at du
      obtain rfl := Dp.ofNon du
      exact ⟨_, rfl, iteF ⟨s1.trans s2, ⟨_, _, rfl⟩, fun _ => c⟩⟩
    · rw [dp_nonF du c]
      exact ⟨_, rfl, iteT ⟨_, rfl, mkO_fin (he c _ u (s1.trans s2) du)⟩⟩
  · rintro σ H1 ⟨s1, ⟨v1, v2, rfl⟩, c⟩
    exact hq (c rfl) _ s1
theorem ok_wrong (T : Tx K mg) (hk2 : 2 ≤ k) (G_is_whole : FnOk P w K mg base CX0 k T.a_is_whole T.d_is_whole P_is_whole (spWhole K)) :
    FnOk P w K mg base (L2.CX P w) (k + 1) T.a_refuse_wrong_numbers T.d_refuse_wrong_numbers P_refuse_wrong_numbers (spWrong K T.e_InvalidWidth.C T.e_InvalidPlace.C) := by
  refine T.F_refuse_wrong_numbers.okX sc_refuse_wrong_numbers (fun vs H Q E h => ?_) (fun cdv A outer s H vs Q E hr h => ?_)
  · obtain ⟨wv, cv, iv, dw, dc, di, rfl, _⟩ := h
    rfl
  obtain ⟨wv, cv, iv, dw, dc, di, rfl, hw, hc, hi, ew, ec, ei, hq⟩ := h
  refine ⟨_, (pss_cons (ps_if (pt_not (pt_val (pe_call G_is_whole hr rfl T.m_is_whole T.F_is_whole.kp T.b_is_whole .nil pass0 (pa_cons (pv 0) pa_nil))))
(pss_one (ps_raise rfl (takes_of rfl rfl rfl rfl) (pmk_oex T.e_InvalidWidth.ox T.e_InvalidWidth.iC T.e_InvalidWidth.tI (init_InvalidWidth T) (hr.mono hk2) T.e_InvalidWidth.b .nil pass0 rfl T.e_InvalidWidth.m (pa_cons (pv 0) pa_nil))))
pss_nil)
(pss_one (ps_for (passes_of rfl) rfl (pi_tup (pe_tup (pa_cons (pv 1) (pa_cons (pv 2) pa_nil)))) (pg_name (i := 3) sc_refuse_wrong_numbers.nd rfl (Or.inl rfl))
(pss_one (ps_if (pt_not (pt_val (pe_call G_is_whole hr rfl T.m_is_whole T.F_is_whole.kp T.b_is_whole .nil pass0 (pa_cons (pv 3) pa_nil))))
(pss_one (ps_raise rfl (takes_of rfl rfl rfl rfl) (pmk_oex T.e_InvalidPlace.ox T.e_InvalidPlace.iC T.e_InvalidPlace.tI (init_InvalidPlace T) (hr.mono hk2) T.e_InvalidPlace.b .nil pass0 rfl T.e_InvalidPlace.m (pa_cons (pv 3) pa_nil))))
pss_nil))))), ?_⟩
  refine ⟨_, rfl, wv, dw, rfl, hw, ?_⟩
  cases cw : wholeD dw with
  | false => exact ⟨_, rfl, iteT ⟨_, rfl, mkO_fin (ew cw _ (.refl _))⟩⟩
  | true =>
  refine ⟨_, rfl, iteF ?_⟩
  refine ⟨_, rfl, _, rfl, (by show 2 ≤ sizeLine; decide), fun t ht => ?_⟩
  have s0 := same_new (o := .tup [cv, iv]) ht
  have k0 : SqT K (upd H t (.tup [cv, iv])) t [cv, iv] := .of upd_same
  refine ⟨t, rfl, ⟨_, k0⟩, for_tup (a := t) (xs := [cv, iv]) (fun i σ H' => Same (upd H t (.tup [cv, iv])) H' ∧ (∃ v1, σ = [some wv, some cv, some iv, v1]) ∧ (1 ≤ i → wholeD dc = true) ∧ (2 ≤ i → wholeD di = true)) ⟨.refl _, ⟨none, rfl⟩, by intro h; omega, by intro h; omega⟩ (fun i σ H' _ q => Same.seqT q.1 k0) ?_ ?_⟩
  · rintro i x σ H1 hx ⟨s1, ⟨v1, rfl⟩, h1, h2⟩
    match i, hx with
    | 0, hx =>
      obtain rfl : cv = x := Option.some.inj hx
      refine ⟨_, rfl, cv, dc, rfl, Dp.same (s0.trans s1) hc, ?_⟩
      cases cc : wholeD dc with
      | false => exact ⟨_, rfl, iteT ⟨_, rfl, mkO_fin (ec cw cc _ (s0.trans s1))⟩⟩
      | true => exact ⟨_, rfl, iteF ⟨s1, ⟨_, rfl⟩, fun _ => rfl, by intro h; omega⟩⟩
    | 1, hx =>
      obtain rfl : iv = x := Option.some.inj hx
      refine ⟨_, rfl, iv, di, rfl, Dp.same (s0.trans s1) hi, ?_⟩
      have cc := h1 (by omega)
      cases ci : wholeD di with
      | false => exact ⟨_, rfl, iteT ⟨_, rfl, mkO_fin (ei cw cc ci _ (s0.trans s1))⟩⟩
      | true => exact ⟨_, rfl, iteF ⟨s1, ⟨_, rfl⟩, fun _ => cc, fun _ => rfl⟩⟩
    | i + 2, hx => simp at hx
  · rintro σ H1 ⟨s1, ⟨v1, rfl⟩, h1, h2⟩
    exact hq cw (h1 (by simp)) (h2 (by simp)) _ (s0.trans s1)
theorem ok_cost (T : Tx K mg) (G_refuse_non_layouts : FnOk P w K mg base (L2.CX P w) k T.a_refuse_non_layouts T.d_refuse_non_layouts P_refuse_non_layouts (spRefuse K T.e_InvalidLayout.C))
    (G_refuse_wrong_numbers : FnOk P w K mg base (L2.CX P w) k T.a_refuse_wrong_numbers T.d_refuse_wrong_numbers P_refuse_wrong_numbers (spWrong K T.e_InvalidWidth.C T.e_InvalidPlace.C)) :
    FnOk P w K mg base (L2.CX P w) (k + 1) T.a_cost_of T.d_cost_of P_cost_of (spCost K T.e_InvalidLayout.C T.e_InvalidWidth.C T.e_InvalidPlace.C) := by
  refine T.F_cost_of.ok sc_cost_of (fun vs H Q E h => ?_) (fun cdv A outer s H vs Q E hr h => ?_)
  · obtain ⟨v, wv, cv, iv, d, dw, dc, di, rfl, _⟩ := h
    rfl
  obtain ⟨v, wv, cv, iv, d, dw, dc, di, rfl, C⟩ := h
  refine ⟨_, (pss_cons (ps_expr (pe_callS G_refuse_non_layouts hr rfl T.m_refuse_non_layouts T.F_refuse_non_layouts.kp T.b_refuse_non_layouts (fun σ => passAt (takes_of rfl rfl rfl rfl) σ) (pa_cons (pe_lst (pa_cons (pv 0) pa_nil)) pa_nil)))
(pss_cons (ps_expr (pe_callS G_refuse_wrong_numbers hr rfl T.m_refuse_wrong_numbers T.F_refuse_wrong_numbers.kp T.b_refuse_wrong_numbers (fun σ => passAt (takes_of rfl rfl rfl rfl) σ) (pa_cons (pv 1) (pa_cons (pv 2) (pa_cons (pv 3) pa_nil)))))
(pss_cons (ps_setLc (i := 4) (own := [("own", 5), ("string", 6)]) (g := (gTup K 2 (gCons (gName 5) (gCons (gName 6) gNil)))) (tt := tYes) rfl sc_cost_of.nd rfl rfl (sw_true rfl rfl rfl (by decide +kernel)) (pi_tup (pv 0)) (blkOk_by (own := [("own", 5), ("string", 6)]) (N := N_cost_of) (sc := defScope s_cost_of) (by decide +kernel)) (fun _ _ _ _ _ => (pg_tup rfl (pgs_cons (pg_name (i := 5) sc_cost_of.nd rfl (Or.inl rfl)) (pgs_cons (pg_name (i := 6) sc_cost_of.nd rfl (Or.inl rfl)) pgs_nil)))) (fun _ _ _ _ _ => pts_nil) (fun _ _ _ _ _ => (pe_op op_add (pe_op op_add (pv 3) (pv 5)) (pe_callB (id := "len") (show CallR _ (.builtin "len") (fun xs H Q => ∃ x n, xs = [x] ∧ LenV K x H n ∧ Q (.int n) H) from call_len) rfl T.z_len (by decide +kernel) (pa_cons (pv 6) pa_nil)))))
(pss_cons (ps_asg (pe_op op_add (pv 2) (pe_callB call_len rfl T.z_len (by decide +kernel) (pa_cons (pe_ix ix_tup (pe_ix ix_tup (pv 0) pe_int (fun _ _ => rfl)) pe_int (fun _ _ => rfl)) pa_nil))) (pg_sub (pv 4) pe_int set_list))
(pss_one (ps_ret (pe_tup (pa_cons (pe_callB (cr_sum rfl) rfl T.z_sum (by decide +kernel) (pa_cons (pe_lc (own := [("end", 7)]) (g := (gName 7)) (tt := tYes) rfl sc_cost_of.nd (pi_list (pv 4)) (blkOk_by (own := [("end", 7)]) (N := N_cost_of) (sc := defScope s_cost_of) (by decide +kernel)) (fun _ _ _ _ _ => (pg_name (i := 7) sc_cost_of.nd rfl (Or.inl rfl))) (fun _ _ _ _ _ => pts_nil) (fun _ _ _ _ _ => (pe_callB (call_max2 rfl) rfl T.z_max (by decide +kernel) (pa_cons pe_int (pa_cons (pe_op op_sub (pv 7) (pv 1)) pa_nil))))) pa_nil)) (pa_cons (pe_callB call_len rfl T.z_len (by decide +kernel) (pa_cons (pv 0) pa_nil)) pa_nil))))))))), ?_⟩
  refine ⟨_, rfl, (by show 1 ≤ sizeLine; decide), fun l hl => ?_⟩
  have s0 := same_new (o := .lst [v]) hl
  refine ⟨l, v, d, rfl, .of upd_same, Dp.same s0 C.hd, C.hw, fun c H' u s' du => C.el c H' u (s0.trans s') du, fun c H1 s1' => ?_⟩
  have s1 : Same H H1 := s0.trans s1'
  refine ⟨_, rfl, _, rfl, _, rfl, wv, cv, iv, dw, dc, di, rfl, Dp.same s1 C.w, Dp.same s1 C.c, Dp.same s1 C.i, fun cw H' s' => C.ew c cw H' (s1.trans s'), fun cw cc H' s' => C.ec c cw cc H' (s1.trans s'), fun cw cc ci H' s' => C.ei c cw cc ci H' (s1.trans s'), fun cw cc ci H2 s2' => ?_⟩
  have s2 : Same H H2 := s1.trans s2'
  obtain ⟨wd, rfl, wd0⟩ := whole_is cw
  obtain ⟨st, rfl, st0⟩ := whole_is cc
  obtain ⟨dp, rfl, dp0⟩ := whole_is ci
  obtain rfl := Dp.ofInt C.w
  obtain rfl := Dp.ofInt C.c
  obtain rfl := Dp.ofInt C.i
  obtain ⟨r, rs, rfl, r0, _⟩ := rows_check c
  have hz := str_short C.hw
  have hd1 : Dp K H2 v (rowsD (r :: rs)) := Dp.same s2 C.hd
  obtain ⟨a, xs, rfl, hs, lx, hrow⟩ := row_at hd1
  obtain ⟨x0, hx0⟩ : ∃ x0, xs[0]? = some x0 := ⟨xs[0]'(by rw [lx]; simp), List.getElem?_eq_getElem (by rw [lx]; simp)⟩
  obtain ⟨r', b, hr', rfl, hb⟩ := hrow 0 x0 hx0
  obtain rfl := Option.some.inj hr'
  have lz : (r :: rs).length ≤ 1000000 := Nat.le_trans (weight_len (rs := r :: rs)) C.hw
  refine ⟨_, rfl, a, rfl, ⟨_, hs⟩, fun D hD => ?_⟩
  have sD : ∀ o, Same H2 (upd H2 D o) := fun o => same_new hD
  refine lc_tup (a := a) (xs := xs) (fun i H' => H' = upd H2 D (.lst (((r :: rs).take i).map fun q => V.int (endV dp q)))) rfl (fun i H' _ e => by subst e; exact Same.seqT (sD _) hs) ?_ ?_
  · rintro i x _ hx rfl
    obtain ⟨q, b3, hq3, rfl, hb3⟩ := hrow i x hx
    refine ⟨b3, _, rfl, Same.seqT (sD _) hb3, rfl, _, _, rfl, _, _, rfl, rfl, rfl, yesT (iteT ?_)⟩
    refine ⟨_, rfl, _, rfl, _, _, rfl, rfl, _, rfl, _, _, rfl, ⟨Nat.le_trans (hz q (List.mem_of_getElem? hq3)) (by decide), rfl⟩, _, _, rfl, rfl, ?_⟩
    refine ⟨_, upd_same, ?_, ?_⟩
    · refine Nat.lt_of_le_of_lt (m := 1000000) ?_ (by decide)
      rw [List.length_map, List.length_take]
      omega
    · rw [upd_upd, List.take_add_one, hq3, List.map_append]
      rfl
  · rintro _ rfl
    rw [List.take_of_length_le (by omega)]
    have s3 := s2.trans (sD (.lst ((r :: rs).map fun q => V.int (endV dp q))))
    have hix : ixN ((r :: rs).map fun q => V.int (endV dp q)).length 0 = some 0 := by
      unfold ixN
      rw [if_pos (by omega), if_pos (by rw [List.length_map, List.length_cons]; omega)]
      rfl
    refine ⟨_, rfl, _, rfl, a, xs, 0, _, rfl, rfl, Same.seqT (sD _) hs, at_of (j := 0) rfl hx0, b, _, 1, .str r.2, rfl, rfl, Same.seqT (sD _) hb, rfl, _, _, rfl, ⟨Nat.le_trans (hz r (List.mem_cons_self ..)) (by decide), rfl⟩, _, _, rfl, rfl, _, rfl, D, _, 0, 0, rfl, rfl, upd_same, hix, ?_⟩
    rw [upd_upd]
    have e0 : ((r :: rs).map fun q => V.int (endV dp q)).set 0 (V.int (st + ((r.2.length : Nat) : Int))) = ((st + ((r.2.length : Nat) : Int)) :: rs.map (endV dp)).map V.int := by
      rw [List.map_cons, List.map_cons, List.map_map]
      rfl
    rw [e0]
    generalize hes : ((st + ((r.2.length : Nat) : Int)) :: rs.map (endV dp)) = es
    have les : es.length ≤ 1000000 := by
      rw [← hes, List.length_cons, List.length_map]
      exact lz
    have sE := sD (.lst (es.map V.int))
    have kE : upd H2 D (.lst (es.map V.int)) D = some (.lst (es.map V.int)) := upd_same
    generalize upd H2 D (.lst (es.map V.int)) = H4 at sE kE ⊢
    refine ⟨_, rfl, D, rfl, ⟨_, .of kE⟩, fun D2 hD2 => ?_⟩
    have sD2 : ∀ o, Same H4 (upd H4 D2 o) := fun o => same_new hD2
    refine lc_list (a := D) (xs := es.map V.int) (fun i H' => H' = upd H4 D2 (.lst ((es.take i).map fun e => V.int (exc wd e)))) rfl (fun i H' _ e => by subst e; exact (sD2 _).seq (.of kE)) ?_ ?_
    · rintro i x _ hx rfl
      rw [List.getElem?_map] at hx
      obtain ⟨e, he, rfl⟩ := Option.map_eq_some_iff.mp hx
      refine ⟨rfl, yesT (iteT ?_)⟩
      refine ⟨_, rfl, _, rfl, _, _, rfl, rfl, _, _, rfl, ?_⟩
      refine ⟨_, upd_same, ?_, ?_⟩
      · refine Nat.lt_of_le_of_lt (m := 1000000) ?_ (by decide)
        rw [List.length_map, List.length_take]
        omega
      · rw [upd_upd, List.take_add_one, he, List.map_append]
        rfl
    · rintro _ rfl
      rw [List.length_map, List.take_of_length_le (Nat.le_refl _)]
      refine ⟨D2, es.map (exc wd), rfl, .of (by rw [upd_same, List.map_map]; rfl), ?_⟩
      refine ⟨_, rfl, _, _, rfl, .inr ⟨_, Same.seqT (sE.trans (sD2 _)) hs, rfl⟩, (by show 2 ≤ sizeLine; decide), fun p hp => ?_⟩
      refine C.ok c cw cc ci _ _ (s2.trans ((sE.trans (sD2 _)).trans (same_new hp))) ?_
      have e : costP (rowsD (r :: rs)) (.int wd) (.int st) (.int dp) = costD wd st dp (r :: rs) := by
        unfold costP
        rw [rowsOf_rows]
        rfl
      rw [e]
      unfold costD
      rw [← lx, total_sum, hes]
      exact .tup (.of upd_same) (.cons (.int _) (.cons (.int _) .nil))
end
end K30

namespace K30
open PySem PySem.Spec PyProof.Rows L2 Vk
section
variable {P : Program} {w : World} {K : PySem.W.Frag} {mg : Str → Option Value} {base : Heap}
theorem main_ok (T : Tx K mg) : FnOk P w K mg base CX0 8 T.a_law T.d_law P_law (spLaw K) := by
  have g_at := ok_at (P := P) (w := w) (base := base) (k := 0) T
  have g_mixed := ok_mixed (P := P) (w := w) (base := base) (k := 0) T
  have g_purse := ok_purse T g_at
  have g_draw := ok_draw T g_mixed
  have g_layout := ok_layout T g_draw
  have g_due := ok_due (P := P) (w := w) (base := base) (k := 0) T
  have g_whole := ok_whole (P := P) (w := w) (base := base) (k := 0) T
  have g_plain := ok_plain (P := P) (w := w) (base := base) (k := 0) T
  have g_line := ok_line T g_whole g_plain
  have g_check := ok_check T g_line
  have g_refuse := ok_refuse (k := 3) T (by decide) g_check
  have g_wrong := ok_wrong (k := 3) T (by decide) (g_whole.mono (by decide))
  have g_cost := ok_cost T g_refuse g_wrong
  have g_told := ok_told T g_cost
  have g_refused := ok_refused T (g_draw.mono (by decide)) g_told (g_check.mono (by decide))
  exact ok_law (k := 7) T (g_cost.mono (by decide)) (g_purse.mono (by decide)) (g_layout.mono (by decide)) (g_draw.mono (by decide)) (g_due.mono (by decide)) (g_told.mono (by decide)) g_refused
end
theorem all_mk {l : PySem.W.OpenLaw} {w : World} {K : PySem.W.Frag} {h : Heap} {mg : Str → Option Value} {fa : Addr} (X : K.In h) (G : h.Ns mainGlobals mg) (hfa : mg "law" = some (.ref fa))
  {a0 : Addr} {od0 an0 : Option Addr} {sl0 : Array (Option Value)} {oc0 kV0 dc0 pm0 cd0 ct0 : Value}
  {a1 : Addr} {od1 an1 : Option Addr} {sl1 : Array (Option Value)} {oc1 kV1 dc1 pm1 cd1 ct1 : Value}
  {a2 : Addr} {od2 an2 : Option Addr} {sl2 : Array (Option Value)} {oc2 kV2 dc2 pm2 cd2 ct2 : Value}
  {a3 : Addr} {od3 an3 : Option Addr} {sl3 : Array (Option Value)} {oc3 kV3 dc3 pm3 cd3 ct3 : Value}
  {a4 : Addr} {od4 an4 : Option Addr} {sl4 : Array (Option Value)} {oc4 kV4 dc4 pm4 cd4 ct4 : Value}
  {a5 : Addr} {od5 an5 : Option Addr} {sl5 : Array (Option Value)} {oc5 dc5 pm5 cd5 ct5 : Value}
  {a6 : Addr} {od6 an6 : Option Addr} {sl6 : Array (Option Value)} {oc6 kV6 dc6 pm6 cd6 ct6 : Value}
  {a7 : Addr} {od7 an7 : Option Addr} {sl7 : Array (Option Value)} {oc7 kV7 dc7 pm7 cd7 ct7 : Value}
  {a8 : Addr} {od8 an8 : Option Addr} {sl8 : Array (Option Value)} {oc8 kV8 dc8 pm8 cd8 ct8 : Value}
  {a9 : Addr} {od9 an9 : Option Addr} {sl9 : Array (Option Value)} {oc9 kV9 dc9 pm9 cd9 ct9 : Value}
  {a10 : Addr} {od10 an10 : Option Addr} {sl10 : Array (Option Value)} {oc10 kV10 dc10 pm10 cd10 ct10 : Value}
  {a11 : Addr} {od11 an11 : Option Addr} {sl11 : Array (Option Value)} {oc11 kV11 dc11 pm11 cd11 ct11 : Value}
  {a12 : Addr} {od12 an12 : Option Addr} {sl12 : Array (Option Value)} {oc12 kV12 dc12 pm12 cd12 ct12 : Value}
  {a13 : Addr} {od13 an13 : Option Addr} {sl13 : Array (Option Value)} {oc13 kV13 dc13 pm13 cd13 ct13 : Value}
  {a14 : Addr} {od14 an14 : Option Addr} {sl14 : Array (Option Value)} {oc14 kV14 dc14 pm14 cd14 ct14 : Value}
  {a15 : Addr} {od15 an15 : Option Addr} {sl15 : Array (Option Value)} {oc15 kV15 dc15 pm15 cd15 ct15 : Value}
  (p0 : PySem.W.nsIn K mainGlobals "is_whole" = some (some (.ref a0))) (l0 : K.lookup a0 = some ⟨oc0, od0, .func (PySem.W.fnOf "is_whole" "is_whole" (defArgs s_is_whole) (defBody s_is_whole) (defScope s_is_whole) .none kV0 dc0 pm0 an0 cd0 ct0), sl0⟩) (c0 : PySem.W.codeIn K cd0 "is_whole" = true) (k0 : PySem.W.keepIn K (.ref a0) = true)
  (p1 : PySem.W.nsIn K mainGlobals "is_plain" = some (some (.ref a1))) (l1 : K.lookup a1 = some ⟨oc1, od1, .func (PySem.W.fnOf "is_plain" "is_plain" (defArgs s_is_plain) (defBody s_is_plain) (defScope s_is_plain) .none kV1 dc1 pm1 an1 cd1 ct1), sl1⟩) (c1 : PySem.W.codeIn K cd1 "is_plain" = true) (k1 : PySem.W.keepIn K (.ref a1) = true)
  (p2 : PySem.W.nsIn K mainGlobals "check_layout" = some (some (.ref a2))) (l2 : K.lookup a2 = some ⟨oc2, od2, .func (PySem.W.fnOf "check_layout" "check_layout" (defArgs s_check_layout) (defBody s_check_layout) (defScope s_check_layout) .none kV2 dc2 pm2 an2 cd2 ct2), sl2⟩) (c2 : PySem.W.codeIn K cd2 "check_layout" = true) (k2 : PySem.W.keepIn K (.ref a2) = true)
  (p3 : PySem.W.nsIn K mainGlobals "_is_line" = some (some (.ref a3))) (l3 : K.lookup a3 = some ⟨oc3, od3, .func (PySem.W.fnOf "_is_line" "_is_line" (defArgs s_is_line) (defBody s_is_line) (defScope s_is_line) .none kV3 dc3 pm3 an3 cd3 ct3), sl3⟩) (c3 : PySem.W.codeIn K cd3 "_is_line" = true) (k3 : PySem.W.keepIn K (.ref a3) = true)
  (p4 : PySem.W.nsIn K mainGlobals "refuse_non_layouts" = some (some (.ref a4))) (l4 : K.lookup a4 = some ⟨oc4, od4, .func (PySem.W.fnOf "refuse_non_layouts" "refuse_non_layouts" (defArgs s_refuse_non_layouts) (defBody s_refuse_non_layouts) (defScope s_refuse_non_layouts) .none kV4 dc4 pm4 an4 cd4 ct4), sl4⟩) (c4 : PySem.W.codeIn K cd4 "refuse_non_layouts" = true) (k4 : PySem.W.keepIn K (.ref a4) = true)
  {D5 : Addr} {v5_0 v5_1 : Value}
  (p5 : PySem.W.nsIn K mainGlobals "cost_of" = some (some (.ref a5))) (l5 : K.lookup a5 = some ⟨oc5, od5, .func (PySem.W.fnOf "cost_of" "cost_of" (defArgs s_cost_of) (defBody s_cost_of) (defScope s_cost_of) .none (.ref D5) dc5 pm5 an5 cd5 ct5), sl5⟩) (c5 : PySem.W.codeIn K cd5 "cost_of" = true) (k5 : PySem.W.keepIn K (.ref a5) = true) (dv5_0 : PySem.W.nsIn K D5 "column" = some (some v5_0)) (rv5_0 : RelV (V.int 0) v5_0) (dv5_1 : PySem.W.nsIn K D5 "indent" = some (some v5_1)) (rv5_1 : RelV (V.int 0) v5_1)
  (p6 : PySem.W.nsIn K mainGlobals "_refuse_wrong_numbers" = some (some (.ref a6))) (l6 : K.lookup a6 = some ⟨oc6, od6, .func (PySem.W.fnOf "_refuse_wrong_numbers" "_refuse_wrong_numbers" (defArgs s_refuse_wrong_numbers) (defBody s_refuse_wrong_numbers) (defScope s_refuse_wrong_numbers) .none kV6 dc6 pm6 an6 cd6 ct6), sl6⟩) (c6 : PySem.W.codeIn K cd6 "_refuse_wrong_numbers" = true) (k6 : PySem.W.keepIn K (.ref a6) = true)
  (p7 : PySem.W.nsIn K mainGlobals "_law_at" = some (some (.ref a7))) (l7 : K.lookup a7 = some ⟨oc7, od7, .func (PySem.W.fnOf "_law_at" "_law_at" (defArgs s_l_at) (defBody s_l_at) (defScope s_l_at) .none kV7 dc7 pm7 an7 cd7 ct7), sl7⟩) (c7 : PySem.W.codeIn K cd7 "_law_at" = true) (k7 : PySem.W.keepIn K (.ref a7) = true)
  (p8 : PySem.W.nsIn K mainGlobals "_law_mixed" = some (some (.ref a8))) (l8 : K.lookup a8 = some ⟨oc8, od8, .func (PySem.W.fnOf "_law_mixed" "_law_mixed" (defArgs s_l_mixed) (defBody s_l_mixed) (defScope s_l_mixed) .none kV8 dc8 pm8 an8 cd8 ct8), sl8⟩) (c8 : PySem.W.codeIn K cd8 "_law_mixed" = true) (k8 : PySem.W.keepIn K (.ref a8) = true)
  (p9 : PySem.W.nsIn K mainGlobals "_law_purse" = some (some (.ref a9))) (l9 : K.lookup a9 = some ⟨oc9, od9, .func (PySem.W.fnOf "_law_purse" "_law_purse" (defArgs s_l_purse) (defBody s_l_purse) (defScope s_l_purse) .none kV9 dc9 pm9 an9 cd9 ct9), sl9⟩) (c9 : PySem.W.codeIn K cd9 "_law_purse" = true) (k9 : PySem.W.keepIn K (.ref a9) = true)
  (p10 : PySem.W.nsIn K mainGlobals "_law_draw" = some (some (.ref a10))) (l10 : K.lookup a10 = some ⟨oc10, od10, .func (PySem.W.fnOf "_law_draw" "_law_draw" (defArgs s_l_draw) (defBody s_l_draw) (defScope s_l_draw) .none kV10 dc10 pm10 an10 cd10 ct10), sl10⟩) (c10 : PySem.W.codeIn K cd10 "_law_draw" = true) (k10 : PySem.W.keepIn K (.ref a10) = true)
  (p11 : PySem.W.nsIn K mainGlobals "_law_layout" = some (some (.ref a11))) (l11 : K.lookup a11 = some ⟨oc11, od11, .func (PySem.W.fnOf "_law_layout" "_law_layout" (defArgs s_l_layout) (defBody s_l_layout) (defScope s_l_layout) .none kV11 dc11 pm11 an11 cd11 ct11), sl11⟩) (c11 : PySem.W.codeIn K cd11 "_law_layout" = true) (k11 : PySem.W.keepIn K (.ref a11) = true)
  (p12 : PySem.W.nsIn K mainGlobals "_law_due" = some (some (.ref a12))) (l12 : K.lookup a12 = some ⟨oc12, od12, .func (PySem.W.fnOf "_law_due" "_law_due" (defArgs s_l_due) (defBody s_l_due) (defScope s_l_due) .none kV12 dc12 pm12 an12 cd12 ct12), sl12⟩) (c12 : PySem.W.codeIn K cd12 "_law_due" = true) (k12 : PySem.W.keepIn K (.ref a12) = true)
  (p13 : PySem.W.nsIn K mainGlobals "_law_told" = some (some (.ref a13))) (l13 : K.lookup a13 = some ⟨oc13, od13, .func (PySem.W.fnOf "_law_told" "_law_told" (defArgs s_l_told) (defBody s_l_told) (defScope s_l_told) .none kV13 dc13 pm13 an13 cd13 ct13), sl13⟩) (c13 : PySem.W.codeIn K cd13 "_law_told" = true) (k13 : PySem.W.keepIn K (.ref a13) = true)
  (p14 : PySem.W.nsIn K mainGlobals "_law_refused" = some (some (.ref a14))) (l14 : K.lookup a14 = some ⟨oc14, od14, .func (PySem.W.fnOf "_law_refused" "_law_refused" (defArgs s_l_refused) (defBody s_l_refused) (defScope s_l_refused) .none kV14 dc14 pm14 an14 cd14 ct14), sl14⟩) (c14 : PySem.W.codeIn K cd14 "_law_refused" = true) (k14 : PySem.W.keepIn K (.ref a14) = true)
  (p15 : PySem.W.nsIn K mainGlobals "law" = some (some (.ref a15))) (l15 : K.lookup a15 = some ⟨oc15, od15, .func (PySem.W.fnOf "law" "law" (defArgs s_law) (defBody s_law) (defScope s_law) .none kV15 dc15 pm15 an15 cd15 ct15), sl15⟩) (c15 : PySem.W.codeIn K cd15 "law" = true) (k15 : PySem.W.keepIn K (.ref a15) = true)
  (z_all : PySem.W.nsIn K mainGlobals "all" = some none)
  (z_bool : PySem.W.nsIn K mainGlobals "bool" = some none)
  (z_enumerate : PySem.W.nsIn K mainGlobals "enumerate" = some none)
  (z_int : PySem.W.nsIn K mainGlobals "int" = some none)
  (z_isinstance : PySem.W.nsIn K mainGlobals "isinstance" = some none)
  (z_len : PySem.W.nsIn K mainGlobals "len" = some none)
  (z_max : PySem.W.nsIn K mainGlobals "max" = some none)
  (z_min : PySem.W.nsIn K mainGlobals "min" = some none)
  (z_range : PySem.W.nsIn K mainGlobals "range" = some none)
  (z_str : PySem.W.nsIn K mainGlobals "str" = some none)
  (z_sum : PySem.W.nsIn K mainGlobals "sum" = some none)
  (z_tuple : PySem.W.nsIn K mainGlobals "tuple" = some none)
  {C_LayoutError : Addr} (pb_LayoutError : PySem.W.nsIn K mainGlobals "LayoutError" = some (some (.ref C_LayoutError))) (be_LayoutError : PySem.W.subIn K (.ref C_LayoutError) (.type "BaseException") = some true) (bh_LayoutError : PySem.W.hasDictIn K C_LayoutError = true) (bt_LayoutError : PySem.W.typeIn K (.ref C_LayoutError) = some (.type "type"))
  (hn0 : PySem.W.specialIn K (.builtin "object.__class__") "__get__" = some (some (.builtin "getset_descriptor.__get__"))) (ht0 : PySem.W.takesIn K (.builtin "object.__class__") = some true)
  {C_InvalidLayout I_InvalidLayout : Addr} {nm_InvalidLayout q_InvalidLayout : Str} {N_InvalidLayout : Addr} {bs_InvalidLayout : List Value} {sn_InvalidLayout : List Str} {sub_InvalidLayout : List Value} {ab_InvalidLayout : Bool} {col_InvalidLayout : Option Bool} {dd_InvalidLayout : Option Addr} {m0_InvalidLayout m1_InvalidLayout m2_InvalidLayout m3_InvalidLayout m5_InvalidLayout : Option Value} {odi_InvalidLayout ani_InvalidLayout : Option Addr} {sli_InvalidLayout slt_InvalidLayout : Array (Option Value)} {oci_InvalidLayout kVi_InvalidLayout dci_InvalidLayout pmi_InvalidLayout cdi_InvalidLayout cti_InvalidLayout oct_InvalidLayout vt_InvalidLayout : Value} {T_InvalidLayout : Addr} {odt_InvalidLayout : Option Addr} {nt_InvalidLayout : Nat}
  (pC_InvalidLayout : PySem.W.nsIn K mainGlobals "InvalidLayout" = some (some (.ref C_InvalidLayout))) (xL_InvalidLayout : K.lookup C_InvalidLayout = some (excClassObj nm_InvalidLayout q_InvalidLayout C_InvalidLayout N_InvalidLayout bs_InvalidLayout [.ref C_LayoutError, .type "ValueError", .type "Exception", .type "BaseException", .type "object"] true sn_InvalidLayout sub_InvalidLayout ab_InvalidLayout col_InvalidLayout dd_InvalidLayout m0_InvalidLayout m1_InvalidLayout m2_InvalidLayout m3_InvalidLayout m5_InvalidLayout "ValueError.__new__"))
  (sa_InvalidLayout : PySem.W.findIn K (.ref C_InvalidLayout) "__setattr__" = some (some (.builtin "object.__setattr__"))) (ga_InvalidLayout : PySem.W.findIn K (.ref C_InvalidLayout) "__getattribute__" = some (some (.builtin "BaseException.__getattribute__"))) (gg_InvalidLayout : PySem.W.findIn K (.ref C_InvalidLayout) "__getattr__" = some none) (no_InvalidLayout : PySem.W.findIn K (.ref C_InvalidLayout) "problem" = some none)
  (iC_InvalidLayout : PySem.W.findIn K (.ref C_InvalidLayout) "__init__" = some (some (.ref I_InvalidLayout))) (tI_InvalidLayout : PySem.W.typeIn K (.ref I_InvalidLayout) = some (.type "function")) (lI_InvalidLayout : K.lookup I_InvalidLayout = some ⟨oci_InvalidLayout, odi_InvalidLayout, .func (PySem.W.fnOf "__init__" "InvalidLayout.__init__" (defArgs se_InvalidLayout) (defBody se_InvalidLayout) (defScope se_InvalidLayout) (.ref T_InvalidLayout) kVi_InvalidLayout dci_InvalidLayout pmi_InvalidLayout ani_InvalidLayout cdi_InvalidLayout cti_InvalidLayout), sli_InvalidLayout⟩) (cI_InvalidLayout : PySem.W.codeIn K cdi_InvalidLayout "InvalidLayout.__init__" = true) (kI_InvalidLayout : PySem.W.keepIn K (.ref I_InvalidLayout) = true) (lT_InvalidLayout : K.lookup T_InvalidLayout = some ⟨oct_InvalidLayout, odt_InvalidLayout, .seq #[vt_InvalidLayout] nt_InvalidLayout, slt_InvalidLayout⟩) (rv_InvalidLayout : RelV V.non vt_InvalidLayout)
  (kC_InvalidLayout : PySem.W.keepIn K (.ref C_InvalidLayout) = true) (eC_InvalidLayout : PySem.W.subIn K (.ref C_InvalidLayout) (.type "BaseException") = some true) (tC_InvalidLayout : PySem.W.typeIn K (.ref C_InvalidLayout) = some (.type "type")) (hC_InvalidLayout : PySem.W.hasDictIn K C_InvalidLayout = true) (ca_InvalidLayout : PySem.W.findIn K (.ref C_InvalidLayout) "__class__" = some (some (.builtin "object.__class__"))) (mo_InvalidLayout : PySem.W.mroIn K C_InvalidLayout (.type "object") = some true) (sb_InvalidLayout : PySem.W.subIn K (.ref C_InvalidLayout) (.ref C_LayoutError) = some true)
  {C_InvalidPlace I_InvalidPlace : Addr} {nm_InvalidPlace q_InvalidPlace : Str} {N_InvalidPlace : Addr} {bs_InvalidPlace : List Value} {sn_InvalidPlace : List Str} {sub_InvalidPlace : List Value} {ab_InvalidPlace : Bool} {col_InvalidPlace : Option Bool} {dd_InvalidPlace : Option Addr} {m0_InvalidPlace m1_InvalidPlace m2_InvalidPlace m3_InvalidPlace m5_InvalidPlace : Option Value} {odi_InvalidPlace ani_InvalidPlace : Option Addr} {sli_InvalidPlace slt_InvalidPlace : Array (Option Value)} {oci_InvalidPlace kVi_InvalidPlace dci_InvalidPlace pmi_InvalidPlace cdi_InvalidPlace cti_InvalidPlace oct_InvalidPlace vt_InvalidPlace : Value} {T_InvalidPlace : Addr} {odt_InvalidPlace : Option Addr} {nt_InvalidPlace : Nat}
  (pC_InvalidPlace : PySem.W.nsIn K mainGlobals "InvalidPlace" = some (some (.ref C_InvalidPlace))) (xL_InvalidPlace : K.lookup C_InvalidPlace = some (excClassObj nm_InvalidPlace q_InvalidPlace C_InvalidPlace N_InvalidPlace bs_InvalidPlace [.ref C_LayoutError, .type "ValueError", .type "Exception", .type "BaseException", .type "object"] true sn_InvalidPlace sub_InvalidPlace ab_InvalidPlace col_InvalidPlace dd_InvalidPlace m0_InvalidPlace m1_InvalidPlace m2_InvalidPlace m3_InvalidPlace m5_InvalidPlace "ValueError.__new__"))
  (sa_InvalidPlace : PySem.W.findIn K (.ref C_InvalidPlace) "__setattr__" = some (some (.builtin "object.__setattr__"))) (ga_InvalidPlace : PySem.W.findIn K (.ref C_InvalidPlace) "__getattribute__" = some (some (.builtin "BaseException.__getattribute__"))) (gg_InvalidPlace : PySem.W.findIn K (.ref C_InvalidPlace) "__getattr__" = some none) (no_InvalidPlace : PySem.W.findIn K (.ref C_InvalidPlace) "value" = some none)
  (iC_InvalidPlace : PySem.W.findIn K (.ref C_InvalidPlace) "__init__" = some (some (.ref I_InvalidPlace))) (tI_InvalidPlace : PySem.W.typeIn K (.ref I_InvalidPlace) = some (.type "function")) (lI_InvalidPlace : K.lookup I_InvalidPlace = some ⟨oci_InvalidPlace, odi_InvalidPlace, .func (PySem.W.fnOf "__init__" "InvalidPlace.__init__" (defArgs se_InvalidPlace) (defBody se_InvalidPlace) (defScope se_InvalidPlace) (.ref T_InvalidPlace) kVi_InvalidPlace dci_InvalidPlace pmi_InvalidPlace ani_InvalidPlace cdi_InvalidPlace cti_InvalidPlace), sli_InvalidPlace⟩) (cI_InvalidPlace : PySem.W.codeIn K cdi_InvalidPlace "InvalidPlace.__init__" = true) (kI_InvalidPlace : PySem.W.keepIn K (.ref I_InvalidPlace) = true) (lT_InvalidPlace : K.lookup T_InvalidPlace = some ⟨oct_InvalidPlace, odt_InvalidPlace, .seq #[vt_InvalidPlace] nt_InvalidPlace, slt_InvalidPlace⟩) (rv_InvalidPlace : RelV V.non vt_InvalidPlace)
  (kC_InvalidPlace : PySem.W.keepIn K (.ref C_InvalidPlace) = true) (eC_InvalidPlace : PySem.W.subIn K (.ref C_InvalidPlace) (.type "BaseException") = some true) (tC_InvalidPlace : PySem.W.typeIn K (.ref C_InvalidPlace) = some (.type "type")) (hC_InvalidPlace : PySem.W.hasDictIn K C_InvalidPlace = true) (ca_InvalidPlace : PySem.W.findIn K (.ref C_InvalidPlace) "__class__" = some (some (.builtin "object.__class__"))) (mo_InvalidPlace : PySem.W.mroIn K C_InvalidPlace (.type "object") = some true) (sb_InvalidPlace : PySem.W.subIn K (.ref C_InvalidPlace) (.ref C_LayoutError) = some true)
  {C_InvalidWidth I_InvalidWidth : Addr} {nm_InvalidWidth q_InvalidWidth : Str} {N_InvalidWidth : Addr} {bs_InvalidWidth : List Value} {sn_InvalidWidth : List Str} {sub_InvalidWidth : List Value} {ab_InvalidWidth : Bool} {col_InvalidWidth : Option Bool} {dd_InvalidWidth : Option Addr} {m0_InvalidWidth m1_InvalidWidth m2_InvalidWidth m3_InvalidWidth m5_InvalidWidth : Option Value} {odi_InvalidWidth ani_InvalidWidth : Option Addr} {sli_InvalidWidth slt_InvalidWidth : Array (Option Value)} {oci_InvalidWidth kVi_InvalidWidth dci_InvalidWidth pmi_InvalidWidth cdi_InvalidWidth cti_InvalidWidth oct_InvalidWidth vt_InvalidWidth : Value} {T_InvalidWidth : Addr} {odt_InvalidWidth : Option Addr} {nt_InvalidWidth : Nat}
  (pC_InvalidWidth : PySem.W.nsIn K mainGlobals "InvalidWidth" = some (some (.ref C_InvalidWidth))) (xL_InvalidWidth : K.lookup C_InvalidWidth = some (excClassObj nm_InvalidWidth q_InvalidWidth C_InvalidWidth N_InvalidWidth bs_InvalidWidth [.ref C_LayoutError, .type "ValueError", .type "Exception", .type "BaseException", .type "object"] true sn_InvalidWidth sub_InvalidWidth ab_InvalidWidth col_InvalidWidth dd_InvalidWidth m0_InvalidWidth m1_InvalidWidth m2_InvalidWidth m3_InvalidWidth m5_InvalidWidth "ValueError.__new__"))
  (sa_InvalidWidth : PySem.W.findIn K (.ref C_InvalidWidth) "__setattr__" = some (some (.builtin "object.__setattr__"))) (ga_InvalidWidth : PySem.W.findIn K (.ref C_InvalidWidth) "__getattribute__" = some (some (.builtin "BaseException.__getattribute__"))) (gg_InvalidWidth : PySem.W.findIn K (.ref C_InvalidWidth) "__getattr__" = some none) (no_InvalidWidth : PySem.W.findIn K (.ref C_InvalidWidth) "value" = some none)
  (iC_InvalidWidth : PySem.W.findIn K (.ref C_InvalidWidth) "__init__" = some (some (.ref I_InvalidWidth))) (tI_InvalidWidth : PySem.W.typeIn K (.ref I_InvalidWidth) = some (.type "function")) (lI_InvalidWidth : K.lookup I_InvalidWidth = some ⟨oci_InvalidWidth, odi_InvalidWidth, .func (PySem.W.fnOf "__init__" "InvalidWidth.__init__" (defArgs se_InvalidWidth) (defBody se_InvalidWidth) (defScope se_InvalidWidth) (.ref T_InvalidWidth) kVi_InvalidWidth dci_InvalidWidth pmi_InvalidWidth ani_InvalidWidth cdi_InvalidWidth cti_InvalidWidth), sli_InvalidWidth⟩) (cI_InvalidWidth : PySem.W.codeIn K cdi_InvalidWidth "InvalidWidth.__init__" = true) (kI_InvalidWidth : PySem.W.keepIn K (.ref I_InvalidWidth) = true) (lT_InvalidWidth : K.lookup T_InvalidWidth = some ⟨oct_InvalidWidth, odt_InvalidWidth, .seq #[vt_InvalidWidth] nt_InvalidWidth, slt_InvalidWidth⟩) (rv_InvalidWidth : RelV V.non vt_InvalidWidth)
  (kC_InvalidWidth : PySem.W.keepIn K (.ref C_InvalidWidth) = true) (eC_InvalidWidth : PySem.W.subIn K (.ref C_InvalidWidth) (.type "BaseException") = some true) (tC_InvalidWidth : PySem.W.typeIn K (.ref C_InvalidWidth) = some (.type "type")) (hC_InvalidWidth : PySem.W.hasDictIn K C_InvalidWidth = true) (ca_InvalidWidth : PySem.W.findIn K (.ref C_InvalidWidth) "__class__" = some (some (.builtin "object.__class__"))) (mo_InvalidWidth : PySem.W.mroIn K C_InvalidWidth (.type "object") = some true) (sb_InvalidWidth : PySem.W.subIn K (.ref C_InvalidWidth) (.ref C_LayoutError) = some true)
  (ki_InvalidLayout_InvalidLayout : PySem.W.subIn K (.ref C_InvalidLayout) (.ref C_InvalidLayout) = some true)
  (ki_InvalidLayout_InvalidWidth : PySem.W.subIn K (.ref C_InvalidLayout) (.ref C_InvalidWidth) = some false)
  (ki_InvalidLayout_InvalidPlace : PySem.W.subIn K (.ref C_InvalidLayout) (.ref C_InvalidPlace) = some false)
  (ki_InvalidPlace_InvalidLayout : PySem.W.subIn K (.ref C_InvalidPlace) (.ref C_InvalidLayout) = some false)
  (ki_InvalidPlace_InvalidWidth : PySem.W.subIn K (.ref C_InvalidPlace) (.ref C_InvalidWidth) = some false)
  (ki_InvalidPlace_InvalidPlace : PySem.W.subIn K (.ref C_InvalidPlace) (.ref C_InvalidPlace) = some true)
  (ki_InvalidWidth_InvalidLayout : PySem.W.subIn K (.ref C_InvalidWidth) (.ref C_InvalidLayout) = some false)
  (ki_InvalidWidth_InvalidWidth : PySem.W.subIn K (.ref C_InvalidWidth) (.ref C_InvalidWidth) = some true)
  (ki_InvalidWidth_InvalidPlace : PySem.W.subIn K (.ref C_InvalidWidth) (.ref C_InvalidPlace) = some false)
  : ∃ fd : FuncData, (∀ (s : Shared) (v : Value), BindsTo s fd ⟨[v], []⟩ [("_law_script", v)]) ∧ ∀ base : Heap, K.In base → base.Ns mainGlobals mg → FnOk l.prog w K mg base CX0 8 fa fd ["_law_script"] (spLaw K) := by
  have e := hfa.symm.trans (PySem.W.mg_of X G p15)
  cases e
  have F0 := fun_mk (st := s_is_whole) l0 c0 k0
  have F1 := fun_mk (st := s_is_plain) l1 c1 k1
  have F2 := fun_mk (st := s_check_layout) l2 c2 k2
  have F3 := fun_mk (st := s_is_line) l3 c3 k3
  have F4 := fun_mk (st := s_refuse_non_layouts) l4 c4 k4
  have F5 := funK_mk (st := s_cost_of) (kws := [("column", .int 0), ("indent", .int 0)]) l5 c5 k5 (by intro q hq; simp only [List.mem_cons, List.not_mem_nil, or_false] at hq; rcases hq with rfl | rfl; exact ⟨_, dv5_0, rv5_0⟩; exact ⟨_, dv5_1, rv5_1⟩)
  have F6 := fun_mk (st := s_refuse_wrong_numbers) l6 c6 k6
  have F7 := fun_mk (st := s_l_at) l7 c7 k7
  have F8 := fun_mk (st := s_l_mixed) l8 c8 k8
  have F9 := fun_mk (st := s_l_purse) l9 c9 k9
  have F10 := fun_mk (st := s_l_draw) l10 c10 k10
  have F11 := fun_mk (st := s_l_layout) l11 c11 k11
  have F12 := fun_mk (st := s_l_due) l12 c12 k12
  have F13 := fun_mk (st := s_l_told) l13 c13 k13
  have F14 := fun_mk (st := s_l_refused) l14 c14 k14
  have F15 := fun_mk (st := s_law) l15 c15 k15
  have FI_InvalidLayout := funD_mk (st := se_InvalidLayout) (dvs := [.non]) lI_InvalidLayout cI_InvalidLayout kI_InvalidLayout lT_InvalidLayout rfl (by simp) (.cons rv_InvalidLayout .nil)
  have FI_InvalidPlace := funD_mk (st := se_InvalidPlace) (dvs := [.non]) lI_InvalidPlace cI_InvalidPlace kI_InvalidPlace lT_InvalidPlace rfl (by simp) (.cons rv_InvalidPlace .nil)
  have FI_InvalidWidth := funD_mk (st := se_InvalidWidth) (dvs := [.non]) lI_InvalidWidth cI_InvalidWidth kI_InvalidWidth lT_InvalidWidth rfl (by simp) (.cons rv_InvalidWidth .nil)
  let T : Tx K mg := {
    a_is_whole := a0, d_is_whole := _, F_is_whole := F0, m_is_whole := PySem.W.mg_of X G p0
    b_is_whole := F0.binds (ps := ["thing"]) fun _ _ _ _ _ _ us hl => match us, hl with | [_], _ => rfl
    a_is_plain := a1, d_is_plain := _, F_is_plain := F1, m_is_plain := PySem.W.mg_of X G p1
    b_is_plain := F1.binds (ps := ["thing"]) fun _ _ _ _ _ _ us hl => match us, hl with | [_], _ => rfl
    a_check_layout := a2, d_check_layout := _, F_check_layout := F2, m_check_layout := PySem.W.mg_of X G p2
    b_check_layout := F2.binds (ps := ["thing"]) fun _ _ _ _ _ _ us hl => match us, hl with | [_], _ => rfl
    a_is_line := a3, d_is_line := _, F_is_line := F3, m_is_line := PySem.W.mg_of X G p3
    b_is_line := F3.binds (ps := ["thing"]) fun _ _ _ _ _ _ us hl => match us, hl with | [_], _ => rfl
    a_refuse_non_layouts := a4, d_refuse_non_layouts := _, F_refuse_non_layouts := F4, m_refuse_non_layouts := PySem.W.mg_of X G p4
    b_refuse_non_layouts := F4.binds (ps := ["things"]) fun _ _ _ _ _ _ us hl => match us, hl with | [_], _ => rfl
    a_cost_of := a5, d_cost_of := _, F_cost_of := F5, m_cost_of := PySem.W.mg_of X G p5
    a_refuse_wrong_numbers := a6, d_refuse_wrong_numbers := _, F_refuse_wrong_numbers := F6, m_refuse_wrong_numbers := PySem.W.mg_of X G p6
    b_refuse_wrong_numbers := F6.binds (ps := ["width", "column", "indent"]) fun _ _ _ _ _ _ us hl => match us, hl with | [_, _, _], _ => rfl
    a_l_at := a7, d_l_at := _, F_l_at := F7, m_l_at := PySem.W.mg_of X G p7
    b_l_at := F7.binds (ps := ["_law_script", "_law_k"]) fun _ _ _ _ _ _ us hl => match us, hl with | [_, _], _ => rfl
    a_l_mixed := a8, d_l_mixed := _, F_l_mixed := F8, m_l_mixed := PySem.W.mg_of X G p8
    b_l_mixed := F8.binds (ps := ["_law_cell", "_law_k"]) fun _ _ _ _ _ _ us hl => match us, hl with | [_, _], _ => rfl
    a_l_purse := a9, d_l_purse := _, F_l_purse := F9, m_l_purse := PySem.W.mg_of X G p9
    b_l_purse := F9.binds (ps := ["_law_script", "_law_at_here"]) fun _ _ _ _ _ _ us hl => match us, hl with | [_, _], _ => rfl
    a_l_draw := a10, d_l_draw := _, F_l_draw := F10, m_l_draw := PySem.W.mg_of X G p10
    b_l_draw := F10.binds (ps := ["_law_purse_here", "_law_out_of"]) fun _ _ _ _ _ _ us hl => match us, hl with | [_, _], _ => rfl
    a_l_layout := a11, d_l_layout := _, F_l_layout := F11, m_l_layout := PySem.W.mg_of X G p11
    b_l_layout := F11.binds (ps := ["_law_purse_here"]) fun _ _ _ _ _ _ us hl => match us, hl with | [_], _ => rfl
    a_l_due := a12, d_l_due := _, F_l_due := F12, m_l_due := PySem.W.mg_of X G p12
    b_l_due := F12.binds (ps := ["_law_row", "_law_wide", "_law_start", "_law_deep"]) fun _ _ _ _ _ _ us hl => match us, hl with | [_, _, _, _], _ => rfl
    a_l_told := a13, d_l_told := _, F_l_told := F13, m_l_told := PySem.W.mg_of X G p13
    b_l_told := F13.binds (ps := ["_law_row", "_law_wide", "_law_start", "_law_deep"]) fun _ _ _ _ _ _ us hl => match us, hl with | [_, _, _, _], _ => rfl
    a_l_refused := a14, d_l_refused := _, F_l_refused := F14, m_l_refused := PySem.W.mg_of X G p14
    b_l_refused := F14.binds (ps := ["_law_purse_here", "_law_row"]) fun _ _ _ _ _ _ us hl => match us, hl with | [_, _], _ => rfl
    a_law := fa, d_law := _, F_law := F15, m_law := PySem.W.mg_of X G p15
    b_law := F15.binds (ps := ["_law_script"]) fun _ _ _ _ _ _ us hl => match us, hl with | [_], _ => rfl
    z_all := PySem.W.mg_none_of X G z_all
    z_bool := PySem.W.mg_none_of X G z_bool
    z_enumerate := PySem.W.mg_none_of X G z_enumerate
    z_int := PySem.W.mg_none_of X G z_int
    z_isinstance := PySem.W.mg_none_of X G z_isinstance
    z_len := PySem.W.mg_none_of X G z_len
    z_max := PySem.W.mg_none_of X G z_max
    z_min := PySem.W.mg_none_of X G z_min
    z_range := PySem.W.mg_none_of X G z_range
    z_str := PySem.W.mg_none_of X G z_str
    z_sum := PySem.W.mg_none_of X G z_sum
    z_tuple := PySem.W.mg_none_of X G z_tuple
    kb_cost_of_1_width_column_indent := F5.kbinds0 (ps := ["layout", "width", "column", "indent"]) 1 ["width", "column", "indent"] [] (fun us mv ws => seg us 0 ++ seg ws 0 ++ seg ws 1 ++ seg ws 2) (by simp) (by simp) (fun r1 r2 r3 => (((seg_rel r1 0).append (seg_rel r3 0)).append (seg_rel r3 1)).append (seg_rel r3 2)) fun _ _ _ _ _ _ us mv ws l1 l2 l3 => match us, mv, ws, l1, l2, l3 with | [_], [], [_, _, _], _, _, _ => rfl
    kb_cost_of_1_width_column := F5.kbinds0 (ps := ["layout", "width", "column", "indent"]) 1 ["width", "column"] [("indent", .int 0)] (fun us mv ws => seg us 0 ++ seg ws 0 ++ seg ws 1 ++ seg mv 0) (by simp) (by simp) (fun r1 r2 r3 => (((seg_rel r1 0).append (seg_rel r3 0)).append (seg_rel r3 1)).append (seg_rel r2 0)) fun _ _ _ _ _ _ us mv ws l1 l2 l3 => match us, mv, ws, l1, l2, l3 with | [_], [_], [_, _], _, _, _ => ⟨_, _, _, _, _, _, rfl, rfl, rfl⟩
    kb_cost_of_1_width := F5.kbinds0 (ps := ["layout", "width", "column", "indent"]) 1 ["width"] [("column", .int 0), ("indent", .int 0)] (fun us mv ws => seg us 0 ++ seg ws 0 ++ seg mv 0 ++ seg mv 1) (by simp) (by simp) (fun r1 r2 r3 => (((seg_rel r1 0).append (seg_rel r3 0)).append (seg_rel r2 0)).append (seg_rel r2 1)) fun _ _ _ _ _ _ us mv ws l1 l2 l3 => match us, mv, ws, l1, l2, l3 with | [_], [_, _], [_], _, _, _ => ⟨_, _, _, _, _, _, rfl, rfl, ⟨_, _, _, _, _, _, rfl, rfl, rfl⟩⟩
    kb_cost_of_layout_indent_width := F5.kbinds0 (ps := ["layout", "width", "column", "indent"]) 0 ["layout", "indent", "width"] [("column", .int 0)] (fun us mv ws => seg ws 0 ++ seg ws 2 ++ seg mv 0 ++ seg ws 1) (by simp) (by simp) (fun r1 r2 r3 => (((seg_rel r3 0).append (seg_rel r3 2)).append (seg_rel r2 0)).append (seg_rel r3 1)) fun _ _ _ _ _ _ us mv ws l1 l2 l3 => match us, mv, ws, l1, l2, l3 with | [], [_], [_, _, _], _, _, _ => ⟨_, _, _, _, _, _, rfl, rfl, rfl⟩
    C_LayoutError := C_LayoutError, m_LayoutError := PySem.W.mg_of X G pb_LayoutError
    e_InvalidLayout := { C := C_InvalidLayout, I := I_InvalidLayout, D := _, m := PySem.W.mg_of X G pC_InvalidLayout, ox := oexC_mk xL_InvalidLayout (by rfl) sa_InvalidLayout eC_InvalidLayout tC_InvalidLayout kC_InvalidLayout, no := no_InvalidLayout, iC := iC_InvalidLayout, tI := tI_InvalidLayout, F := FI_InvalidLayout, b := b1_of FI_InvalidLayout 2 (by simp) rfl (fun _ _ _ _ _ _ _ us its l1 l2 => match us, its, l1, l2 with | [_, _], [_], _, _ => ⟨_, rfl, rfl⟩), xf := ⟨ga_InvalidLayout, gg_InvalidLayout, eC_InvalidLayout, hC_InvalidLayout⟩, ec := ⟨ga_InvalidLayout, gg_InvalidLayout, eC_InvalidLayout, hC_InvalidLayout, ca_InvalidLayout, hn0, ht0, mo_InvalidLayout⟩ }
    ex_InvalidLayout := PySem.W.exm_ref be_LayoutError bh_LayoutError bt_LayoutError sb_InvalidLayout
    ki_InvalidLayout_InvalidLayout := kit_self
    ki_InvalidLayout_InvalidWidth := kit_no ki_InvalidLayout_InvalidWidth ki_InvalidWidth_InvalidWidth hC_InvalidWidth tC_InvalidWidth
    ki_InvalidLayout_InvalidPlace := kit_no ki_InvalidLayout_InvalidPlace ki_InvalidPlace_InvalidPlace hC_InvalidPlace tC_InvalidPlace
    e_InvalidPlace := { C := C_InvalidPlace, I := I_InvalidPlace, D := _, m := PySem.W.mg_of X G pC_InvalidPlace, ox := oexC_mk xL_InvalidPlace (by rfl) sa_InvalidPlace eC_InvalidPlace tC_InvalidPlace kC_InvalidPlace, no := no_InvalidPlace, iC := iC_InvalidPlace, tI := tI_InvalidPlace, F := FI_InvalidPlace, b := b1_of FI_InvalidPlace 2 (by simp) rfl (fun _ _ _ _ _ _ _ us its l1 l2 => match us, its, l1, l2 with | [_, _], [_], _, _ => ⟨_, rfl, rfl⟩), xf := ⟨ga_InvalidPlace, gg_InvalidPlace, eC_InvalidPlace, hC_InvalidPlace⟩, ec := ⟨ga_InvalidPlace, gg_InvalidPlace, eC_InvalidPlace, hC_InvalidPlace, ca_InvalidPlace, hn0, ht0, mo_InvalidPlace⟩ }
    ex_InvalidPlace := PySem.W.exm_ref be_LayoutError bh_LayoutError bt_LayoutError sb_InvalidPlace
    ki_InvalidPlace_InvalidLayout := kit_no ki_InvalidPlace_InvalidLayout ki_InvalidLayout_InvalidLayout hC_InvalidLayout tC_InvalidLayout
    ki_InvalidPlace_InvalidWidth := kit_no ki_InvalidPlace_InvalidWidth ki_InvalidWidth_InvalidWidth hC_InvalidWidth tC_InvalidWidth
    ki_InvalidPlace_InvalidPlace := kit_self
    e_InvalidWidth := { C := C_InvalidWidth, I := I_InvalidWidth, D := _, m := PySem.W.mg_of X G pC_InvalidWidth, ox := oexC_mk xL_InvalidWidth (by rfl) sa_InvalidWidth eC_InvalidWidth tC_InvalidWidth kC_InvalidWidth, no := no_InvalidWidth, iC := iC_InvalidWidth, tI := tI_InvalidWidth, F := FI_InvalidWidth, b := b1_of FI_InvalidWidth 2 (by simp) rfl (fun _ _ _ _ _ _ _ us its l1 l2 => match us, its, l1, l2 with | [_, _], [_], _, _ => ⟨_, rfl, rfl⟩), xf := ⟨ga_InvalidWidth, gg_InvalidWidth, eC_InvalidWidth, hC_InvalidWidth⟩, ec := ⟨ga_InvalidWidth, gg_InvalidWidth, eC_InvalidWidth, hC_InvalidWidth, ca_InvalidWidth, hn0, ht0, mo_InvalidWidth⟩ }
    ex_InvalidWidth := PySem.W.exm_ref be_LayoutError bh_LayoutError bt_LayoutError sb_InvalidWidth
    ki_InvalidWidth_InvalidLayout := kit_no ki_InvalidWidth_InvalidLayout ki_InvalidLayout_InvalidLayout hC_InvalidLayout tC_InvalidLayout
    ki_InvalidWidth_InvalidWidth := kit_self
    ki_InvalidWidth_InvalidPlace := kit_no ki_InvalidWidth_InvalidPlace ki_InvalidPlace_InvalidPlace hC_InvalidPlace tC_InvalidPlace
  }
  exact ⟨T.d_law, fun s v => .of_eq rfl, fun base _ _ => main_ok T⟩
theorem walk {l : PySem.W.OpenLaw} {q : Program} {loose : List Str} {XP : (Str → Option Value) → Heap → Prop} {YP : World → Heap → Prop} {d : DefRec} {K : Params → PySem.W.Frag} (hn : l.most = some 63) (hdf : d.params.defaults = [])
    (hY : ∀ (w : World) (h : Heap), YP w h → (K w.params).In h)
    (F : ∀ (w : World) (mg : Str → Option Value) (fa : Addr) (h : Heap), (K w.params).In h → h.Ns mainGlobals mg → mg d.name = some (.ref fa) →
      ∃ fd : FuncData, (∀ (s : Shared) (u : Value), BindsTo s fd ⟨[u], []⟩ [("_law_script", u)]) ∧ ∀ base : Heap, (K w.params).In base → base.Ns mainGlobals mg → FnOk l.prog w (K w.params) mg base CX0 8 fa fd ["_law_script"] (spLaw (K w.params))) :
    PySem.W.WalkO q loose XP YP l.row.toRowW d [] (fun f vs => PySem.call f vs) :=
  L2.walk_of (n := 63) (k := 8) (x := "_law_script") (CX := fun _ => CX0) (sp := fun w => spLaw (K w.params)) hn (by decide) hdf ⟨rfl, by decide, by decide⟩ hY F (fun _ _ a ns hl _ hS => ⟨a, ns, rfl, hS, hl, fun _ => rfl⟩) fun _ _ _ _ _ z => z
end K30
open PySem PySem.W PyProof.Rows in
set_option maxRecDepth 100000 in
set_option maxHeartbeats 0 in
theorem PySem.Challenge.cw_layoutsets_k30_costs_of_layouts_holds : PySem.Challenge.rw_layoutsets_k30_costs_of_layouts.Holds := by
  w_on; o_law; k_head; (case hw => w_witness2)
  k_fill
  refine K30.walk (l := PySem.Challenge.rw_layoutsets_k30_costs_of_layouts) rfl rfl (fun w h Y => PySem.W.kIn_of Y) ?F
  case F =>
    intro w mg fa h KX G hmg
    refine' K30.all_mk KX G hmg ?p0 ?l0 ?c0 ?k0 ?p1 ?l1 ?c1 ?k1 ?p2 ?l2 ?c2 ?k2 ?p3 ?l3 ?c3 ?k3 ?p4 ?l4 ?c4 ?k4 ?p5 ?l5 ?c5 ?k5 ?dv5_0 ?rv5_0 ?dv5_1 ?rv5_1 ?p6 ?l6 ?c6 ?k6 ?p7 ?l7 ?c7 ?k7 ?p8 ?l8 ?c8 ?k8 ?p9 ?l9 ?c9 ?k9 ?p10 ?l10 ?c10 ?k10 ?p11 ?l11 ?c11 ?k11 ?p12 ?l12 ?c12 ?k12 ?p13 ?l13 ?c13 ?k13 ?p14 ?l14 ?c14 ?k14 ?p15 ?l15 ?c15 ?k15 ?z_all ?z_bool ?z_enumerate ?z_int ?z_isinstance ?z_len ?z_max ?z_min ?z_range ?z_str ?z_sum ?z_tuple ?pb_LayoutError ?be_LayoutError ?bh_LayoutError ?bt_LayoutError ?hn0 ?ht0 ?pC_InvalidLayout ?xL_InvalidLayout ?sa_InvalidLayout ?ga_InvalidLayout ?gg_InvalidLayout ?no_InvalidLayout ?iC_InvalidLayout ?tI_InvalidLayout ?lI_InvalidLayout ?cI_InvalidLayout ?kI_InvalidLayout ?lT_InvalidLayout ?rv_InvalidLayout ?kC_InvalidLayout ?eC_InvalidLayout ?tC_InvalidLayout ?hC_InvalidLayout ?ca_InvalidLayout ?mo_InvalidLayout ?sb_InvalidLayout ?pC_InvalidPlace ?xL_InvalidPlace ?sa_InvalidPlace ?ga_InvalidPlace ?gg_InvalidPlace ?no_InvalidPlace ?iC_InvalidPlace ?tI_InvalidPlace ?lI_InvalidPlace ?cI_InvalidPlace ?kI_InvalidPlace ?lT_InvalidPlace ?rv_InvalidPlace ?kC_InvalidPlace ?eC_InvalidPlace ?tC_InvalidPlace ?hC_InvalidPlace ?ca_InvalidPlace ?mo_InvalidPlace ?sb_InvalidPlace ?pC_InvalidWidth ?xL_InvalidWidth ?sa_InvalidWidth ?ga_InvalidWidth ?gg_InvalidWidth ?no_InvalidWidth ?iC_InvalidWidth ?tI_InvalidWidth ?lI_InvalidWidth ?cI_InvalidWidth ?kI_InvalidWidth ?lT_InvalidWidth ?rv_InvalidWidth ?kC_InvalidWidth ?eC_InvalidWidth ?tC_InvalidWidth ?hC_InvalidWidth ?ca_InvalidWidth ?mo_InvalidWidth ?sb_InvalidWidth ?ki_InvalidLayout_InvalidLayout ?ki_InvalidLayout_InvalidWidth ?ki_InvalidLayout_InvalidPlace ?ki_InvalidPlace_InvalidLayout ?ki_InvalidPlace_InvalidWidth ?ki_InvalidPlace_InvalidPlace ?ki_InvalidWidth_InvalidLayout ?ki_InvalidWidth_InvalidWidth ?ki_InvalidWidth_InvalidPlace
    (case p0 => k_is)
    (case l0 => k_is)
    (case c0 => k_is)
    (case k0 => k_is)
    (case p1 => k_is)
    (case l1 => k_is)
    (case c1 => k_is)
    (case k1 => k_is)
    (case p2 => k_is)
    (case l2 => k_is)
    (case c2 => k_is)
    (case k2 => k_is)
    (case p3 => k_is)
    (case l3 => k_is)
    (case c3 => k_is)
    (case k3 => k_is)
    (case p4 => k_is)
    (case l4 => k_is)
    (case c4 => k_is)
    (case k4 => k_is)
    (case p5 => k_is)
    (case l5 => k_is)
    (case c5 => k_is)
    (case k5 => k_is)
    (case dv5_0 => k_is)
    (case rv5_0 => first | rfl | exact ⟨_, rfl⟩)
    (case dv5_1 => k_is)
    (case rv5_1 => first | rfl | exact ⟨_, rfl⟩)
    (case p6 => k_is)
    (case l6 => k_is)
    (case c6 => k_is)
    (case k6 => k_is)
    (case p7 => k_is)
    (case l7 => k_is)
    (case c7 => k_is)
    (case k7 => k_is)
    (case p8 => k_is)
    (case l8 => k_is)
    (case c8 => k_is)
    (case k8 => k_is)
    (case p9 => k_is)
    (case l9 => k_is)
    (case c9 => k_is)
    (case k9 => k_is)
    (case p10 => k_is)
    (case l10 => k_is)
    (case c10 => k_is)
    (case k10 => k_is)
    (case p11 => k_is)
    (case l11 => k_is)
    (case c11 => k_is)
    (case k11 => k_is)
    (case p12 => k_is)
    (case l12 => k_is)
    (case c12 => k_is)
    (case k12 => k_is)
    (case p13 => k_is)
    (case l13 => k_is)
    (case c13 => k_is)
    (case k13 => k_is)
    (case p14 => k_is)
    (case l14 => k_is)
    (case c14 => k_is)
    (case k14 => k_is)
    (case p15 => k_is)
    (case l15 => k_is)
    (case c15 => k_is)
    (case k15 => k_is)
    (case z_all => k_is)
    (case z_bool => k_is)
    (case z_enumerate => k_is)
    (case z_int => k_is)
    (case z_isinstance => k_is)
    (case z_len => k_is)
    (case z_max => k_is)
    (case z_min => k_is)
    (case z_range => k_is)
    (case z_str => k_is)
    (case z_sum => k_is)
    (case z_tuple => k_is)
    (case pb_LayoutError => k_is)
    (case be_LayoutError => k_is)
    (case bh_LayoutError => k_is)
    (case bt_LayoutError => k_is)
    (case hn0 => k_is)
    (case ht0 => k_is)
    (case pC_InvalidLayout => k_is)
    (case xL_InvalidLayout => k_is)
    (case sa_InvalidLayout => k_is)
    (case ga_InvalidLayout => k_is)
    (case gg_InvalidLayout => k_is)
    (case no_InvalidLayout => k_is)
    (case iC_InvalidLayout => k_is)
    (case tI_InvalidLayout => k_is)
    (case lI_InvalidLayout => k_is)
    (case cI_InvalidLayout => k_is)
    (case kI_InvalidLayout => k_is)
    (case lT_InvalidLayout => k_is)
    (case rv_InvalidLayout => first | rfl | exact ⟨_, rfl⟩)
    (case kC_InvalidLayout => k_is)
    (case eC_InvalidLayout => k_is)
    (case tC_InvalidLayout => k_is)
    (case hC_InvalidLayout => k_is)
    (case ca_InvalidLayout => k_is)
    (case mo_InvalidLayout => k_is)
    (case sb_InvalidLayout => k_is)
    (case pC_InvalidPlace => k_is)
    (case xL_InvalidPlace => k_is)
    (case sa_InvalidPlace => k_is)
    (case ga_InvalidPlace => k_is)
    (case gg_InvalidPlace => k_is)
    (case no_InvalidPlace => k_is)
    (case iC_InvalidPlace => k_is)
    (case tI_InvalidPlace => k_is)
    (case lI_InvalidPlace => k_is)
    (case cI_InvalidPlace => k_is)
    (case kI_InvalidPlace => k_is)
    (case lT_InvalidPlace => k_is)
    (case rv_InvalidPlace => first | rfl | exact ⟨_, rfl⟩)
    (case kC_InvalidPlace => k_is)
    (case eC_InvalidPlace => k_is)
    (case tC_InvalidPlace => k_is)
    (case hC_InvalidPlace => k_is)
    (case ca_InvalidPlace => k_is)
    (case mo_InvalidPlace => k_is)
    (case sb_InvalidPlace => k_is)
    (case pC_InvalidWidth => k_is)
    (case xL_InvalidWidth => k_is)
    (case sa_InvalidWidth => k_is)
    (case ga_InvalidWidth => k_is)
    (case gg_InvalidWidth => k_is)
    (case no_InvalidWidth => k_is)
    (case iC_InvalidWidth => k_is)
    (case tI_InvalidWidth => k_is)
    (case lI_InvalidWidth => k_is)
    (case cI_InvalidWidth => k_is)
    (case kI_InvalidWidth => k_is)
    (case lT_InvalidWidth => k_is)
    (case rv_InvalidWidth => first | rfl | exact ⟨_, rfl⟩)
    (case kC_InvalidWidth => k_is)
    (case eC_InvalidWidth => k_is)
    (case tC_InvalidWidth => k_is)
    (case hC_InvalidWidth => k_is)
    (case ca_InvalidWidth => k_is)
    (case mo_InvalidWidth => k_is)
    (case sb_InvalidWidth => k_is)
    (case ki_InvalidLayout_InvalidLayout => k_is)
    (case ki_InvalidLayout_InvalidWidth => k_is)
    (case ki_InvalidLayout_InvalidPlace => k_is)
    (case ki_InvalidPlace_InvalidLayout => k_is)
    (case ki_InvalidPlace_InvalidWidth => k_is)
    (case ki_InvalidPlace_InvalidPlace => k_is)
    (case ki_InvalidWidth_InvalidLayout => k_is)
    (case ki_InvalidWidth_InvalidWidth => k_is)
    (case ki_InvalidWidth_InvalidPlace => k_is)
