import PyProof.Rows.All
import Wide.All
import OpenK.AllK
import Wide.FinOn
import HandS.ForMost
import HandS.IsInst
import HandS.TupAny
import HandS.Walk
import HandS.Wide
import KE.GoesEnum
import HandS.Defaults
import PySem.Challenge.RW_layoutsets_k10_layouts_checked
set_option Elab.async false
set_option linter.all false
set_option maxRecDepth 100000
set_option maxHeartbeats 4000000
namespace Vk
open PySem PySem.Spec PyProof.Rows L2

abbrev enumObj (i : Addr) : Obj :=
  { cls := .type "enumerate", data := .fields #[.none, .bool false, .ref i, rawInt 0, .none, .none] }
/-! ### enumerate of one thing that begins as a new iterator -/
theorem enum_one {v : Value} {o : Obj} {G : Heap → Prop} (B : Begins v o G) :
    Meets (Builtin.«enumerate.__new__» ⟨[.type "enumerate", v], []⟩)
      (fun _ R s => G s.heap ∧
        R (.ok (.ret (.ref (s.heap.push o).objs.size)))
          { s with heap := (s.heap.push o).push (enumObj s.heap.objs.size) }) :=
  .of_wp fun prog w A R s h => by
    obtain ⟨hp, gs, dd, tk, os⟩ := s
    obtain ⟨hG, hR⟩ := h
    have sub := sub_enumerate
    have go : ∀ {A' : Around} {E Q : Value → Shared → Prop},
        Q (.ref hp.objs.size) ⟨hp.push o, gs, dd, tk, os⟩ →
        wpAny (model prog w) A' (pyIter v) Q E ⟨hp, gs, dd, tk, os⟩ :=
      fun q => B.iter prog w _ _ ⟨hp, gs, dd, tk, os⟩ _ hG q
    wp_walk using go
    refine wpAny_stack_any fun _ => wpAny_pure ?_
    split
    · rename_i c _ _ _ _ _
      cases (c == Value.type "enumerate") <;> wp_walk using go <;> exact ⟨_, rfl, hR⟩
    · wp_walk using go
      exact ⟨_, rfl, hR⟩
section
variable {prog : Program} {w : World} {A : Around} {E : Value → Shared → Prop} {s : Shared}
theorem enum_call {v : Value} {o : Obj} {G : Heap → Prop} {Q : Value → Shared → Prop}
    (B : Begins v o G) (hG : G s.heap)
    (h : ∀ h', IsEnum h' (s.heap.objs.size + 1) s.heap.objs.size 0 .none → h'.get? s.heap.objs.size = some o →
      (∀ b u, s.heap.get? b = some u → h'.get? b = some u) →
      Q (.ref (s.heap.objs.size + 1)) { s with heap := h' }) :
    wpAny (model prog w) A (call (.type "enumerate") [v]) Q E s := by
  refine callType_new F.called_enumerate (by decide) (F.typeCall_enumerate_1 _) (F.newCall_enumerate_1 _)
    (fun obj => F.args_object_init_2 obj _) F.entry_enumerate_new (enum_one B) ⟨hG, ?_⟩
  have sz : (s.heap.push o).objs.size = s.heap.objs.size + 1 := Heap.size_push ..
  show _ ∧ _
  rw [sz]
  generalize hk : (s.heap.push o).push (enumObj s.heap.objs.size) = k
  have e1 : IsEnum k (s.heap.objs.size + 1) s.heap.objs.size 0 .none := by
    rw [← hk, ← sz]
    exact Heap.get?_push_size (s.heap.push o) rfl
  have e2 : k.get? s.heap.objs.size = some o := by
    rw [← hk]
    exact Heap.get?_push_of_some _ (Heap.get?_push_size _ B.free)
  have e3 : ∀ b u, s.heap.get? b = some u → k.get? b = some u := fun b u q => by
    rw [← hk]
    exact Heap.get?_push_of_some _ (Heap.get?_push_of_some _ q)
  exact ⟨⟨_, e1, rfl⟩, h k e1 e2 e3⟩
end
end Vk

namespace Vk
open PySem PySem.Spec PyProof.Rows L2

/-- enumerate over the tuple at a: at each turn a new pair of the number and the item -/
def EnT (K : PySem.W.Frag) (a : Addr) : It where
  go i H := ∃ (xs : List V) (x : V), SqT K H a xs ∧ xs[i]? = some x
  yld i H v H' := ∃ (T : Addr) (x : V), v = .ref T ∧ H T = none ∧ H' = upd H T (.tup [.int (i : Nat), x]) ∧
    ∀ xs, SqT K H a xs → xs[i]? = some x
  stop i H := ∃ xs : List V, SqT K H a xs ∧ xs.length ≤ i

theorem enT_turn {P : Program} {w : World} {K : PySem.W.Frag} {es : List Expr} {kk : Nat} {tp : Pos} (a e it : Addr) :
    Turn P w K (.Tuple es kk tp) (EnT K a) [e, it] e
      (fun i h => (∃ old, IsEnum h e it ((i : Nat) : Int) old) ∧ h.IsTupleIter it a i ∧ e ≠ it) where
  mem := by simp
  obj := by
    rintro i h ⟨⟨old, he⟩, ⟨o, ho, hc, hd⟩, _⟩ b hb
    rcases (by simpa using hb : b = e ∨ b = it) with rfl | rfl
    · exact ⟨_, he, fun v q => nomatch q⟩
    · exact ⟨o, ho, fun v q => by rw [hd] at q; cases q⟩
  keep := by
    rintro i h h' ⟨⟨old, he⟩, hi, hne⟩ k
    exact ⟨⟨old, k e (by simp) _ he⟩, hi.at fun o q => k it (by simp) o q, hne⟩
  item := by
    rintro X rfl rfl rfl hc i pins s σ H E I hf ⟨⟨old, he⟩, hit, hne⟩ ⟨xs, x, hq, hx⟩
    obtain ⟨its, rv, p, hz⟩ := I.tuple hq
    have pT : s.heap.IsTuple a its.toArray := p
    have hel := Heap.lt_size he
    have hil : it < s.heap.objs.size := let ⟨_, q, _⟩ := hit; Heap.lt_size q
    have nae : e ≠ a := by
      rintro rfl
      obtain ⟨o, q, c, _⟩ := p
      rw [he] at q
      cases q
      injection c with c
      exact absurd c (by decide)
    have nai : a ≠ it := by
      rintro rfl
      obtain ⟨o, q, c, _⟩ := p
      obtain ⟨o2, q2, c2, _⟩ := hit
      rw [q] at q2
      cases q2
      rw [c] at c2
      injection c2 with c2
      exact absurd c2 (by decide)
    have D := Draws.tuple (prog := X.prog) (w := X.w) (A := X.A.in1) (I.ok.hd hc) it a nai its.toArray
    have lt : i < its.toArray.size := by
      have l1 := rv.length
      have l2 := (List.getElem?_eq_some_iff.mp hx).1
      simp only [List.size_toArray]
      omega
    refine wpAny_pyNext_enum_itemD D he ⟨hit, pT⟩ lt hne (by simp [nae, hne]) fun u h1 tk hu ho st1 hT hsz hk => ?_
    obtain ⟨u', hu', ru⟩ := rv.get hx
    obtain rfl : u' = u := by
      have e1 : its[i]? = some u := by simpa using hu
      exact Option.some.inj (hu'.symm.trans e1)
    refine ⟨_, rfl, wpAny_letOwnedTupleGo_enum (s := { s with heap := h1, toks := tk + 1 }) ho fun h2 he2 sb => ?_⟩
    have hT2 := (sb.2 _ (Nat.ne_of_gt hel)).trans hT
    have fresh : H s.heap.objs.size = none := I.hok.fresh (Nat.le_refl _)
    have new : ObjOk X.prog X.w (upd H s.heap.objs.size (.tup [.int (i : Nat), x])) h2 s.heap.objs.size
        (.tup [.int (i : Nat), x]) :=
      ⟨by show 2 ≤ sizeLine; decide, _, .cons ⟨_, rfl⟩ (.cons ru .nil), ⟨_, hT2, rfl, _, rfl⟩⟩
    have I1 := I.turnedNew (t' := tk + 1) (ch := [e, it]) (fun b ob hb q =>
      (sb.2 b (fun z => hb (by simp [z]))).trans
        (hk b ob (fun z => hb (by simp [z])) (fun z => hb (by simp [z])) q)) hf (Nat.le_refl _) new
    refine ⟨.ref s.heap.objs.size, _, I1, rfl, ⟨_, x, rfl, fresh, rfl, fun ys hy => ?_⟩, ⟨⟨u', ?_⟩, ?_, hne⟩, fun b hb => ?_⟩
    · rw [I.tuple_inj hy hq]
      exact hx
    · rw [show ((i + 1 : Nat) : Int) = (i : Int) + 1 by omega]
      exact he2
    · exact st1.1.at fun o q => (sb.2 it (Ne.symm hne)).trans q
    · have lb : b < s.heap.objs.size := by
        rcases (by simpa using hb : b = e ∨ b = it) with rfl | rfl
        · exact hel
        · exact hil
      rw [upd_ne (Nat.ne_of_lt lb)]
      exact (hf b hb).1
  done := by
    rintro X rfl rfl rfl hc i pins s σ H E I hf ⟨⟨old, he⟩, hit, hne⟩ ⟨xs, hq, hx⟩
    obtain ⟨its, rv, p, hz⟩ := I.tuple hq
    have pT : s.heap.IsTuple a its.toArray := p
    have nai : a ≠ it := by
      rintro rfl
      obtain ⟨o, q, c, _⟩ := p
      obtain ⟨o2, q2, c2, _⟩ := hit
      rw [q] at q2
      cases q2
      rw [c] at c2
      injection c2 with c2
      exact absurd c2 (by decide)
    have T : s.TypeIs (.ref e) "enumerate" := ⟨_, he, rfl⟩
    obtain ⟨f0, f1, f2, f3, f4, f5⟩ := hf it (by simp)
    have past : its.toArray[i]? = none := by
      have l1 := rv.length
      simp
      omega
    unfold pyNext
    refine wpAny_bind (wpAny_attempt (wpAny_callSpecial?_slot (name := Str.ofString "__next__") T F.slot_enumerate_next
      (wpAny_call_entry F.slot_enumerate_next T F.entry_enumerate_next ?_ (F.args_enumerate_next_1 _))))
    show wpAny _ _ (field (.ref e) 2 >>= _) _ _ _
    refine wpAny_bind (wpAny_field he rfl (x := .ref it) rfl ?_)
    refine wpAny_bind (wpAny_nextOf_tuple_end (I.ok.hd hc) hit pT past fun h' x eb hs => ?_)
    obtain ⟨o, ho, hc2⟩ := hs
    refine wpAny_bind (wpAny_isInstance (T := "StopIteration") (b := true) ⟨o, ho, hc2⟩ isSubtype_stop ?_)
    exact wpAny_pure ⟨rfl, I.turned (t' := s.toks) (fun b o hb q => eb b o hb q) f0 f1 f3 f4 f5⟩
  self := fun A i s Q E st h => wpAny_pyIter_enum st.1.choose_spec h
def iEnT (K : PySem.W.Frag) (ta : TA) : TI := fun σ H R => ta σ H fun vs H1 =>
  ∃ (a : Addr) (xs : List V), vs = [.ref a] ∧ SqT K H1 a xs ∧ R (EnT K a) H1
theorem pi_enT {X : Cx} {e : Expr} {ta : TA} {p pos tp : Pos} {es : List Expr} {kk : Nat}
    (hg : Gl X "enumerate") (hm : X.mg "enumerate" = none) (ha : PA X [e] ta)
    (hs : starEach [e] X.env = [(false, eval e X.env)] := by rfl) :
    PI X (.Tuple es kk tp) (.Call (.Name "enumerate" p) [e] [] pos) (iEnT X.K ta) := by
  refine ⟨fun pins s σ H R I h => ?_⟩
  refine Call_ (ld_blt I hg hm boot_enumerate (PyProof.Rows.callWith_type1
    (thn (ha.run pos pins s σ H _ I h) fun us s1 ⟨vs, H1, I1, r1, q1⟩ => ?_) hs rfl))
  obtain ⟨a, xs, rfl, hq, q⟩ := q1
  cases r1 with
  | cons r rr =>
    cases rr
    cases r
    obtain ⟨its, rv, p', hz⟩ := I1.tuple hq
    refine enum_call (begins_tuple a its.toArray) p' fun h' he hit hk => wpAny_pyIter_enum he ?_
    refine ⟨s1.heap.objs.size + 1, [s1.heap.objs.size + 1, s1.heap.objs.size], _, _, H1, rfl,
      I1.kept (t' := s1.toks) hk, enT_turn a (s1.heap.objs.size + 1) s1.heap.objs.size,
      ⟨⟨.none, he⟩, ⟨_, hit, rfl, rfl⟩, Nat.succ_ne_self _⟩, fun b hb => ?_, q⟩
    have lb : s1.heap.objs.size ≤ b := by
      rcases (by simpa using hb : b = s1.heap.objs.size + 1 ∨ b = s1.heap.objs.size) with rfl | rfl
      · exact Nat.le_add_right _ _
      · exact Nat.le_refl _
    exact I1.fpOk lb (I1.hok.fresh lb)
theorem walk_enT {K : PySem.W.Frag} {a : Addr} {xs : List V} : Walk (EnT K a) xs.length (fun H => SqT K H a xs)
    (YPair (fun i => some (.int (i : Nat))) (fun i => xs[i]?)) where
  goes i _ hi q := ⟨xs, xs[i], q, by simp [hi]⟩
  stops _ q := ⟨xs, q, Nat.le_refl _⟩
  yields i H v H' _ q y := let ⟨T, x, h1, h2, h3, h4⟩ := y; ⟨T, .int (i : Nat), x, h1, h2, h3, rfl, h4 xs q⟩
end Vk

namespace Vk
open PySem PySem.Spec PyProof.Rows L2

/-! ### a power of a great base -/
def CPowW (i j : Int) : Prop := 0 ≤ j ∧ ((i.natAbs.log2 : Int) + 1) * j ≤ 1000000
theorem op_powW {X : Cx} : OpR X (binaryOp .Pow) (rI CPowW fun i j => .int (i ^ j.toNat)) :=
  opI fun i j _ _ _ _ _ hc q => pow_int hc.1 (by
    have b : ((Builtin.Int.intBits i : Nat) : Int) ≤ (i.natAbs.log2 : Int) + 1 := by
      unfold Builtin.Int.intBits
      split <;> omega
    have m := Int.mul_le_mul_of_nonneg_right b hc.1
    have c := hc.2
    omega) q

/-! ### f(k = v): keywords alone -/
section
variable {X : Cx} {CX : CXT} {k : Nat} {f : Addr} {fd : FuncData} {ps ks : List Str} {sp : Sp} {E : XK} {x : Str}
  {p pos : Pos} {kws : List Keyword} {tk : TA} {g : List Value → List Value → List Value} {gV : List V → List V → List V}
theorem pe_callK0 (F : FnOk X.prog X.w X.K X.mg X.base CX k f fd ps sp) (hr : Room k X.A) (hg : Gl X x)
    (hm : X.mg x = some (.ref f)) (hk : PySem.W.keepIn X.K (.ref f) = true) (hb : KBn X.K fd ps 0 ks g gV)
    (hx : Passes CX X E) (hkw : PK X kws tk)
    (hall : (backToKw pos (keywordEach kws X.env)).all (·.1.isSome) = true := by rfl)
    (hks : (backToKw pos (keywordEach kws X.env)).filterMap (·.1) = ks := by rfl)
    (hdb : (x == ("__debug__" : Str)) = false := by decide)
    (hpl : ((backTo pos (starEach [] X.env)).any (·.1) ||
      (backToKw pos (keywordEach kws X.env)).any (·.1.isNone)) = false := by rfl) :
    PE X (.Call (.Name x p) [] kws pos) (tCallN 0 ks.length sp gV E tNil tk) := by
  refine ⟨fun pins s σ H Q I h => wpAny_Call_Name_kw (ld_glob I hg hm ?_ hdb)⟩
  refine PySem.W.callWith_KW0 (h₀ := X.base) I.ok.mod.kin hk hall ?_ hpl
  refine thn (hkw.run pos pins s σ H _ I h) fun ws s2 ⟨zs, H2, I2, rz, l1, l2, q2⟩ => ⟨I2.kIn, ?_⟩
  rw [hks]
  exact run_fnN (us := []) F hr hb hx I2 .nil rz l1 l2 q2
end
/-- every parameter by its name, in the parameters' order -/
theorem kb_of {K : PySem.W.Frag} {x qual : Str} {st : Stmt} {f : Addr} {fd : FuncData} {ps ks : List Str}
    (F : Fun K x qual st f fd)
    (h : ∀ (kV doc pm : Value) (an : Option Addr) (cdv ct : Value) (ws : List Value), ws.length = ks.length →
      bindArgs (PySem.W.fnOf x qual (defArgs st) (defBody st) (defScope st) .none kV doc pm an cdv ct)
        ⟨[], ks.zip ws⟩ = pure (ps.zip ws)) :
    KBn K fd ps 0 ks (fun _ ws => ws) (fun _ zs => zs) where
  to := by
    obtain ⟨oc, od, kV, doc, pm, an, cdv, ct, osl, rfl, lk, hcd⟩ := F.ex
    intro s us ws X l1 l2
    obtain rfl : us = [] := List.length_eq_zero_iff.mp l1
    exact .of_eq (h kV doc pm an cdv ct ws l2)
  rel := fun _ r => r

/-! ### the heap without one object -/
def hide (p : Addr) (H : Hp) : Hp := fun b => if b = p then none else H b
theorem hide_ne {p b : Addr} {H : Hp} (h : b ≠ p) : hide p H b = H b := if_neg h
theorem hide_at {p : Addr} {H : Hp} : hide p H p = none := if_pos rfl
theorem hide_upd {p : Addr} {H : Hp} {o : HO} : hide p (upd H p o) = hide p H := by
  funext b
  unfold hide upd
  by_cases h : b = p
  · rw [if_pos h, if_pos h]
  · rw [if_neg h, if_neg h, if_neg h]
theorem hide_out {p q : Addr} {H : Hp} {o : HO} (h : q ≠ p) : hide p (upd H q o) = upd (hide p H) q o := by
  funext b
  by_cases h1 : b = p
  · subst h1
    rw [hide_at, upd_ne (Ne.symm h), hide_at]
  · rw [hide_ne h1]
    by_cases h2 : b = q
    · subst h2
      rw [upd_same, upd_same]
    · rw [upd_ne h2, upd_ne h2, hide_ne h1]
theorem hide_same {p : Addr} {H : Hp} : Same (hide p H) H := fun b o e => by
  by_cases h : b = p
  · rw [h, hide_at] at e
    cases e
  · rwa [hide_ne h] at e
theorem Same.hide {p : Addr} {H H' : Hp} (s : Same H H') : Same (hide p H) (hide p H') := fun b o e => by
  by_cases h : b = p
  · rw [h, hide_at] at e
    cases e
  · rw [hide_ne h] at e ⊢
    exact s _ _ e
theorem same_new {H : Hp} {p : Addr} {o : HO} (h : H p = none) : Same H (upd H p o) := fun b u e => by
  rw [upd_ne (ne_of_none e h)]
  exact e

/-! ### data -/
theorem Same.seqT {K : PySem.W.Frag} {H H' : Hp} {a : Addr} {xs : List V} (e : Same H H') (h : SqT K H a xs) : SqT K H' a xs := by
  rcases h with (h | ⟨o, h⟩) | h
  · exact .inl (.inl (e _ _ h))
  · exact .inl (.inr ⟨o, e _ _ h⟩)
  · exact .inr h
mutual
theorem Dp.same {K : PySem.W.Frag} {H H' : Hp} (s : Same H H') : ∀ {v : V} {d : PyData}, Dp K H v d → Dp K H' v d
  | _, _, .non => .non
  | _, _, .bl b => .bl b
  | _, _, .int i => .int i
  | _, _, .str x => .str x
  | _, _, .lst h a => .lst (s.seq h) (DpAll.same s a)
  | _, _, .tup h a => .tup (Same.seqT s h) (DpAll.same s a)
theorem DpAll.same {K : PySem.W.Frag} {H H' : Hp} (s : Same H H') : ∀ {vs : List V} {ds : List PyData}, DpAll K H vs ds → DpAll K H' vs ds
  | _, _, .nil => .nil
  | _, _, .cons h t => .cons (Dp.same s h) (DpAll.same s t)
end
theorem DpAll.length {K : PySem.W.Frag} {H : Hp} : ∀ {vs : List V} {ds : List PyData}, DpAll K H vs ds → vs.length = ds.length
  | _, _, .nil => rfl
  | _, _, .cons _ t => congrArg Nat.succ (DpAll.length t)
theorem DpAll.get {K : PySem.W.Frag} {H : Hp} : ∀ {vs : List V} {ds : List PyData} {i : Nat} {d : PyData}, DpAll K H vs ds →
    ds[i]? = some d → ∃ v, vs[i]? = some v ∧ Dp K H v d
  | _, _, _, _, .nil, e => by simp at e
  | _, _, 0, _, .cons h _, e => by
    simp at e
    subst e
    exact ⟨_, rfl, h⟩
  | _, _, i + 1, _, .cons _ t, e => by
    obtain ⟨v, h1, h2⟩ := DpAll.get (i := i) t (by simpa using e)
    exact ⟨v, by simpa using h1, h2⟩
theorem DpAll.append {K : PySem.W.Frag} {H : Hp} : ∀ {vs ws : List V} {ds es : List PyData}, DpAll K H vs ds → DpAll K H ws es →
    DpAll K H (vs ++ ws) (ds ++ es)
  | _, _, _, _, .nil, h => h
  | _, _, _, _, .cons h t, h2 => .cons h (DpAll.append t h2)
theorem DpAll.take {K : PySem.W.Frag} {H : Hp} : ∀ {vs : List V} {ds : List PyData} (n : Nat), DpAll K H vs ds → DpAll K H (vs.take n) (ds.take n)
  | _, _, 0, _ => .nil
  | _, _, _ + 1, .nil => .nil
  | _, _, n + 1, .cons h t => .cons h (DpAll.take n t)
theorem DpAll.drop {K : PySem.W.Frag} {H : Hp} : ∀ {vs : List V} {ds : List PyData} (n : Nat), DpAll K H vs ds → DpAll K H (vs.drop n) (ds.drop n)
  | _, _, 0, h => h
  | _, _, _ + 1, .nil => .nil
  | _, _, n + 1, .cons h t => DpAll.drop n t
/-- a tuple of data -/
theorem Dp.ofTup {K : PySem.W.Frag} {H : Hp} {v : V} {ds : List PyData} (h : Dp K H v (.tuple ds)) :
    ∃ a xs, v = .ref a ∧ SqT K H a xs ∧ DpAll K H xs ds := by
  cases h with
  | tup h a => exact ⟨_, _, rfl, h, a⟩
theorem Dp.ofLst {K : PySem.W.Frag} {H : Hp} {v : V} {ds : List PyData} (h : Dp K H v (.list ds)) :
    ∃ a xs, v = .ref a ∧ SqL K H a xs ∧ DpAll K H xs ds := by
  cases h with
  | lst h a => exact ⟨_, _, rfl, h, a⟩
theorem Dp.ofInt {K : PySem.W.Frag} {H : Hp} {v : V} {i : Int} (h : Dp K H v (.int i)) : v = .int i := by cases h; rfl
theorem Dp.ofStr {K : PySem.W.Frag} {H : Hp} {v : V} {x : Str} (h : Dp K H v (.str x)) : v = .str x := by cases h; rfl
theorem Dp.ofBl {K : PySem.W.Frag} {H : Hp} {v : V} {b : Bool} (h : Dp K H v (.bool b)) : v = .bl b := by cases h; rfl
theorem Dp.ofNon {K : PySem.W.Frag} {H : Hp} {v : V} (h : Dp K H v .none) : v = .non := by cases h; rfl

/-! ### isinstance of data -/
def tyName : PyData → String
  | .none => "NoneType" | .bool _ => "bool" | .int _ => "int" | .str _ => "str"
  | .list _ => "list" | .tuple _ => "tuple" | .dict _ => "dict"
theorem dp_ty {K : PySem.W.Frag} {H : Hp} {v : V} {d : PyData} (h : Dp K H v d) : TyX K H v (.type (tyName d)) := by
  cases h with
  | non => exact .base .non
  | bl b => exact .base (.bl b)
  | int i => exact .base (.int i)
  | str x => exact .base (.str x)
  | lst h a =>
    rcases h with (h | ⟨o, h⟩) | ⟨o, its, n, h, c, _⟩
    · exact .base (.lst h)
    · exact .base (.frz h)
    · exact .kList h c
  | tup h a =>
    rcases h with (h | ⟨o, h⟩) | ⟨o, its, n, h, c, _⟩
    · exact .base (.tup h)
    · exact .fTuple h
    · exact .kTuple h c
def isInt : PyData → Bool
  | .int _ | .bool _ => true
  | _ => false
def isBool : PyData → Bool
  | .bool _ => true
  | _ => false
def isStr : PyData → Bool
  | .str _ => true
  | _ => false
def isTup : PyData → Bool
  | .tuple _ => true
  | _ => false
section
variable {K : PySem.W.Frag}
theorem kit_int : ∀ d : PyData, PySem.W.kitOne K (.type (tyName d)) (.type "int") = some (isInt d)
  | .none => kit_ty (show kitB "NoneType" "int" = some false by decide +kernel)
  | .bool _ => kit_ty (show kitB "bool" "int" = some true by decide +kernel)
  | .int _ => kit_ty (show kitB "int" "int" = some true by decide +kernel)
  | .str _ => kit_ty (show kitB "str" "int" = some false by decide +kernel)
  | .list _ => kit_ty (show kitB "list" "int" = some false by decide +kernel)
  | .tuple _ => kit_ty (show kitB "tuple" "int" = some false by decide +kernel)
  | .dict _ => kit_ty (show kitB "dict" "int" = some false by decide +kernel)
theorem kit_bool : ∀ d : PyData, PySem.W.kitOne K (.type (tyName d)) (.type "bool") = some (isBool d)
  | .none => kit_ty (show kitB "NoneType" "bool" = some false by decide +kernel)
  | .bool _ => kit_ty (show kitB "bool" "bool" = some true by decide +kernel)
  | .int _ => kit_ty (show kitB "int" "bool" = some false by decide +kernel)
  | .str _ => kit_ty (show kitB "str" "bool" = some false by decide +kernel)
  | .list _ => kit_ty (show kitB "list" "bool" = some false by decide +kernel)
  | .tuple _ => kit_ty (show kitB "tuple" "bool" = some false by decide +kernel)
  | .dict _ => kit_ty (show kitB "dict" "bool" = some false by decide +kernel)
theorem kit_str : ∀ d : PyData, PySem.W.kitOne K (.type (tyName d)) (.type "str") = some (isStr d)
  | .none => kit_ty (show kitB "NoneType" "str" = some false by decide +kernel)
  | .bool _ => kit_ty (show kitB "bool" "str" = some false by decide +kernel)
  | .int _ => kit_ty (show kitB "int" "str" = some false by decide +kernel)
  | .str _ => kit_ty (show kitB "str" "str" = some true by decide +kernel)
  | .list _ => kit_ty (show kitB "list" "str" = some false by decide +kernel)
  | .tuple _ => kit_ty (show kitB "tuple" "str" = some false by decide +kernel)
  | .dict _ => kit_ty (show kitB "dict" "str" = some false by decide +kernel)
theorem kit_tup : ∀ d : PyData, PySem.W.kitOne K (.type (tyName d)) (.type "tuple") = some (isTup d)
  | .none => kit_ty (show kitB "NoneType" "tuple" = some false by decide +kernel)
  | .bool _ => kit_ty (show kitB "bool" "tuple" = some false by decide +kernel)
  | .int _ => kit_ty (show kitB "int" "tuple" = some false by decide +kernel)
  | .str _ => kit_ty (show kitB "str" "tuple" = some false by decide +kernel)
  | .list _ => kit_ty (show kitB "list" "tuple" = some false by decide +kernel)
  | .tuple _ => kit_ty (show kitB "tuple" "tuple" = some true by decide +kernel)
  | .dict _ => kit_ty (show kitB "dict" "tuple" = some false by decide +kernel)
end

/-! ### the purse: three ints, n more draws -/
def PurseAt (H : Hp) (p : Addr) (n : Nat) : Prop :=
  ∃ a b c : Int, H p = some (.lst [.int a, .int b, .int c]) ∧ 0 ≤ b ∧ b < 2147483647 ∧ 0 ≤ c ∧ c + n ≤ 1000000000
theorem PurseAt.less {H : Hp} {p : Addr} {n m : Nat} (h : PurseAt H p n) (k : m ≤ n) : PurseAt H p m :=
  let ⟨a, b, c, e, h1, h2, h3, h4⟩ := h
  ⟨a, b, c, e, h1, h2, h3, by omega⟩
theorem PurseAt.same {H H' : Hp} {p : Addr} {n : Nat} (h : PurseAt H p n) (s : Same H H') : PurseAt H' p n :=
  let ⟨a, b, c, e, r⟩ := h
  ⟨a, b, c, s _ _ e, r⟩
theorem PurseAt.some {H : Hp} {p : Addr} {n : Nat} (h : PurseAt H p n) : ∃ xs, H p = some (.lst xs) :=
  let ⟨_, _, _, e, _⟩ := h
  ⟨_, e⟩
theorem PurseAt.ne {H : Hp} {p q : Addr} {n : Nat} (h : PurseAt H p n) (k : H q = none) : p ≠ q :=
  let ⟨_, e⟩ := h.some
  ne_of_none e k
end Vk

namespace Vk
open PySem PySem.Spec PyProof.Rows L2
/-! ### data beside the purse -/
theorem same_hid {p : Addr} {H : Hp} {o : HO} (h : H p = none) : Same H (hide p (upd H p o)) := fun b u e => by
  have ne : b ≠ p := ne_of_none e h
  rw [hide_ne ne, upd_ne ne]
  exact e
theorem dp_tup {K : PySem.W.Frag} {H : Hp} {r : Addr} {xs : List V} {ds : List PyData} (hr : H r = none) (hd : DpAll K H xs ds) :
    Dp K (upd H r (.tup xs)) (.ref r) (.tuple ds) := .tup (.of upd_same) (DpAll.same (same_new hr) hd)
theorem hide_get {p b : Addr} {H H' : Hp} (h : hide p H' = hide p H) (ne : b ≠ p) : H' b = H b := by
  rw [← hide_ne (H := H') ne, h, hide_ne ne]
theorem same_eq {p : Addr} {H H' : Hp} (h : hide p H' = hide p H) : Same (hide p H) (hide p H') := by
  rw [h]
  exact .refl _
theorem atI_in {xs : List V} {i : Int} (h0 : 0 ≤ i) (h1 : i < (xs.length : Int)) : ∃ v, atI xs i = some v ∧ v ∈ xs := by
  have hi : i.toNat < xs.length := by omega
  exact ⟨xs[i.toNat], at_of (j := i.toNat) (by omega) (by simp [hi]), List.getElem_mem hi⟩
theorem DpAll.mem {K : PySem.W.Frag} {H : Hp} : ∀ {vs : List V} {ds : List PyData} {v : V}, DpAll K H vs ds → v ∈ vs → ∃ d, d ∈ ds ∧ Dp K H v d
  | _, _, _, .nil, h => by cases h
  | _, _, v, .cons a t, h => by
    rcases List.mem_cons.mp h with rfl | h
    · exact ⟨_, List.mem_cons_self .., a⟩
    · obtain ⟨d, h1, h2⟩ := DpAll.mem t h
      exact ⟨d, List.mem_cons_of_mem _ h1, h2⟩
section
variable {K : PySem.W.Frag} {p : Addr} {n : Nat} {H : Hp} {Q : VK}
theorem hide_new {r : Addr} {o : HO} (pu : PurseAt H p n) (hr : H r = none) : hide p (upd H r o) r = some o := by
  rw [hide_ne (pu.ne hr).symm, upd_same]
theorem tup_new {r : Addr} {xs : List V} {ds : List PyData} (pu : PurseAt H p n) (hr : H r = none) (hd : DpAll K (hide p H) xs ds) :
    Dp K (hide p (upd H r (.tup xs))) (.ref r) (.tuple ds) := .tup (.of (hide_new pu hr)) (DpAll.same (Same.hide (same_new hr)) hd)
theorem lst_new {r : Addr} {xs : List V} {ds : List PyData} (pu : PurseAt H p n) (hr : H r = none) (hd : DpAll K (hide p H) xs ds) :
    Dp K (hide p (upd H r (.lst xs))) (.ref r) (.list ds) := .lst (.of (hide_new pu hr)) (DpAll.same (Same.hide (same_new hr)) hd)
theorem PurseAt.new {r : Addr} {o : HO} (pu : PurseAt H p n) (hr : H r = none) : PurseAt (upd H r o) p n := pu.same (same_new hr)
theorem hs_new {r : Addr} {o : HO} (hr : H r = none) : Same (hide p H) (hide p (upd H r o)) := Same.hide (same_new hr)
theorem catH {v u : V} {ds es : List PyData} (pu : PurseAt H p n) (hx : Dp K (hide p H) v (.tuple ds)) (hy : Dp K (hide p H) u (.tuple es)) (hl : ds.length + es.length ≤ 1000)
    (q : ∀ (r : V) (H' : Hp), Same (hide p H) (hide p H') → PurseAt H' p n → Dp K (hide p H') r (.tuple (ds ++ es)) → Q r H') : rCatA K v u H Q := by
  obtain ⟨a, xs, rfl, sx, ax⟩ := Dp.ofTup hx
  obtain ⟨b, ys, rfl, sy, ay⟩ := Dp.ofTup hy
  have lx := DpAll.length ax
  have ly := DpAll.length ay
  refine ⟨a, b, xs, ys, rfl, rfl, Same.seqT hide_same sx, Same.seqT hide_same sy, Nat.le_trans (m := 1000) (by omega) (by decide), fun e => ?_, fun _ e => ?_, fun _ _ r hr => ?_⟩
  · obtain rfl : ds = [] := List.length_eq_zero_iff.mp (by rw [← lx, e]; rfl)
    exact q _ _ (.refl _) pu hy
  · obtain rfl : es = [] := List.length_eq_zero_iff.mp (by rw [← ly, e]; rfl)
    rw [List.append_nil] at q
    exact q _ _ (.refl _) pu hx
  · exact q _ _ (hs_new hr) (pu.new hr) (tup_new pu hr (DpAll.append ax ay))
/-- an item of a list just laid, at a drawn place -/
theorem pickH {H2 : Hp} {l : Addr} {vs : List V} {ds : List PyData} {i : Int} (pu : PurseAt H p n) (hl : H l = none) (hh : hide p H2 = hide p (upd H l (.lst vs)))
    (h0 : 0 ≤ i) (h1 : i < (vs.length : Int)) (hv : DpAll K (hide p H) vs ds) (q : ∀ (v : V) (d : PyData), d ∈ ds → Dp K (hide p H2) v d → Q v H2) : rIxL K (.ref l) (.int i) H2 Q := by
  obtain ⟨v, e1, e2⟩ := atI_in h0 h1
  obtain ⟨d, d1, d2⟩ := DpAll.mem hv e2
  exact ⟨l, _, i, _, rfl, rfl, .of ((hide_get hh (pu.ne hl).symm).trans upd_same), e1, q v d d1 (Dp.same ((hs_new hl).trans (same_eq hh)) d2)⟩
/-- t[:i] -/
theorem headH {v : V} {ds : List PyData} {i : Nat} (pu : PurseAt H p n) (hx : Dp K (hide p H) v (.tuple ds)) (hi : i < ds.length)
    (q : ∀ (r : V) (H' : Hp), Same (hide p H) (hide p H') → PurseAt H' p n → Dp K (hide p H') r (.tuple (ds.take i)) → Q r H') : rSlA K v none (some (i : Int)) H Q := by
  obtain ⟨a, xs, rfl, sx, ax⟩ := Dp.ofTup hx
  have lx := DpAll.length ax
  have e : HT.sIx xs.length xs.length (some ((i : Nat) : Int)) = i := by rw [HT.sIx_nat]; omega
  refine ⟨a, xs, rfl, Same.seqT hide_same sx, fun h => ?_, fun _ r hr => ?_⟩
  · have h2 := h.2
    rw [e] at h2
    omega
  · refine q _ _ (hs_new hr) (pu.new hr) ?_
    have c : cutV xs none (some ((i : Nat) : Int)) = xs.take i := by
      unfold cutV
      rw [e, HT.sIx_none]
      rfl
    rw [c]
    exact tup_new pu hr (DpAll.take i ax)
/-- t[i:], 0 < i -/
theorem tailH {v : V} {ds : List PyData} {i : Nat} {z : Int} (hz : z = (i : Int)) (pu : PurseAt H p n) (hx : Dp K (hide p H) v (.tuple ds)) (h0 : 0 < i) (hi : i ≤ ds.length)
    (q : ∀ (r : V) (H' : Hp), Same (hide p H) (hide p H') → PurseAt H' p n → Dp K (hide p H') r (.tuple (ds.drop i)) → Q r H') : rSlA K v (some z) none H Q := by
  subst hz
  obtain ⟨a, xs, rfl, sx, ax⟩ := Dp.ofTup hx
  have lx := DpAll.length ax
  have e : HT.sIx xs.length 0 (some ((i : Nat) : Int)) = i := by rw [HT.sIx_nat]; omega
  refine ⟨a, xs, rfl, Same.seqT hide_same sx, fun h => ?_, fun _ r hr => ?_⟩
  · have h2 := h.1
    rw [e] at h2
    omega
  · refine q _ _ (hs_new hr) (pu.new hr) ?_
    have c : cutV xs (some ((i : Nat) : Int)) none = xs.drop i := by
      unfold cutV
      rw [e, HT.sIx_none]
      exact List.take_of_length_le (by rw [List.length_drop]; omega)
    rw [c]
    exact tup_new pu hr (DpAll.drop i ax)
/-- t[i] of a tuple of data -/
theorem itemH {v : V} {ds : List PyData} {d : PyData} {z : Int} {i : Nat} (hx : Dp K (hide p H) v (.tuple ds)) (hz : z = (i : Int)) (hd : ds[i]? = some d)
    (q : ∀ u : V, Dp K (hide p H) u d → Q u H) : rIxT K v (.int z) H Q := by
  obtain ⟨a, xs, rfl, sx, ax⟩ := Dp.ofTup hx
  obtain ⟨u, h1, h2⟩ := DpAll.get ax hd
  exact ⟨a, xs, z, u, rfl, rfl, Same.seqT hide_same sx, at_of hz h1, q u h2⟩
end
end Vk

namespace K10
open PySem PySem.Spec PyProof.Rows L2 Vk
def top (i : Nat) : Stmt := PySem.Challenge.pw_layoutsets_k10_layouts_checked.main.body.getD i (.Pass ⟨0, 0, 0, 0⟩)
abbrev s_is_whole : Stmt := top 1
abbrev N_is_whole : List Str := ["thing"]
abbrev P_is_whole : List Str := ["thing"]
theorem sc_is_whole : FnScope N_is_whole ["thing"] (defScope s_is_whole) := ⟨rfl, rfl, rfl, by decide +kernel, rfl, by decide +kernel, by decide +kernel⟩
abbrev s_is_plain : Stmt := top 2
abbrev N_is_plain : List Str := ["thing", "sign"]
abbrev P_is_plain : List Str := ["thing"]
theorem sc_is_plain : FnScope N_is_plain ["thing"] (defScope s_is_plain) := ⟨rfl, rfl, rfl, by decide +kernel, rfl, by decide +kernel, by decide +kernel⟩
abbrev s_check_layout : Stmt := top 4
abbrev N_check_layout : List Str := ["thing", "k", "row"]
abbrev P_check_layout : List Str := ["thing"]
theorem sc_check_layout : FnScope N_check_layout ["thing"] (defScope s_check_layout) := ⟨rfl, rfl, rfl, by decide +kernel, rfl, by decide +kernel, by decide +kernel⟩
abbrev s_is_line : Stmt := top 5
abbrev N_is_line : List Str := ["thing"]
abbrev P_is_line : List Str := ["thing"]
theorem sc_is_line : FnScope N_is_line ["thing"] (defScope s_is_line) := ⟨rfl, rfl, rfl, by decide +kernel, rfl, by decide +kernel, by decide +kernel⟩
abbrev s_l_at : Stmt := top 7
abbrev N_l_at : List Str := ["_law_script", "_law_k"]
abbrev P_l_at : List Str := ["_law_script", "_law_k"]
theorem sc_l_at : FnScope N_l_at ["_law_script", "_law_k"] (defScope s_l_at) := ⟨rfl, rfl, rfl, by decide +kernel, rfl, by decide +kernel, by decide +kernel⟩
abbrev s_l_mixed : Stmt := top 8
abbrev N_l_mixed : List Str := ["_law_cell", "_law_k", "_law_number"]
abbrev P_l_mixed : List Str := ["_law_cell", "_law_k"]
theorem sc_l_mixed : FnScope N_l_mixed ["_law_cell", "_law_k"] (defScope s_l_mixed) := ⟨rfl, rfl, rfl, by decide +kernel, rfl, by decide +kernel, by decide +kernel⟩
abbrev s_l_purse : Stmt := top 9
abbrev N_l_purse : List Str := ["_law_script", "_law_at_here", "_law_cell"]
abbrev P_l_purse : List Str := ["_law_script", "_law_at_here"]
theorem sc_l_purse : FnScope N_l_purse ["_law_script", "_law_at_here"] (defScope s_l_purse) := ⟨rfl, rfl, rfl, by decide +kernel, rfl, by decide +kernel, by decide +kernel⟩
abbrev s_l_draw : Stmt := top 10
abbrev N_l_draw : List Str := ["_law_purse_here", "_law_out_of", "_law_drawn"]
abbrev P_l_draw : List Str := ["_law_purse_here", "_law_out_of"]
theorem sc_l_draw : FnScope N_l_draw ["_law_purse_here", "_law_out_of"] (defScope s_l_draw) := ⟨rfl, rfl, rfl, by decide +kernel, rfl, by decide +kernel, by decide +kernel⟩
abbrev s_l_layout : Stmt := top 11
abbrev N_l_layout : List Str := ["_law_purse_here", "_law_found", "_law_turn"]
abbrev P_l_layout : List Str := ["_law_purse_here"]
theorem sc_l_layout : FnScope N_l_layout ["_law_purse_here"] (defScope s_l_layout) := ⟨rfl, rfl, rfl, by decide +kernel, rfl, by decide +kernel, by decide +kernel⟩
abbrev s_l_string : Stmt := top 12
abbrev N_l_string : List Str := ["_law_purse_here"]
abbrev P_l_string : List Str := ["_law_purse_here"]
theorem sc_l_string : FnScope N_l_string ["_law_purse_here"] (defScope s_l_string) := ⟨rfl, rfl, rfl, by decide +kernel, rfl, by decide +kernel, by decide +kernel⟩
abbrev s_l_bent : Stmt := top 13
abbrev N_l_bent : List Str := ["_law_purse_here", "_law_layout_here", "_law_way", "_law_at_here", "_law_row", "_law_new"]
abbrev P_l_bent : List Str := ["_law_purse_here", "_law_layout_here"]
theorem sc_l_bent : FnScope N_l_bent ["_law_purse_here", "_law_layout_here"] (defScope s_l_bent) := ⟨rfl, rfl, rfl, by decide +kernel, rfl, by decide +kernel, by decide +kernel⟩
abbrev s_l_line : Stmt := top 14
abbrev N_l_line : List Str := ["_law_row", "_law_indent", "_law_words", "_law_sign"]
abbrev P_l_line : List Str := ["_law_row"]
theorem sc_l_line : FnScope N_l_line ["_law_row"] (defScope s_l_line) := ⟨rfl, rfl, rfl, by decide +kernel, rfl, by decide +kernel, by decide +kernel⟩
abbrev s_l_due : Stmt := top 15
abbrev N_l_due : List Str := ["_law_item", "_law_k", "_law_row"]
abbrev P_l_due : List Str := ["_law_item"]
theorem sc_l_due : FnScope N_l_due ["_law_item"] (defScope s_l_due) := ⟨rfl, rfl, rfl, by decide +kernel, rfl, by decide +kernel, by decide +kernel⟩
abbrev s_law : Stmt := top 16
abbrev N_law : List Str := ["_law_script", "_law_at_here", "_law_purse_here", "_law_turn", "_law_layout_here", "_law_bent_here", "_law_two"]
abbrev P_law : List Str := ["_law_script"]
theorem sc_law : FnScope N_law ["_law_script"] (defScope s_law) := ⟨rfl, rfl, rfl, by decide +kernel, rfl, by decide +kernel, by decide +kernel⟩
structure Tx (K : PySem.W.Frag) (mg : Str → Option Value) where
  a_is_whole : Addr
  d_is_whole : FuncData
  F_is_whole : Fun K "is_whole" "is_whole" s_is_whole a_is_whole d_is_whole
  m_is_whole : mg "is_whole" = some (.ref a_is_whole)
  b_is_whole : Binds K d_is_whole ["thing"] []
  a_is_plain : Addr
  d_is_plain : FuncData
  F_is_plain : Fun K "is_plain" "is_plain" s_is_plain a_is_plain d_is_plain
  m_is_plain : mg "is_plain" = some (.ref a_is_plain)
  b_is_plain : Binds K d_is_plain ["thing"] []
  a_check_layout : Addr
  d_check_layout : FuncData
  F_check_layout : Fun K "check_layout" "check_layout" s_check_layout a_check_layout d_check_layout
  m_check_layout : mg "check_layout" = some (.ref a_check_layout)
  b_check_layout : Binds K d_check_layout ["thing"] []
  a_is_line : Addr
  d_is_line : FuncData
  F_is_line : Fun K "_is_line" "_is_line" s_is_line a_is_line d_is_line
  m_is_line : mg "_is_line" = some (.ref a_is_line)
  b_is_line : Binds K d_is_line ["thing"] []
  a_l_at : Addr
  d_l_at : FuncData
  F_l_at : Fun K "_law_at" "_law_at" s_l_at a_l_at d_l_at
  m_l_at : mg "_law_at" = some (.ref a_l_at)
  b_l_at : Binds K d_l_at ["_law_script", "_law_k"] []
  a_l_mixed : Addr
  d_l_mixed : FuncData
  F_l_mixed : Fun K "_law_mixed" "_law_mixed" s_l_mixed a_l_mixed d_l_mixed
  m_l_mixed : mg "_law_mixed" = some (.ref a_l_mixed)
  b_l_mixed : Binds K d_l_mixed ["_law_cell", "_law_k"] []
  a_l_purse : Addr
  d_l_purse : FuncData
  F_l_purse : Fun K "_law_purse" "_law_purse" s_l_purse a_l_purse d_l_purse
  m_l_purse : mg "_law_purse" = some (.ref a_l_purse)
  b_l_purse : Binds K d_l_purse ["_law_script", "_law_at_here"] []
  a_l_draw : Addr
  d_l_draw : FuncData
  F_l_draw : Fun K "_law_draw" "_law_draw" s_l_draw a_l_draw d_l_draw
  m_l_draw : mg "_law_draw" = some (.ref a_l_draw)
  b_l_draw : Binds K d_l_draw ["_law_purse_here", "_law_out_of"] []
  a_l_layout : Addr
  d_l_layout : FuncData
  F_l_layout : Fun K "_law_layout" "_law_layout" s_l_layout a_l_layout d_l_layout
  m_l_layout : mg "_law_layout" = some (.ref a_l_layout)
  b_l_layout : Binds K d_l_layout ["_law_purse_here"] []
  a_l_string : Addr
  d_l_string : FuncData
  F_l_string : Fun K "_law_string" "_law_string" s_l_string a_l_string d_l_string
  m_l_string : mg "_law_string" = some (.ref a_l_string)
  b_l_string : Binds K d_l_string ["_law_purse_here"] []
  a_l_bent : Addr
  d_l_bent : FuncData
  F_l_bent : Fun K "_law_bent" "_law_bent" s_l_bent a_l_bent d_l_bent
  m_l_bent : mg "_law_bent" = some (.ref a_l_bent)
  b_l_bent : Binds K d_l_bent ["_law_purse_here", "_law_layout_here"] []
  a_l_line : Addr
  d_l_line : FuncData
  F_l_line : Fun K "_law_line" "_law_line" s_l_line a_l_line d_l_line
  m_l_line : mg "_law_line" = some (.ref a_l_line)
  b_l_line : Binds K d_l_line ["_law_row"] []
  a_l_due : Addr
  d_l_due : FuncData
  F_l_due : Fun K "_law_due" "_law_due" s_l_due a_l_due d_l_due
  m_l_due : mg "_law_due" = some (.ref a_l_due)
  b_l_due : Binds K d_l_due ["_law_item"] []
  a_law : Addr
  d_law : FuncData
  F_law : Fun K "law" "law" s_law a_law d_law
  m_law : mg "law" = some (.ref a_law)
  b_law : Binds K d_law ["_law_script"] []
  z_all : mg "all" = none
  z_bool : mg "bool" = none
  z_enumerate : mg "enumerate" = none
  z_int : mg "int" = none
  z_isinstance : mg "isinstance" = none
  z_len : mg "len" = none
  z_list : mg "list" = none
  z_max : mg "max" = none
  z_min : mg "min" = none
  z_range : mg "range" = none
  z_str : mg "str" = none
  z_tuple : mg "tuple" = none
  kb_check_layout_thing : KBn K d_check_layout ["thing"] 0 ["thing"] (fun _ ws => ws) (fun _ zs => zs)
/-! ### the draws -/
def spAt (K : PySem.W.Frag) : Sp := fun vs H Q _ => ∃ (a : Addr) (ns : List Int) (k : Int),
  vs = [.ref a, .int k] ∧ SqL K H a (ns.map V.int) ∧ ns.length ≤ 63 ∧ 0 ≤ k ∧ ∀ i : Int, Q (.int i) H
def spMixed : Sp := fun vs H Q _ => ∃ c k : Int,
  vs = [.int c, .int k] ∧ 0 ≤ c ∧ c < 2147483647 ∧ 0 ≤ k ∧ k ≤ 2000000000 ∧ ∀ i : Int, Q (.int i) H
def spPurse (K : PySem.W.Frag) : Sp := fun vs H Q _ => ∃ (a : Addr) (ns : List Int) (k : Int),
  vs = [.ref a, .int k] ∧ SqL K H a (ns.map V.int) ∧ ns.length ≤ 63 ∧ 0 ≤ k ∧ k ≤ 100 ∧
  ∀ (p : Addr) (o : HO), H p = none → PurseAt (upd H p o) p 900000000 → Q (.ref p) (upd H p o)
def spDraw : Sp := fun vs H Q _ => ∃ (p : Addr) (m : Int) (n : Nat),
  vs = [.ref p, .int m] ∧ PurseAt H p (n + 1) ∧ 0 < m ∧ m < 1073741824 ∧
  ∀ (H' : Hp) (d : Int), hide p H' = hide p H → PurseAt H' p n → 0 ≤ d → d < m → Q (.int d) H'
section
variable {P : Program} {w : World} {K : PySem.W.Frag} {mg : Str → Option Value} {base : Heap} {k : Nat}
theorem ok_at (T : Tx K mg) : FnOk P w K mg base CX0 (k + 1) T.a_l_at T.d_l_at ["_law_script", "_law_k"] (spAt K) := by
  refine T.F_l_at.ok sc_l_at (fun vs H Q E h => ?_) (fun cdv A outer s H vs Q E hr h => ?_)
  · obtain ⟨a, ns, z, rfl, _⟩ := h
    rfl
  obtain ⟨a, ns, z, rfl, hS, h63, h0, hq⟩ := h
  refine ⟨_, (pss_cons (ps_if (pt_cmpR op_lt (pv 1) (pe_callB call_len rfl T.z_len (by decide +kernel) (pa_cons (pv 0) pa_nil)) (nomark _))
(pss_one (ps_ret (pe_ix ix_list (pv 0) (pv 1) (fun _ _ => rfl))))
pss_nil)
(pss_one (ps_ret pe_int))), ?_⟩
  refine ⟨_, rfl, _, rfl, .ref a, _, rfl, .inl ⟨_, hS, rfl⟩, _, _, rfl, rfl, _, rfl, ?_⟩
  have hl : (ns.map V.int).length = ns.length := List.length_map _
  refine ite2 (fun c => ?_) (fun c => ?_)
  · have c' : z < (((ns.map V.int).length : Nat) : Int) := of_decide_eq_true c
    rw [hl] at c'
    have hz : z.toNat < ns.length := by omega
    refine ⟨_, rfl, _, rfl, a, _, z, .int ns[z.toNat], rfl, rfl, hS, ?_, hq _⟩
    exact at_of (j := z.toNat) (by omega) (by simp [hz])
  · exact hq 0
theorem ok_mixed (T : Tx K mg) : FnOk P w K mg base CX0 (k + 1) T.a_l_mixed T.d_l_mixed ["_law_cell", "_law_k"] spMixed := by
  refine T.F_l_mixed.ok sc_l_mixed (fun vs H Q E h => ?_) (fun cdv A outer s H vs Q E hr h => ?_)
  · obtain ⟨c, z, rfl, _⟩ := h
    rfl
  obtain ⟨c, z, rfl, c0, c1, z0, z1, hq⟩ := h
  refine ⟨_, (pss_cons (ps_set (i := 2) sc_l_mixed.nd rfl (Or.inl rfl) (pe_op op_mod (pe_callTy call_int1 rfl T.z_int (by decide +kernel) (pa_cons (pe_op op_add (pe_op op_add (pe_op op_add (pe_op op_mul (pv 0) pe_int) (pe_op op_mul (pe_op op_mul pe_int (pv 1)) (pv 1))) (pv 1)) pe_int) pa_nil)) pe_int))
(pss_cons (ps_set (i := 2) sc_l_mixed.nd rfl (Or.inl rfl) (pe_op op_mod (pe_callTy call_int1 rfl T.z_int (by decide +kernel) (pa_cons (pe_op op_add (pe_op op_mul (pv 2) (pv 2)) pe_int) pa_nil)) pe_int))
(pss_one (ps_ret (pe_op op_mod (pe_callTy call_int1 rfl T.z_int (by decide +kernel) (pa_cons (pe_op op_mul (pv 2) pe_int) pa_nil)) pe_int))))), ?_⟩
  refine ⟨_, rfl, _, _, rfl, rfl, .inl ⟨by omega, by omega⟩, _, rfl, _, _, rfl, rfl, .inr ⟨by omega, by omega⟩, _, rfl, _, _, rfl, rfl, .inr ⟨by omega, by omega⟩,
    _, _, rfl, rfl, _, rfl, _, _, rfl, rfl, _, _, rfl, rfl, .inl ⟨_, rfl, _, _, rfl, rfl, (show (0 : Int) < 2147483647 by decide), ?_⟩⟩
  refine ⟨_, rfl, _, rfl, _, _, rfl, rfl, .inl ⟨by omega, by omega⟩, _, _, rfl, rfl, .inl ⟨_, rfl, _, _, rfl, rfl, (show (0 : Int) < 2147483629 by decide), ?_⟩⟩
  exact ⟨_, rfl, _, _, rfl, rfl, .inl ⟨by omega, by omega⟩, .inl ⟨_, rfl, _, _, rfl, rfl, (show (0 : Int) < 2147483587 by decide), hq _⟩⟩
theorem ok_purse (T : Tx K mg) (G_l_at : FnOk P w K mg base CX0 k T.a_l_at T.d_l_at ["_law_script", "_law_k"] (spAt K)) : FnOk P w K mg base CX0 (k + 1) T.a_l_purse T.d_l_purse P_l_purse (spPurse K) := by
  refine T.F_l_purse.ok sc_l_purse (fun vs H Q E h => ?_) (fun cdv A outer s H vs Q E hr h => ?_)
  · obtain ⟨a, ns, z, rfl, _⟩ := h
    rfl
  obtain ⟨a, ns, z, rfl, hS, h63, z0, z1, hq⟩ := h
  refine ⟨_, (pss_cons (ps_set (i := 2) sc_l_purse.nd rfl (Or.inl rfl) (pe_call G_l_at hr rfl T.m_l_at T.F_l_at.kp T.b_l_at .nil pass0 (pa_cons (pv 0) (pa_cons (pv 1) pa_nil))))
(pss_one (ps_ret (pe_lst (pa_cons (pe_op op_mod (pe_callTy call_int1 rfl T.z_int (by decide +kernel) (pa_cons (pe_callB (call_max2 rfl) rfl T.z_max (by decide +kernel) (pa_cons (pe_op op_sub (pv 2) (pe_op op_pow pe_int pe_int)) (pa_cons pe_int pa_nil))) pa_nil)) (pe_op op_powW (pe_op op_pow pe_int pe_int) pe_int)) (pa_cons (pe_op op_mod (pe_callTy call_int1 rfl T.z_int (by decide +kernel) (pa_cons (pv 2) pa_nil)) pe_int) (pa_cons (pe_op op_mul pe_int (pv 1)) pa_nil))))))), ?_⟩
  refine ⟨_, rfl, _, rfl, a, ns, z, rfl, hS, h63, z0, fun cell => ?_⟩
  refine ⟨_, rfl, _, _, rfl, rfl, ⟨by decide, by decide, by decide⟩, _, _, rfl, rfl, _, _, rfl, .inl ⟨_, rfl, _, _, rfl, rfl, ⟨by decide, by decide, by decide⟩, _, _, rfl, rfl, ⟨by decide, by decide +kernel⟩, ?_⟩⟩
  refine ⟨_, _, rfl, rfl, (show (0 : Int) < (10 ^ Int.toNat 60) ^ Int.toNat 10 by decide +kernel), ?_⟩
  refine ⟨_, rfl, .inl ⟨_, rfl, _, _, rfl, rfl, (show (0 : Int) < 2147483647 by decide), _, rfl, _, _, rfl, rfl, .inl ⟨by decide, by decide⟩, (by show 3 ≤ sizeLine; decide), fun p hp => ?_⟩⟩
  exact hq p _ hp ⟨_, _, _, upd_same, by omega, by omega, by omega, by omega⟩
theorem ok_draw (T : Tx K mg) (G_l_mixed : FnOk P w K mg base CX0 k T.a_l_mixed T.d_l_mixed ["_law_cell", "_law_k"] spMixed) : FnOk P w K mg base CX0 (k + 1) T.a_l_draw T.d_l_draw P_l_draw spDraw := by
  refine T.F_l_draw.ok sc_l_draw (fun vs H Q E h => ?_) (fun cdv A outer s H vs Q E hr h => ?_)
  · obtain ⟨p, m, n, rfl, _⟩ := h
    rfl
  obtain ⟨p, m, n, rfl, ⟨a, b, c, hp, b0, b1, c0, c1⟩, m0, m1, hq⟩ := h
  refine ⟨_, (pss_cons (ps_if (pt_cmpR op_gt (pe_ix ix_list (pv 0) pe_int (fun _ _ => rfl)) pe_int (nomark _))
(pss_cons (ps_set (i := 2) sc_l_draw.nd rfl (Or.inl rfl) (pe_op op_mod (pe_callTy call_int1 rfl T.z_int (by decide +kernel) (pa_cons (pe_ix ix_list (pv 0) pe_int (fun _ _ => rfl)) pa_nil)) (pv 1)))
(pss_cons (ps_asg (pe_op op_fdiv (pe_ix ix_list (pv 0) pe_int (fun _ _ => rfl)) (pv 1)) (pg_sub (pv 0) pe_int set_list))
(pss_one (ps_ret (pv 2)))))
pss_nil)
(pss_cons (ps_asg (pe_op op_add (pe_ix ix_list (pv 0) pe_int (fun _ _ => rfl)) pe_int) (pg_sub (pv 0) pe_int set_list))
(pss_one (ps_ret (pe_op op_mod (pe_callTy call_int1 rfl T.z_int (by decide +kernel) (pa_cons (pe_call G_l_mixed hr rfl T.m_l_mixed T.F_l_mixed.kp T.b_l_mixed .nil pass0 (pa_cons (pe_ix ix_list (pv 0) pe_int (fun _ _ => rfl)) (pa_cons (pe_ix ix_list (pv 0) pe_int (fun _ _ => rfl)) pa_nil))) pa_nil)) (pv 1)))))), ?_⟩
  refine ⟨_, rfl, p, _, _, .int a, rfl, rfl, .of hp, rfl, _, _, rfl, rfl, _, rfl, ?_⟩
  refine ite2 (fun t => ?_) (fun t => ?_)
  · refine ⟨_, rfl, p, _, _, .int a, rfl, rfl, .of hp, rfl, .inl ⟨_, rfl, _, rfl, _, _, rfl, rfl, m0, ?_⟩⟩
    refine ⟨_, rfl, p, _, _, .int a, rfl, rfl, .of hp, rfl, _, rfl, _, _, rfl, rfl, ⟨m0, m1⟩, _, rfl, p, _, _, 0, rfl, rfl, hp, rfl, ?_⟩
    refine ⟨_, rfl, ?_⟩
    exact hq _ _ hide_upd ⟨_, _, _, upd_same, b0, b1, c0, by omega⟩ (Int.emod_nonneg _ (by omega)) (Int.emod_lt_of_pos _ m0)
  · refine ⟨_, rfl, p, _, _, .int c, rfl, rfl, .of hp, rfl, _, _, rfl, rfl, _, rfl, p, _, _, 2, rfl, rfl, hp, rfl, ?_⟩
    refine ⟨_, rfl, p, _, _, .int b, rfl, rfl, .of upd_same, rfl, _, rfl, p, _, _, .int (c + 1), rfl, rfl, .of upd_same, rfl, ?_⟩
    refine ⟨b, c + 1, rfl, b0, b1, by omega, by omega, fun i => .inl ⟨_, rfl, _, rfl, _, _, rfl, rfl, m0, ?_⟩⟩
    exact hq _ _ hide_upd ⟨_, _, _, upd_same, b0, b1, by omega, by omega⟩ (Int.emod_nonneg _ (by omega)) (Int.emod_lt_of_pos _ m0)
end
end K10

namespace K10
open PySem PySem.Spec PyProof.Rows L2 Vk
/-! ### what the program answers of data -/
def signOk (c : Nat) : Bool := !decide (c < 32) && !decide (126 < c)
def wholeD : PyData → Bool
  | .int i => decide (0 ≤ i)
  | _ => false
def plainD : PyData → Bool
  | .str z => z.cps.toList.all signOk
  | _ => false
def lineD : PyData → Bool
  | .tuple [a, b] => wholeD a && plainD b
  | _ => false
theorem sp_cps : (" " : Str).cps.toList = [32] := by decide +kernel
theorem td_cps : ("~" : Str).cps.toList = [126] := by decide +kernel
theorem one_lt {a b : Nat} : decide (([a] : List Nat) < [b]) = decide (a < b) := by
  have e : (([a] : List Nat) < [b]) ↔ a < b := by
    rw [List.cons_lt_cons_iff]
    simp
  by_cases h : a < b
  · rw [decide_eq_true h, decide_eq_true (e.mpr h)]
  · rw [decide_eq_false h, decide_eq_false (fun q => h (e.mp q))]
theorem yesT {σ : L2.St} {H : Hp} {Q : Bool → Hp → Prop} (h : Q true H) : tYes σ H Q := h
theorem weight_mem {d : PyData} : ∀ {ds : List PyData}, d ∈ ds → d.weight ≤ PyData.weightAll ds
  | [], h => by cases h
  | e :: r, h => by
    show d.weight ≤ e.weight + 1 + PyData.weightAll r
    rcases List.mem_cons.mp h with rfl | h
    · omega
    · have := weight_mem h
      omega
def spWhole (K : PySem.W.Frag) : Sp := fun vs H Q _ => ∃ (v : V) (d : PyData), vs = [v] ∧ Dp K H v d ∧ Q (.bl (wholeD d)) H
def spPlain (K : PySem.W.Frag) : Sp := fun vs H Q _ => ∃ (v : V) (d : PyData), vs = [v] ∧ Dp K H v d ∧ d.weight ≤ 1000000 ∧ ∀ H', Same H H' → Q (.bl (plainD d)) H'
def spLine (K : PySem.W.Frag) : Sp := fun vs H Q _ => ∃ (v : V) (d : PyData), vs = [v] ∧ Dp K H v d ∧ d.weight ≤ 1000000 ∧ ∀ H', Same H H' → Q (.bl (lineD d)) H'
section
variable {P : Program} {w : World} {K : PySem.W.Frag} {mg : Str → Option Value} {base : Heap} {k : Nat}
theorem ok_whole (T : Tx K mg) : FnOk P w K mg base CX0 (k + 1) T.a_is_whole T.d_is_whole P_is_whole (spWhole K) := by
  refine T.F_is_whole.ok sc_is_whole (fun vs H Q E h => ?_) (fun cdv A outer s H vs Q E hr h => ?_)
  · obtain ⟨v, d, rfl, _⟩ := h
    rfl
  obtain ⟨v, d, rfl, hd, hq⟩ := h
  refine ⟨_, (pss_one (ps_ret (pe_and (pe_callB call_isi rfl T.z_isinstance (by decide +kernel) (pa_cons (pv 0) (pa_cons (pe_bltn (v := .ty "int") rfl T.z_int (by decide +kernel) rfl) pa_nil))) (pe_and (pe_not (pe_callB call_isi rfl T.z_isinstance (by decide +kernel) (pa_cons (pv 0) (pa_cons (pe_bltn (v := .ty "bool") rfl T.z_bool (by decide +kernel) rfl) pa_nil)))) (pe_one (pe_cmpR op_ge (pv 0) pe_int (nomark _))))))), ?_⟩
  refine ⟨_, rfl, _, _, _, _, _, rfl, .ty "int", dp_ty hd, kit_int d, _, rfl, ?_⟩
  cases hd with
  | bl b => exact iteT ⟨_, rfl, _, _, _, _, _, rfl, .ty "bool", dp_ty (.bl b), kit_bool (.bool b), _, rfl, _, rfl, iteF hq⟩
  | int i => exact iteT ⟨_, rfl, _, _, _, _, _, rfl, .ty "bool", dp_ty (.int i), kit_bool (.int i), _, rfl, _, rfl, iteT ⟨_, rfl, _, _, rfl, rfl, hq⟩⟩
  | non => exact iteF hq
  | str x => exact iteF hq
  | lst a b => exact iteF hq
  | tup a b => exact iteF hq
theorem ok_plain (T : Tx K mg) : FnOk P w K mg base CX0 (k + 1) T.a_is_plain T.d_is_plain P_is_plain (spPlain K) := by
  refine T.F_is_plain.ok sc_is_plain (fun vs H Q E h => ?_) (fun cdv A outer s H vs Q E hr h => ?_)
  · obtain ⟨v, d, rfl, _⟩ := h
    rfl
  obtain ⟨v, d, rfl, hd, hw, hq⟩ := h
  refine ⟨_, (pss_one (ps_ret (pe_and (pe_callB call_isi rfl T.z_isinstance (by decide +kernel) (pa_cons (pv 0) (pa_cons (pe_bltn (v := .ty "str") rfl T.z_str (by decide +kernel) rfl) pa_nil))) (pe_one (pe_callB (cr_all rfl) rfl T.z_all (by decide +kernel) (pa_cons (pe_lc (own := [("sign", 1)]) (g := gName 1) (tt := tYes) rfl sc_is_plain.nd (pi_str (pv 0)) (blkOk_by (own := [("sign", 1)]) (N := N_is_plain) (sc := defScope s_is_plain) (by decide +kernel)) (fun _ _ _ _ _ => (pg_name (i := 1) sc_is_plain.nd rfl (Or.inl rfl))) (fun _ _ _ _ _ => pts_nil) (fun _ _ _ _ _ => (pe_chain op_le_str op_le_str pe_str (pv 1) pe_str))) pa_nil)))))), ?_⟩
  refine ⟨_, rfl, _, _, _, _, _, rfl, .ty "str", dp_ty hd, kit_str d, _, rfl, ?_⟩
  cases hd with
  | str z =>
    refine iteT ⟨_, rfl, z, rfl, fun D hD => ?_⟩
    refine lc_it walk_str (fun i H' => H' = upd H D (.lst ((z.cps.toList.take i).map fun c => .bl (signOk c)))) ?_ (fun _ _ _ _ => trivial) ?_ ?_
    · rfl
    · rintro i x _ _ hi rfl ⟨rfl, c, hc, rfl⟩
      have hc' : z.cps.toList[i]? = some c := by simpa using hc
      refine ⟨rfl, yesT ?_⟩
      refine iteT ?_
      refine ⟨_, rfl, _, _, rfl, rfl, _, rfl, ?_⟩
      have hz : z.cps.size ≤ 1000000 := hw
      have go : ∀ b : Bool, b = signOk c → ∃ acc, upd H D (.lst ((z.cps.toList.take i).map fun c => V.bl (signOk c))) D = some (.lst acc) ∧ acc.length < sizeLine ∧
          upd (upd H D (.lst ((z.cps.toList.take i).map fun c => V.bl (signOk c)))) D (.lst (acc ++ [.bl b])) = upd H D (.lst ((z.cps.toList.take (i + 1)).map fun c => V.bl (signOk c))) := by
        rintro _ rfl
        refine ⟨_, upd_same, ?_, ?_⟩
        · refine Nat.lt_of_le_of_lt (m := 1000000) ?_ (by decide)
          rw [List.length_map, List.length_take]
          omega
        · rw [upd_upd, List.take_add_one, hc', List.map_append]
          rfl
      rw [sp_cps]
      show if (!decide ([c] < [32])) = true then _ else _
      rw [one_lt]
      refine ite2 (fun h1 => ?_) (fun h1 => ?_)
      · refine ⟨_, _, rfl, rfl, ?_⟩
        rw [td_cps]
        show ∃ acc, _
        refine go _ ?_
        show (!decide ([126] < [c])) = signOk c
        rw [one_lt]
        unfold signOk
        rw [h1]
        rfl
      · refine go _ ?_
        unfold signOk
        rw [Bool.eq_false_iff.mpr h1]
        rfl
    · rintro _ rfl
      have e : z.cps.toList.take z.cps.size = z.cps.toList := List.take_of_length_le (by simp)
      refine ⟨D, z.cps.toList.map signOk, rfl, .of (by rw [upd_same, e, List.map_map]; rfl), ?_⟩
      have e2 : ((z.cps.toList.map signOk).all id) = plainD (.str z) := by
        rw [List.all_map]
        rfl
      rw [e2]
      exact hq _ (same_new hD)
  | non => exact iteF (hq _ (.refl _))
  | bl b => exact iteF (hq _ (.refl _))
  | int i => exact iteF (hq _ (.refl _))
  | lst a b => exact iteF (hq _ (.refl _))
  | tup a b => exact iteF (hq _ (.refl _))
end
end K10

namespace K10
open PySem PySem.Spec PyProof.Rows L2 Vk
/-! ### check_layout -/
def firstBad : Nat → List PyData → Option Nat
  | _, [] => none
  | k, r :: rs => if lineD r = true then firstBad (k + 1) rs else some k
def indentOf : PyData → Int
  | .tuple (.int i :: _) => i
  | _ => 0
def checkRows (ds : List PyData) : PyData := match firstBad 0 ds with
  | some k => .tuple [.str "line", .int (k : Nat)]
  | none => if indentOf (ds.headD .none) = 0 then .none else .tuple [.str "first"]
def checkD : PyData → PyData
  | .tuple [] => .tuple [.str "form"]
  | .tuple (r :: rs) => checkRows (r :: rs)
  | _ => .tuple [.str "form"]
theorem firstBad_at : ∀ (pre post : List PyData) (r : PyData) (k : Nat), (∀ d ∈ pre, lineD d = true) → lineD r = false →
    firstBad k (pre ++ r :: post) = some (k + pre.length)
  | [], post, r, k, _, h => by
    show (if lineD r = true then _ else some k) = _
    rw [h]
    rfl
  | d :: pre, post, r, k, hp, h => by
    show (if lineD d = true then firstBad (k + 1) (pre ++ r :: post) else some k) = _
    rw [if_pos (hp d (List.mem_cons_self ..)), firstBad_at pre post r (k + 1) (fun e he => hp e (List.mem_cons_of_mem _ he)) h]
    exact congrArg some (by simp only [List.length_cons]; omega)
theorem firstBad_no : ∀ (ds : List PyData) (k : Nat), (∀ d ∈ ds, lineD d = true) → firstBad k ds = none
  | [], _, _ => rfl
  | d :: ds, k, h => by
    show (if lineD d = true then firstBad (k + 1) ds else some k) = _
    rw [if_pos (h d (List.mem_cons_self ..))]
    exact firstBad_no ds (k + 1) fun e he => h e (List.mem_cons_of_mem _ he)
theorem firstBad_ix {ds : List PyData} {i : Nat} {r : PyData} (hr : ds[i]? = some r) (hp : ∀ d ∈ ds.take i, lineD d = true) (h : lineD r = false) :
    firstBad 0 ds = some i := by
  obtain ⟨hi, rfl⟩ := List.getElem?_eq_some_iff.mp hr
  have e : ds = ds.take i ++ ds[i] :: ds.drop (i + 1) := by
    rw [← List.drop_eq_getElem_cons hi, List.take_append_drop]
  have q := firstBad_at (ds.take i) (ds.drop (i + 1)) ds[i] 0 hp h
  rw [← e, List.length_take] at q
  rw [q]
  exact congrArg some (by omega)
theorem lineD_two {ds : List PyData} (h : ds.length ≠ 2) : lineD (.tuple ds) = false := by
  match ds, h with
  | [], _ => rfl
  | [_], _ => rfl
  | _ :: _ :: _ :: _, _ => rfl
  | [_, _], h => exact absurd rfl h
theorem lineD_shape {d : PyData} (h : lineD d = true) : ∃ (i : Int) (z : Str), d = .tuple [.int i, .str z] ∧ 0 ≤ i ∧ z.cps.toList.all signOk = true := by
  match d, h with
  | .tuple [a, b], h =>
    have h' : (wholeD a && plainD b) = true := h
    rw [Bool.and_eq_true] at h'
    cases a with
    | int i =>
      cases b with
      | str z => exact ⟨i, z, rfl, of_decide_eq_true h'.1, h'.2⟩
      | _ => exact absurd h'.2 Bool.false_ne_true
    | _ => exact absurd h'.1 Bool.false_ne_true
theorem two_of {α : Type} : ∀ {l : List α}, l.length = 2 → ∃ a b, l = [a, b]
  | [a, b], _ => ⟨a, b, rfl⟩
  | [], h => by simp at h
  | [_], h => by simp at h
  | _ :: _ :: _ :: _, h => by simp at h
theorem two_all {K : PySem.W.Frag} {H : Hp} {vs : List V} {d0 d1 : PyData} (h : DpAll K H vs [d0, d1]) :
    ∃ v0 v1, vs = [v0, v1] ∧ Dp K H v0 d0 ∧ Dp K H v1 d1 := by
  cases h with
  | cons h0 t =>
    cases t with
    | cons h1 n =>
      cases n
      exact ⟨_, _, rfl, h0, h1⟩
theorem cons_all {K : PySem.W.Frag} {H : Hp} {vs : List V} {d0 : PyData} {ds : List PyData} (h : DpAll K H vs (d0 :: ds)) :
    ∃ v0 ws, vs = v0 :: ws ∧ Dp K H v0 d0 ∧ DpAll K H ws ds := by
  cases h with
  | cons h0 t => exact ⟨_, _, rfl, h0, t⟩
theorem eqv_int (a b : Int) : PyData.eqv (.int a) (.int b) = (a == b) := by
  unfold PyData.eqv
  rfl
theorem neI {a b : Int} : (!(a == b)) = decide (a ≠ b) := by
  by_cases h : a = b
  · subst h
    simp
  · simp [h]
def spCheck (K : PySem.W.Frag) : Sp := fun vs H Q _ => ∃ (v : V) (d : PyData), vs = [v] ∧ Dp K H v d ∧ d.weight ≤ 1000000 ∧
  ∀ (u : V) (H' : Hp), Same H H' → Dp K H' u (checkD d) → Q u H'
theorem one_tup {K : PySem.W.Frag} {H : Hp} {p : Addr} {v : V} {d : PyData} (h : Dp K (upd H p (.tup [v])) v d) : Dp K (upd H p (.tup [v])) (.ref p) (.tuple [d]) :=
  .tup (.of upd_same) (.cons h .nil)
end K10

namespace K10
open PySem PySem.Spec PyProof.Rows L2 Vk
section
variable {P : Program} {w : World} {K : PySem.W.Frag} {mg : Str → Option Value} {base : Heap} {k : Nat}
theorem ok_line (T : Tx K mg) (G_is_whole : FnOk P w K mg base CX0 k T.a_is_whole T.d_is_whole P_is_whole (spWhole K)) (G_is_plain : FnOk P w K mg base CX0 k T.a_is_plain T.d_is_plain P_is_plain (spPlain K)) :
    FnOk P w K mg base CX0 (k + 1) T.a_is_line T.d_is_line P_is_line (spLine K) := by
  refine T.F_is_line.ok sc_is_line (fun vs H Q E h => ?_) (fun cdv A outer s H vs Q E hr h => ?_)
  · obtain ⟨v, d, rfl, _⟩ := h
    rfl
  obtain ⟨v, d, rfl, hd, hw, hq⟩ := h
  refine ⟨_, (pss_cons (ps_if (PW.pt (pw_or (pt_not (pt_val (pe_callB call_isi rfl T.z_isinstance (by decide +kernel) (pa_cons (pv 0) (pa_cons (pe_bltn (v := .ty "tuple") rfl T.z_tuple (by decide +kernel) rfl) pa_nil))))) (pw_or1 (pt_cmpR (op_neD hr.units) (pe_callB call_len rfl T.z_len (by decide +kernel) (pa_cons (pv 0) pa_nil)) pe_int (nomark _)))))
(pss_one (ps_ret pe_bl))
pss_nil)
(pss_one (ps_ret (pe_and (pe_call G_is_whole hr rfl T.m_is_whole T.F_is_whole.kp T.b_is_whole .nil pass0 (pa_cons (pe_ix ix_tup (pv 0) pe_int (fun _ _ => rfl)) pa_nil)) (pe_one (pe_call G_is_plain hr rfl T.m_is_plain T.F_is_plain.kp T.b_is_plain .nil pass0 (pa_cons (pe_ix ix_tup (pv 0) pe_int (fun _ _ => rfl)) pa_nil))))))), ?_⟩
  refine ⟨_, rfl, _, _, _, _, _, rfl, .ty "tuple", dp_ty hd, kit_tup d, _, rfl, ?_⟩
  cases hd with
  | tup hs ha =>
    rename_i a xs ds
    refine iteF ⟨_, rfl, _, _, rfl, .inr ⟨_, hs, rfl⟩, _, _, .int _, .int _, rfl, rfl, _, rfl, ?_⟩
    rw [eqv_int, neI]
    refine ite2 (fun c => ?_) (fun c => ?_)
    · have c' : ((xs.length : Nat) : Int) ≠ 2 := of_decide_eq_true c
      have e : lineD (.tuple ds) = false := lineD_two (by rw [← DpAll.length ha]; omega)
      rw [e] at hq
      exact hq _ (.refl _)
    · have c' : ¬ ((xs.length : Nat) : Int) ≠ 2 := of_decide_eq_false (Bool.eq_false_iff.mpr c)
      have l2 := DpAll.length ha
      obtain ⟨d0, d1, rfl⟩ := two_of (l := ds) (by omega)
      obtain ⟨v0, v1, rfl, h0, h1⟩ := two_all ha
      refine ⟨_, rfl, a, _, _, v0, rfl, rfl, hs, rfl, _, _, rfl, h0, _, rfl, ?_⟩
      have w1 : d1.weight ≤ 1000000 := Nat.le_trans (weight_mem (ds := [d0, d1]) (by simp)) hw
      have e : lineD (.tuple [d0, d1]) = (wholeD d0 && plainD d1) := rfl
      rw [e] at hq
      refine ite2 (fun c => ?_) (fun c => ?_)
      · rw [c] at hq
        exact ⟨_, rfl, a, _, _, v1, rfl, rfl, hs, rfl, _, _, rfl, h1, w1, fun H' s' => hq H' s'⟩
      · rw [Bool.eq_false_iff.mpr c] at hq
        exact hq _ (.refl _)
  | non => exact iteT (hq _ (.refl _))
  | bl b => exact iteT (hq _ (.refl _))
  | int i => exact iteT (hq _ (.refl _))
  | str x => exact iteT (hq _ (.refl _))
  | lst a b => exact iteT (hq _ (.refl _))
end
end K10

namespace K10
open PySem PySem.Spec PyProof.Rows L2 Vk
section
variable {P : Program} {w : World} {K : PySem.W.Frag} {mg : Str → Option Value} {base : Heap} {k : Nat}
theorem ok_check (T : Tx K mg) (G_is_line : FnOk P w K mg base CX0 k T.a_is_line T.d_is_line P_is_line (spLine K)) :
    FnOk P w K mg base CX0 (k + 1) T.a_check_layout T.d_check_layout P_check_layout (spCheck K) := by
  refine T.F_check_layout.ok sc_check_layout (fun vs H Q E h => ?_) (fun cdv A outer s H vs Q E hr h => ?_)
  · obtain ⟨v, d, rfl, _⟩ := h
    rfl
  obtain ⟨v, d, rfl, hd, hw, hq⟩ := h
  refine ⟨_, (pss_cons (ps_if (PW.pt (pw_or (pt_not (pt_val (pe_callB call_isi rfl T.z_isinstance (by decide +kernel) (pa_cons (pv 0) (pa_cons (pe_bltn (v := .ty "tuple") rfl T.z_tuple (by decide +kernel) rfl) pa_nil))))) (pw_or1 (pt_cmpR (op_eqD hr.units) (pe_callB call_len rfl T.z_len (by decide +kernel) (pa_cons (pv 0) pa_nil)) pe_int (nomark _)))))
(pss_one (ps_ret (pe_tup (pa_cons pe_str pa_nil))))
pss_nil)
(pss_cons (ps_for PassesOwn.never rfl (pi_enT rfl T.z_enumerate (pa_cons (pv 0) pa_nil)) (pg_tup rfl (pgs_cons (pg_name (i := 1) sc_check_layout.nd rfl (Or.inl rfl)) (pgs_cons (pg_name (i := 2) sc_check_layout.nd rfl (Or.inl rfl)) pgs_nil)))
(pss_one (ps_if (pt_not (pt_val (pe_call G_is_line hr rfl T.m_is_line T.F_is_line.kp T.b_is_line .nil pass0 (pa_cons (pv 2) pa_nil))))
(pss_one (ps_ret (pe_tup (pa_cons pe_str (pa_cons (pv 1) pa_nil)))))
pss_nil)))
(pss_cons (ps_if (pt_cmpR (op_neD hr.units) (pe_ix ix_tup (pe_ix ix_tup (pv 0) pe_int (fun _ _ => rfl)) pe_int (fun _ _ => rfl)) pe_int (nomark _))
(pss_one (ps_ret (pe_tup (pa_cons pe_str pa_nil))))
pss_nil)
(pss_one (ps_ret pe_non))))), ?_⟩
  refine ⟨_, rfl, _, _, _, _, _, rfl, .ty "tuple", dp_ty hd, kit_tup d, _, rfl, ?_⟩
  have bad : checkD d = .tuple [.str "form"] → ∀ p, H p = none → Q (.ref p) (upd H p (.tup [.str "form"])) := fun e p hp => by
    refine hq _ _ (same_new hp) ?_
    rw [e]
    exact one_tup (.str _)
  cases hd with
  | tup hs ha =>
    rename_i a xs ds
    have l2 := DpAll.length ha
    refine iteF ⟨_, rfl, _, _, rfl, .inr ⟨_, hs, rfl⟩, _, _, .int _, .int _, rfl, rfl, _, rfl, ?_⟩
    rw [eqv_int]
    refine ite2 (fun c => ?_) (fun c => ?_)
    · have c' : ((xs.length : Nat) : Int) = 0 := by simpa using c
      obtain rfl : ds = [] := List.length_eq_zero_iff.mp (by omega)
      exact ⟨(by show 1 ≤ sizeLine; decide), fun p hp => bad rfl p hp⟩
    · have c' : ¬ ((xs.length : Nat) : Int) = 0 := by simpa using c
      have hne : ds ≠ [] := fun e => c' (by rw [e] at l2; rw [l2]; rfl)
      have hc : checkD (.tuple ds) = checkRows ds := by
        obtain ⟨_, _, rfl⟩ := List.exists_cons_of_ne_nil hne
        rfl
      rw [hc] at hq
      refine ⟨_, rfl, a, xs, rfl, hs, for_it walk_enT (fun i σ H' => Same H H' ∧ (∃ v1 v2, σ = [some (.ref a), v1, v2]) ∧ ∀ e ∈ ds.take i, lineD e = true) ⟨.refl _, ⟨none, none, rfl⟩, by simp⟩
        (fun i σ H' _ q => Same.seqT q.1 hs) ?_ ?_⟩
      · rintro i x σ H1 H2 hi ⟨s1, ⟨v1, v2, rfl⟩, hl⟩ ⟨T1, x1, x2, rfl, hT, rfl, e1, e2⟩
        obtain rfl := Option.some.inj e1
        have hi2 : i < ds.length := by omega
        have hd2 : ds[i]? = some ds[i] := List.getElem?_eq_getElem hi2
        obtain ⟨y, hy, dy⟩ := DpAll.get ha hd2
        obtain rfl := Option.some.inj (hy.symm.trans e2)
        have s2 : Same H (upd H1 T1 (.tup [.int (i : Nat), y])) := s1.trans (same_new hT)
        refine ⟨T1, _, rfl, .of upd_same, rfl, _, _, rfl, _, _, rfl, rfl, ?_⟩
        refine ⟨_, rfl, _, ds[i], rfl, Dp.same s2 dy, Nat.le_trans (weight_mem (List.getElem_mem hi2)) hw, fun H3 s3 => ?_⟩
        refine ⟨_, rfl, ite2 (fun c => ?_) (fun c => ?_)⟩
        · have cb : lineD ds[i] = false := by simpa using c
          refine ⟨_, rfl, (by show 2 ≤ sizeLine; decide), fun p hp => ?_⟩
          refine hq _ _ ((s2.trans s3).trans (same_new hp)) ?_
          have e : checkRows ds = .tuple [.str "line", .int (i : Nat)] := by
            unfold checkRows
            rw [firstBad_ix hd2 hl cb]
          rw [e]
          exact .tup (.of upd_same) (.cons (.str _) (.cons (.int _) .nil))
        · have cb : lineD ds[i] = true := by simpa using c
          refine ⟨s2.trans s3, ⟨_, _, rfl⟩, fun e he => ?_⟩
          rw [List.take_add_one, hd2] at he
          rcases List.mem_append.mp he with he | he
          · exact hl e he
          · rw [List.mem_singleton.mp he]
            exact cb
      · rintro σ H1 ⟨s1, ⟨v1, v2, rfl⟩, hl⟩
        have hall : ∀ e ∈ ds, lineD e = true := fun e he => hl e (by rw [List.take_of_length_le (by omega)]; exact he)
        have hno : firstBad 0 ds = none := firstBad_no ds 0 hall
        obtain ⟨d0, ds', rfl⟩ := List.exists_cons_of_ne_nil hne
        obtain ⟨v0, xs', rfl, h0, ht⟩ := cons_all ha
        obtain ⟨i, z, rfl, i0, hz⟩ := lineD_shape (hall d0 (List.mem_cons_self ..))
        obtain ⟨b, ys, rfl, hb, hys⟩ := Dp.ofTup h0
        obtain ⟨y0, y1, rfl, g0, g1⟩ := two_all hys
        obtain rfl := Dp.ofInt g0
        refine ⟨_, rfl, a, _, _, _, rfl, rfl, Same.seqT s1 hs, at_of (j := 0) rfl rfl, b, _, _, _, rfl, rfl, Same.seqT s1 hb, rfl, _, _, .int _, .int _, rfl, rfl, _, rfl, ?_⟩
        rw [eqv_int, neI]
        have hcr : checkRows (.tuple [.int i, .str z] :: ds') = if i = 0 then .none else .tuple [.str "first"] := by
          unfold checkRows
          rw [hno]
          rfl
        rw [hcr] at hq
        refine ite2 (fun c => ?_) (fun c => ?_)
        · have c' : i ≠ 0 := of_decide_eq_true c
          rw [if_neg c'] at hq
          exact ⟨(by show 1 ≤ sizeLine; decide), fun p hp => hq _ _ (s1.trans (same_new hp)) (one_tup (.str _))⟩
        · have c' : ¬ i ≠ 0 := of_decide_eq_false (Bool.eq_false_iff.mpr c)
          rw [if_pos (by omega)] at hq
          exact hq _ _ s1 .non
  | non => exact iteT ⟨(by show 1 ≤ sizeLine; decide), fun p hp => bad rfl p hp⟩
  | bl b => exact iteT ⟨(by show 1 ≤ sizeLine; decide), fun p hp => bad rfl p hp⟩
  | int i => exact iteT ⟨(by show 1 ≤ sizeLine; decide), fun p hp => bad rfl p hp⟩
  | str x => exact iteT ⟨(by show 1 ≤ sizeLine; decide), fun p hp => bad rfl p hp⟩
  | lst a b => exact iteT ⟨(by show 1 ≤ sizeLine; decide), fun p hp => bad rfl p hp⟩
end
end K10

namespace K10
open PySem PySem.Spec PyProof.Rows L2 Vk
/-! ### small data -/
def leafOk : PyData → Bool
  | .none | .bool _ => true
  | .int i => decide (i.natAbs < 2 ^ 100)
  | .str z => decide (z.cps.size ≤ 10) && z.cps.all (· < 0x110000)
  | _ => false
def okD : Nat → PyData → Bool
  | n + 1, .tuple ds => decide (ds.length ≤ 9) && ds.all (okD n)
  | n + 1, .list ds => decide (ds.length ≤ 9) && ds.all (okD n)
  | _, d => leafOk d
theorem okD_leaf {d : PyData} (h : leafOk d = true) : ∀ n, okD n d = true
  | 0 => by
    unfold okD
    exact h
  | n + 1 => by
    cases d with
    | tuple ds => cases h
    | list ds => cases h
    | _ => exact h
theorem okD_up : ∀ (n : Nat) (d : PyData), okD n d = true → okD (n + 1) d = true
  | 0, d, h => okD_leaf (show leafOk d = true from h) 1
  | n + 1, .tuple ds, h => by
    have h' : (decide (ds.length ≤ 9) && ds.all (okD n)) = true := h
    show (decide (ds.length ≤ 9) && ds.all (okD (n + 1))) = true
    rw [Bool.and_eq_true, List.all_eq_true] at h' ⊢
    exact ⟨h'.1, fun d hd => okD_up n d (h'.2 d hd)⟩
  | n + 1, .list ds, h => by
    have h' : (decide (ds.length ≤ 9) && ds.all (okD n)) = true := h
    show (decide (ds.length ≤ 9) && ds.all (okD (n + 1))) = true
    rw [Bool.and_eq_true, List.all_eq_true] at h' ⊢
    exact ⟨h'.1, fun d hd => okD_up n d (h'.2 d hd)⟩
  | n + 1, .none, h => h
  | n + 1, .bool _, h => h
  | n + 1, .int _, h => h
  | n + 1, .str _, h => h
  | n + 1, .dict _, h => h
theorem okD_tup {n : Nat} {ds : List PyData} : okD (n + 1) (.tuple ds) = true ↔ ds.length ≤ 9 ∧ ∀ d ∈ ds, okD n d = true := by
  show (decide (ds.length ≤ 9) && ds.all (okD n)) = true ↔ _
  rw [Bool.and_eq_true, List.all_eq_true, decide_eq_true_eq]
theorem okD_lst {n : Nat} {ds : List PyData} : okD (n + 1) (.list ds) = true ↔ ds.length ≤ 9 ∧ ∀ d ∈ ds, okD n d = true := by
  show (decide (ds.length ≤ 9) && ds.all (okD n)) = true ↔ _
  rw [Bool.and_eq_true, List.all_eq_true, decide_eq_true_eq]
def lim : Nat → Nat
  | 0 => 101
  | n + 1 => 9 * (lim n + 1) + 101
theorem leaf_all {d : PyData} (h : leafOk d = true) : d.weight ≤ 101 ∧ d.canLay0 = true ∧ d.depth = 0 := by
  cases d with
  | none => exact ⟨by decide, rfl, rfl⟩
  | bool b => exact ⟨by show 0 ≤ 101; decide, rfl, rfl⟩
  | int i =>
    have h' : i.natAbs < 2 ^ 100 := of_decide_eq_true h
    refine ⟨?_, rfl, rfl⟩
    show (if i == 0 then 0 else i.natAbs.log2 + 1) ≤ 101
    have l := PySem.Flt.log2_lt_of (by decide) h'
    split <;> omega
  | str z =>
    have h' : (decide (z.cps.size ≤ 10) && z.cps.all (· < 0x110000)) = true := h
    rw [Bool.and_eq_true, decide_eq_true_eq] at h'
    exact ⟨by show z.cps.size ≤ 101; omega, h'.2, rfl⟩
  | list _ => cases h
  | tuple _ => cases h
  | dict _ => cases h
theorem rows_all {B D : Nat} : ∀ {ds : List PyData}, (∀ d ∈ ds, d.weight ≤ B ∧ d.canLay0 = true ∧ d.depth ≤ D) →
    PyData.weightAll ds ≤ ds.length * (B + 1) ∧ PyData.canLayAll0 ds = true ∧ PyData.depthAll ds ≤ D
  | [], _ => ⟨Nat.zero_le _, rfl, Nat.zero_le _⟩
  | d :: ds, h => by
    obtain ⟨a1, a2, a3⟩ := h d (List.mem_cons_self ..)
    obtain ⟨b1, b2, b3⟩ := rows_all (ds := ds) fun e he => h e (List.mem_cons_of_mem _ he)
    refine ⟨?_, ?_, ?_⟩
    · show d.weight + 1 + PyData.weightAll ds ≤ (ds.length + 1) * (B + 1)
      rw [Nat.succ_mul]
      omega
    · show (d.canLay0 && PyData.canLayAll0 ds) = true
      rw [a2, b2]
      rfl
    · show max d.depth (PyData.depthAll ds) ≤ D
      omega
theorem okD_of_leaf {n : Nat} {d : PyData} (h : leafOk d = true) : d.weight ≤ lim (n + 1) ∧ d.canLay0 = true ∧ d.depth ≤ n + 1 := by
  obtain ⟨a, b, c⟩ := leaf_all h
  refine ⟨?_, b, by omega⟩
  show _ ≤ 9 * (lim n + 1) + 101
  omega
theorem okD_all : ∀ (n : Nat) (d : PyData), okD n d = true → d.weight ≤ lim n ∧ d.canLay0 = true ∧ d.depth ≤ n
  | 0, d, h => by
    obtain ⟨a, b, c⟩ := leaf_all (show leafOk d = true from h)
    exact ⟨a, b, by omega⟩
  | n + 1, .tuple ds, h => by
    obtain ⟨h1, h2⟩ := okD_tup.mp h
    obtain ⟨b1, b2, b3⟩ := rows_all (B := lim n) (D := n) fun d hd => okD_all n d (h2 d hd)
    refine ⟨?_, b2, ?_⟩
    · show PyData.weightAll ds ≤ 9 * (lim n + 1) + 101
      have := Nat.mul_le_mul_right (lim n + 1) h1
      omega
    · show PyData.depthAll ds + 1 ≤ n + 1
      omega
  | n + 1, .list ds, h => by
    obtain ⟨h1, h2⟩ := okD_lst.mp h
    obtain ⟨b1, b2, b3⟩ := rows_all (B := lim n) (D := n) fun d hd => okD_all n d (h2 d hd)
    refine ⟨?_, b2, ?_⟩
    · show PyData.weightAll ds ≤ 9 * (lim n + 1) + 101
      have := Nat.mul_le_mul_right (lim n + 1) h1
      omega
    · show PyData.depthAll ds + 1 ≤ n + 1
      omega
  | n + 1, .none, h => okD_of_leaf h
  | n + 1, .bool b, h => okD_of_leaf h
  | n + 1, .int i, h => okD_of_leaf h
  | n + 1, .str z, h => okD_of_leaf h
  | n + 1, .dict z, h => okD_of_leaf h
/-- as the law's data are: four deep at most -/
abbrev Fine (d : PyData) : Prop := okD 4 d = true
theorem Fine.weight {d : PyData} (h : Fine d) : d.weight ≤ 1000000 := Nat.le_trans (okD_all 4 d h).1 (by decide)
theorem Fine.shaped {d : PyData} (h : Fine d) : SeqAt.shaped d = true := by
  obtain ⟨_, b, c⟩ := okD_all 4 d h
  show (d.canLay0 && decide (d.depth ≤ 64)) = true
  rw [b, decide_eq_true (by omega)]
  rfl
theorem Fine.sub {ds : List PyData} (h : Fine (.tuple ds)) {d : PyData} (hd : d ∈ ds) : Fine d := okD_up 3 d ((okD_tup.mp h).2 d hd)
theorem Fine.shaped_lay {d : PyData} (h : Fine d) : d.canLay0 = true := (okD_all 4 d h).2.1
end K10

namespace K10
open PySem PySem.Spec PyProof.Rows L2 Vk
/-! ### the law's own look at a line -/
def spLLine (K : PySem.W.Frag) : Sp := fun vs H Q _ => ∃ (v : V) (d : PyData), vs = [v] ∧ Dp K H v d ∧ Fine d ∧ ∀ H', Same H H' → Q (.bl (lineD d)) H'
def odd (z : Str) : List Str := (z.cps.toList.filter fun c => !signOk c).map fun c => ⟨#[c]⟩
theorem odd_nil (z : Str) : PyData.eqv (.list ((odd z).map .str)) (.list []) = z.cps.toList.all signOk := by
  show PyData.eqvAll ((odd z).map .str) [] = _
  unfold odd
  cases h : z.cps.toList.filter fun c => !signOk c with
  | nil =>
    have e := List.filter_eq_nil_iff.mp h
    have a : z.cps.toList.all signOk = true := by
      rw [List.all_eq_true]
      intro c hc
      have := e c hc
      simpa using this
    rw [a]
    rfl
  | cons c r =>
    have hc : c ∈ z.cps.toList.filter fun c => !signOk c := by rw [h]; exact List.mem_cons_self ..
    have q := List.mem_filter.mp hc
    have a : z.cps.toList.all signOk = false := by
      rw [List.all_eq_false]
      exact ⟨c, q.1, by simpa using q.2⟩
    rw [a]
    rfl
theorem strs_dp {K : PySem.W.Frag} {H : Hp} : ∀ zs : List Str, DpAll K H (zs.map V.str) (zs.map PyData.str)
  | [] => .nil
  | z :: zs => .cons (.str z) (strs_dp zs)
theorem odd_shaped {z : Str} (h : (PyData.str z).canLay0 = true) : SeqAt.shaped (.list ((odd z).map .str)) = true := by
  have a : ∀ d ∈ (odd z).map PyData.str, d.weight ≤ 1 ∧ d.canLay0 = true ∧ d.depth ≤ 0 := fun d hd => by
    unfold odd at hd
    rw [List.map_map] at hd
    obtain ⟨c, hc, rfl⟩ := List.mem_map.mp hd
    have h' : z.cps.all (· < 0x110000) = true := h
    rw [← Array.all_toList, List.all_eq_true] at h'
    have hlt := h' c (List.mem_filter.mp hc).1
    refine ⟨Nat.le_refl _, ?_, Nat.le_refl _⟩
    show (#[c] : Array Nat).all (· < 0x110000) = true
    simpa using hlt
  obtain ⟨_, b, c⟩ := rows_all (B := 1) (D := 0) a
  show (PyData.canLayAll0 _ && decide (PyData.depthAll _ + 1 ≤ 64)) = true
  rw [b, decide_eq_true (by omega)]
  rfl
section
variable {P : Program} {w : World} {K : PySem.W.Frag} {mg : Str → Option Value} {base : Heap} {k : Nat}
theorem ok_lline (T : Tx K mg) : FnOk P w K mg base CX0 (k + 1) T.a_l_line T.d_l_line P_l_line (spLLine K) := by
  refine T.F_l_line.ok sc_l_line (fun vs H Q E h => ?_) (fun cdv A outer s H vs Q E hr h => ?_)
  · obtain ⟨v, d, rfl, _⟩ := h
    rfl
  obtain ⟨v, d, rfl, hd, hf, hq⟩ := h
  refine ⟨_, (pss_cons (ps_if (PW.pt (pw_or (pt_not (pt_val (pe_callB call_isi rfl T.z_isinstance (by decide +kernel) (pa_cons (pv 0) (pa_cons (pe_bltn (v := .ty "tuple") rfl T.z_tuple (by decide +kernel) rfl) pa_nil))))) (pw_or1 (pt_cmpR (op_neD hr.units) (pe_callB call_len rfl T.z_len (by decide +kernel) (pa_cons (pv 0) pa_nil)) pe_int (nomark _)))))
(pss_one (ps_ret pe_bl))
pss_nil)
(pss_cons (ps_asg (pv 0) (pg_tup rfl (pgs_cons (pg_name (i := 1) sc_l_line.nd rfl (Or.inl rfl)) (pgs_cons (pg_name (i := 2) sc_l_line.nd rfl (Or.inl rfl)) pgs_nil))))
(pss_cons (ps_if (PW.pt (pw_or (pt_not (pt_val (pe_callB call_isi rfl T.z_isinstance (by decide +kernel) (pa_cons (pv 1) (pa_cons (pe_bltn (v := .ty "int") rfl T.z_int (by decide +kernel) rfl) pa_nil))))) (pw_or (pt_val (pe_callB call_isi rfl T.z_isinstance (by decide +kernel) (pa_cons (pv 1) (pa_cons (pe_bltn (v := .ty "bool") rfl T.z_bool (by decide +kernel) rfl) pa_nil)))) (pw_or (pt_cmpR op_lt (pv 1) pe_int (nomark _)) (pw_or1 (pt_not (pt_val (pe_callB call_isi rfl T.z_isinstance (by decide +kernel) (pa_cons (pv 2) (pa_cons (pe_bltn (v := .ty "str") rfl T.z_str (by decide +kernel) rfl) pa_nil))))))))))
(pss_one (ps_ret pe_bl))
pss_nil)
(pss_one (ps_ret (pe_cmpR (op_eqD hr.units) (pe_lc (own := [("_law_sign", 3)]) (g := gName 3) rfl sc_l_line.nd (pi_str (pv 2)) (blkOk_by (own := [("_law_sign", 3)]) (N := N_l_line) (sc := defScope s_l_line) (by decide +kernel)) (fun _ _ _ _ _ => (pg_name (i := 3) sc_l_line.nd rfl (Or.inl rfl))) (fun _ _ _ _ _ => (pts_one (pt_not (pt_chain op_le_str op_le_str pe_str (pv 3) pe_str)))) (fun _ _ _ _ _ => (pv 3))) (pe_lst pa_nil) (nomark _))))))), ?_⟩
  refine ⟨_, rfl, _, _, _, _, _, rfl, .ty "tuple", dp_ty hd, kit_tup d, _, rfl, ?_⟩
  cases hd with
  | tup hs ha =>
    rename_i a xs ds
    refine iteF ⟨_, rfl, _, _, rfl, .inr ⟨_, hs, rfl⟩, _, _, .int _, .int _, rfl, rfl, _, rfl, ?_⟩
    rw [eqv_int, neI]
    have l2 := DpAll.length ha
    refine ite2 (fun c => ?_) (fun c => ?_)
    · have c' : ((xs.length : Nat) : Int) ≠ 2 := of_decide_eq_true c
      have e : lineD (.tuple ds) = false := lineD_two (by omega)
      rw [e] at hq
      exact hq _ (.refl _)
    · have c' : ¬ ((xs.length : Nat) : Int) ≠ 2 := of_decide_eq_false (Bool.eq_false_iff.mpr c)
      obtain ⟨d0, d1, rfl⟩ := two_of (l := ds) (by omega)
      obtain ⟨v0, v1, rfl, h0, h1⟩ := two_all ha
      have e : lineD (.tuple [d0, d1]) = (wholeD d0 && plainD d1) := rfl
      rw [e] at hq
      refine ⟨_, rfl, a, _, rfl, hs, rfl, _, _, rfl, _, _, rfl, rfl, ?_⟩
      refine ⟨_, rfl, _, _, _, _, _, rfl, .ty "int", dp_ty h0, kit_int d0, _, rfl, ?_⟩
      have no : (wholeD d0 && plainD d1) = false → Q (.bl false) H := fun z => by
        rw [z] at hq
        exact hq _ (.refl _)
      cases h0 with
      | int i =>
        refine iteF ⟨_, rfl, _, _, _, _, _, rfl, .ty "bool", dp_ty (.int i), kit_bool (.int i), _, rfl, ?_⟩
        refine iteF ⟨_, rfl, _, _, rfl, rfl, _, rfl, ?_⟩
        refine ite2 (fun c => ?_) (fun c => ?_)
        · have c' : i < 0 := of_decide_eq_true c
          exact iteT (no (by show (decide (0 ≤ i) && _) = false; rw [decide_eq_false (by omega)]; rfl))
        · have c' : ¬ i < 0 := of_decide_eq_false (Bool.eq_false_iff.mpr c)
          have ew : wholeD (.int i) = true := decide_eq_true (by omega)
          refine ⟨_, rfl, _, _, _, _, _, rfl, .ty "str", dp_ty h1, kit_str d1, _, rfl, ?_⟩
          cases h1 with
          | str z =>
            refine iteF ⟨_, rfl, z, rfl, fun D hD => ?_⟩
            have hfz : Fine (.str z) := hf.sub (by simp)
            have hz : z.cps.size ≤ 10 := by
              have h' : (decide (z.cps.size ≤ 10) && z.cps.all (· < 0x110000)) = true := hfz
              rw [Bool.and_eq_true, decide_eq_true_eq] at h'
              exact h'.1
            refine lc_it walk_str (fun i H' => H' = upd H D (.lst (((z.cps.toList.take i).filter fun c => !signOk c).map fun c => .str ⟨#[c]⟩))) ?_ (fun _ _ _ _ => trivial) ?_ ?_
            · rfl
            · rintro j x _ _ hj rfl ⟨rfl, c, hc, rfl⟩
              have hc' : z.cps.toList[j]? = some c := by simpa using hc
              have tk : ((z.cps.toList.take (j + 1)).filter fun c => !signOk c) = ((z.cps.toList.take j).filter fun c => !signOk c) ++ (if (!signOk c) = true then [c] else []) := by
                rw [List.take_add_one, hc', List.filter_append]
                show _ ++ List.filter _ [c] = _
                rw [List.filter_cons, List.filter_nil]
              have fin : ∀ b : Bool, b = signOk c → if (!b) = true then tVar 3 (List.set (wipe (((start N_l_line [V.ref a]).set 1 (some (.int i))).set 2 (some (.str z))) [3]) 3 (some (.str ⟨#[c]⟩))) (upd H D (.lst (((z.cps.toList.take j).filter fun c => !signOk c).map fun c => .str ⟨#[c]⟩))) (fun y H4 => ∃ acc,
                  H4 D = some (.lst acc) ∧ acc.length < sizeLine ∧ upd H4 D (.lst (acc ++ [y])) = upd H D (.lst (((z.cps.toList.take (j + 1)).filter fun c => !signOk c).map fun c => .str ⟨#[c]⟩)))
                  else upd H D (.lst (((z.cps.toList.take j).filter fun c => !signOk c).map fun c => V.str ⟨#[c]⟩)) = upd H D (.lst (((z.cps.toList.take (j + 1)).filter fun c => !signOk c).map fun c => .str ⟨#[c]⟩)) := by
                rintro _ rfl
                rw [tk]
                refine ite2 (fun h => ?_) (fun h => ?_)
                · rw [if_pos h]
                  refine ⟨_, rfl, _, upd_same, ?_, ?_⟩
                  · refine Nat.lt_of_le_of_lt (m := 10) ?_ (by decide)
                    have l1 := List.length_filter_le (fun c => !signOk c) (z.cps.toList.take j)
                    rw [List.length_map]
                    rw [List.length_take] at l1
                    omega
                  · rw [upd_upd, List.map_append]
                    rfl
                · rw [if_neg h, List.append_nil]
              refine ⟨rfl, ?_⟩
              refine ⟨_, rfl, _, _, rfl, rfl, _, rfl, ?_⟩
              rw [sp_cps]
              show if (!decide ([c] < [32])) = true then _ else _
              rw [one_lt]
              refine ite2 (fun h1 => ?_) (fun h1 => ?_)
              · refine ⟨_, _, rfl, rfl, _, rfl, ?_⟩
                rw [td_cps]
                refine fin _ ?_
                show (!decide ([126] < [c])) = signOk c
                rw [one_lt]
                unfold signOk
                rw [h1]
                rfl
              · refine ⟨_, rfl, fin false ?_⟩
                unfold signOk
                rw [Bool.eq_false_iff.mpr h1]
                rfl
            · rintro _ rfl
              have e1 : z.cps.toList.take z.cps.size = z.cps.toList := List.take_of_length_le (by simp)
              rw [e1]
              refine ⟨Nat.zero_le _, fun p hp => ?_⟩
              have hpD : D ≠ p := ne_of_none upd_same hp
              refine ⟨_, _, .lst (ds := (odd z).map .str) (.of (xs := (odd z).map V.str) ?_) (strs_dp _), .lst (.of upd_same) .nil, odd_shaped hfz.shaped_lay, rfl, ?_⟩
              · rw [upd_ne hpD, upd_same]
                unfold odd
                rw [List.map_map]
                rfl
              · rw [odd_nil]
                have ep : plainD (.str z) = z.cps.toList.all signOk := rfl
                rw [ew, ep, Bool.true_and] at hq
                exact hq _ ((same_new hD).trans (same_new hp))
          | non => exact iteT (no (by rw [Bool.and_eq_false_iff]; exact .inr rfl))
          | bl b => exact iteT (no (by rw [Bool.and_eq_false_iff]; exact .inr rfl))
          | int i => exact iteT (no (by rw [Bool.and_eq_false_iff]; exact .inr rfl))
          | lst a b => exact iteT (no (by rw [Bool.and_eq_false_iff]; exact .inr rfl))
          | tup a b => exact iteT (no (by rw [Bool.and_eq_false_iff]; exact .inr rfl))
      | bl b => exact iteF ⟨_, rfl, _, _, _, _, _, rfl, .ty "bool", dp_ty (.bl b), kit_bool (.bool b), _, rfl, iteT (no rfl)⟩
      | non => exact iteT (no rfl)
      | str z => exact iteT (no rfl)
      | lst a b => exact iteT (no rfl)
      | tup a b => exact iteT (no rfl)
  | non => exact iteT (hq _ (.refl _))
  | bl b => exact iteT (hq _ (.refl _))
  | int i => exact iteT (hq _ (.refl _))
  | str x => exact iteT (hq _ (.refl _))
  | lst a b => exact iteT (hq _ (.refl _))
end
end K10

namespace K10
open PySem PySem.Spec PyProof.Rows L2 Vk
/-! ### the law's own answer -/
def spDue (K : PySem.W.Frag) : Sp := fun vs H Q _ => ∃ (v : V) (d : PyData), vs = [v] ∧ Dp K H v d ∧ Fine d ∧
  ∀ (u : V) (H' : Hp), Same H H' → Dp K H' u (checkD d) → Q u H'
theorem eqv_nil (ds : List PyData) : PyData.eqv (.tuple ds) (.tuple []) = decide (ds = []) := by
  cases ds with
  | nil => rfl
  | cons d r => rfl
section
variable {P : Program} {w : World} {K : PySem.W.Frag} {mg : Str → Option Value} {base : Heap} {k : Nat}
theorem ok_due (T : Tx K mg) (G_l_line : FnOk P w K mg base CX0 k T.a_l_line T.d_l_line P_l_line (spLLine K)) :
    FnOk P w K mg base CX0 (k + 1) T.a_l_due T.d_l_due P_l_due (spDue K) := by
  refine T.F_l_due.ok sc_l_due (fun vs H Q E h => ?_) (fun cdv A outer s H vs Q E hr h => ?_)
  · obtain ⟨v, d, rfl, _⟩ := h
    rfl
  obtain ⟨v, d, rfl, hd, hf, hq⟩ := h
  refine ⟨_, (pss_cons (ps_if (PW.pt (pw_or (pt_not (pt_val (pe_callB call_isi rfl T.z_isinstance (by decide +kernel) (pa_cons (pv 0) (pa_cons (pe_bltn (v := .ty "tuple") rfl T.z_tuple (by decide +kernel) rfl) pa_nil))))) (pw_or1 (pt_cmpR (op_eqD hr.units) (pv 0) (pe_tup pa_nil) (nomark _)))))
(pss_one (ps_ret (pe_tup (pa_cons pe_str pa_nil))))
pss_nil)
(pss_cons (ps_for PassesOwn.never rfl (pi_enT rfl T.z_enumerate (pa_cons (pv 0) pa_nil)) (pg_tup rfl (pgs_cons (pg_name (i := 1) sc_l_due.nd rfl (Or.inl rfl)) (pgs_cons (pg_name (i := 2) sc_l_due.nd rfl (Or.inl rfl)) pgs_nil)))
(pss_one (ps_if (pt_not (pt_val (pe_call G_l_line hr rfl T.m_l_line T.F_l_line.kp T.b_l_line .nil pass0 (pa_cons (pv 2) pa_nil))))
(pss_one (ps_ret (pe_tup (pa_cons pe_str (pa_cons (pv 1) pa_nil)))))
pss_nil)))
(pss_one (ps_ret (pe_ix ix_list (pe_lst (pa_cons pe_non (pa_cons (pe_tup (pa_cons pe_str pa_nil)) pa_nil))) (pe_callTy call_int1 rfl T.z_int (by decide +kernel) (pa_cons (pe_cmpR (op_neD hr.units) (pe_ix ix_tup (pe_ix ix_tup (pv 0) pe_int (fun _ _ => rfl)) pe_int (fun _ _ => rfl)) pe_int (nomark _)) pa_nil)) (fun _ _ => rfl)))))), ?_⟩
  refine ⟨_, rfl, _, _, _, _, _, rfl, .ty "tuple", dp_ty hd, kit_tup d, _, rfl, ?_⟩
  have bad : ∀ {H1 : Hp}, Same H H1 → checkD d = .tuple [.str "form"] → ∀ p, H1 p = none → Q (.ref p) (upd H1 p (.tup [.str "form"])) := fun s1 e p hp => by
    refine hq _ _ (s1.trans (same_new hp)) ?_
    rw [e]
    exact one_tup (.str _)
  cases hd with
  | tup hs ha =>
    rename_i a xs ds
    have l2 := DpAll.length ha
    refine iteF ⟨_, rfl, Nat.zero_le _, fun p0 hp0 => ?_⟩
    have s0 : Same H (upd H p0 (.tup [])) := same_new hp0
    refine ⟨_, _, Dp.same s0 (.tup hs ha), .tup (.of upd_same) .nil, hf.shaped, rfl, _, rfl, ?_⟩
    rw [eqv_nil]
    refine ite2 (fun c => ?_) (fun c => ?_)
    · obtain rfl : ds = [] := of_decide_eq_true c
      exact ⟨(by show 1 ≤ sizeLine; decide), fun p hp => bad s0 rfl p hp⟩
    · have hne : ds ≠ [] := of_decide_eq_false (Bool.eq_false_iff.mpr c)
      have hc : checkD (.tuple ds) = checkRows ds := by
        obtain ⟨_, _, rfl⟩ := List.exists_cons_of_ne_nil hne
        rfl
      rw [hc] at hq
      refine ⟨_, rfl, a, xs, rfl, Same.seqT s0 hs, for_it walk_enT (fun i σ H' => Same H H' ∧ (∃ v1 v2, σ = [some (.ref a), v1, v2]) ∧ ∀ e ∈ ds.take i, lineD e = true) ⟨s0, ⟨none, none, rfl⟩, by simp⟩
        (fun i σ H' _ q => Same.seqT q.1 hs) ?_ ?_⟩
      · rintro i x σ H1 H2 hi ⟨s1, ⟨v1, v2, rfl⟩, hl⟩ ⟨T1, x1, x2, rfl, hT, rfl, e1, e2⟩
        obtain rfl := Option.some.inj e1
        have hi2 : i < ds.length := by omega
        have hd2 : ds[i]? = some ds[i] := List.getElem?_eq_getElem hi2
        obtain ⟨y, hy, dy⟩ := DpAll.get ha hd2
        obtain rfl := Option.some.inj (hy.symm.trans e2)
        have s2 : Same H (upd H1 T1 (.tup [.int (i : Nat), y])) := s1.trans (same_new hT)
        refine ⟨T1, _, rfl, .of upd_same, rfl, _, _, rfl, _, _, rfl, rfl, ?_⟩
        refine ⟨_, rfl, _, ds[i], rfl, Dp.same s2 dy, hf.sub (List.getElem_mem hi2), fun H3 s3 => ?_⟩
        refine ⟨_, rfl, ite2 (fun c => ?_) (fun c => ?_)⟩
        · have cb : lineD ds[i] = false := by simpa using c
          refine ⟨_, rfl, (by show 2 ≤ sizeLine; decide), fun p hp => ?_⟩
          refine hq _ _ ((s2.trans s3).trans (same_new hp)) ?_
          have e : checkRows ds = .tuple [.str "line", .int (i : Nat)] := by
            unfold checkRows
            rw [firstBad_ix hd2 hl cb]
          rw [e]
          exact .tup (.of upd_same) (.cons (.str _) (.cons (.int _) .nil))
        · have cb : lineD ds[i] = true := by simpa using c
          refine ⟨s2.trans s3, ⟨_, _, rfl⟩, fun e he => ?_⟩
          rw [List.take_add_one, hd2] at he
          rcases List.mem_append.mp he with he | he
          · exact hl e he
          · rw [List.mem_singleton.mp he]
            exact cb
      · rintro σ H1 ⟨s1, ⟨v1, v2, rfl⟩, hl⟩
        have hall : ∀ e ∈ ds, lineD e = true := fun e he => hl e (by rw [List.take_of_length_le (by omega)]; exact he)
        have hno : firstBad 0 ds = none := firstBad_no ds 0 hall
        obtain ⟨d0, ds', rfl⟩ := List.exists_cons_of_ne_nil hne
        obtain ⟨v0, xs', rfl, h0, ht⟩ := cons_all ha
        obtain ⟨i, z, rfl, i0, hz⟩ := lineD_shape (hall d0 (List.mem_cons_self ..))
        obtain ⟨b, ys, rfl, hb, hys⟩ := Dp.ofTup h0
        obtain ⟨y0, y1, rfl, g0, g1⟩ := two_all hys
        obtain rfl := Dp.ofInt g0
        refine ⟨(by show 1 ≤ sizeLine; decide), fun p1 hp1 => ?_⟩
        refine ⟨(by show 2 ≤ sizeLine; decide), fun p2 hp2 => ?_⟩
        have s2 : Same H1 (upd H1 p1 (.tup [.str "first"])) := same_new hp1
        have s3 := s2.trans (same_new (o := .lst [.non, .ref p1]) hp2)
        have s4 := s1.trans s3
        refine ⟨_, rfl, a, _, _, _, rfl, rfl, Same.seqT s4 hs, at_of (j := 0) rfl rfl, b, _, _, _, rfl, rfl, Same.seqT s4 hb, rfl, _, _, .int _, .int _, rfl, rfl, .inr ⟨_, rfl, ?_⟩⟩
        rw [eqv_int, neI]
        have hcr : checkRows (.tuple [.int i, .str z] :: ds') = if i = 0 then .none else .tuple [.str "first"] := by
          unfold checkRows
          rw [hno]
          rfl
        rw [hcr] at hq
        by_cases c : i = 0
        · rw [if_pos c] at hq
          rw [decide_eq_false (not_not_intro c)]
          exact ⟨p2, _, _, .non, rfl, rfl, .of upd_same, rfl, hq _ _ s4 .non⟩
        · rw [if_neg c] at hq
          rw [decide_eq_true c]
          refine ⟨p2, _, _, .ref p1, rfl, rfl, .of upd_same, rfl, hq _ _ s4 (.tup (.of ?_) (.cons (.str _) .nil))⟩
          rw [upd_ne (ne_of_none upd_same hp2), upd_same]
  | non => exact iteT ⟨(by show 1 ≤ sizeLine; decide), fun p hp => bad (.refl _) rfl p hp⟩
  | bl b => exact iteT ⟨(by show 1 ≤ sizeLine; decide), fun p hp => bad (.refl _) rfl p hp⟩
  | int i => exact iteT ⟨(by show 1 ≤ sizeLine; decide), fun p hp => bad (.refl _) rfl p hp⟩
  | str x => exact iteT ⟨(by show 1 ≤ sizeLine; decide), fun p hp => bad (.refl _) rfl p hp⟩
  | lst a b => exact iteT ⟨(by show 1 ≤ sizeLine; decide), fun p hp => bad (.refl _) rfl p hp⟩
end
end K10

namespace K10
open PySem PySem.Spec PyProof.Rows L2 Vk
/-! ### drawn layouts -/
def okZ (z : Str) : Prop := z.cps.toList.all signOk = true ∧ leafOk (.str z) = true
def spString : Sp := fun vs H Q _ => ∃ (p : Addr) (n : Nat), vs = [.ref p] ∧ PurseAt H p (n + 1) ∧
  ∀ (H' : Hp) (z : Str), Same (hide p H) (hide p H') → PurseAt H' p n → okZ z → Q (.str z) H'
def GoodRow (r : PyData) : Prop := ∃ (i : Int) (z : Str), r = .tuple [.int i, .str z] ∧ 0 ≤ i ∧ i ≤ 1000 ∧ okZ z
structure GoodRows (rows : List PyData) : Prop where
  ne : rows ≠ []
  all : ∀ r ∈ rows, GoodRow r
  head : indentOf (rows.headD .none) = 0
def spLayout (K : PySem.W.Frag) : Sp := fun vs H Q _ => ∃ (p : Addr) (n : Nat), vs = [.ref p] ∧ PurseAt H p (n + 20) ∧
  ∀ (H' : Hp) (v : V) (rows : List PyData), Same (hide p H) (hide p H') → PurseAt H' p n → Dp K (hide p H') v (.tuple rows) → GoodRows rows → rows.length ≤ 8 → Q v H'
theorem okZs : ∀ z ∈ ([("" : Str), "a", " ", "a b", "~ ", "\"\\", "ab"] : List Str), okZ z := by
  have h : (([("" : Str), "a", " ", "a b", "~ ", "\"\\", "ab"] : List Str).all fun z => z.cps.toList.all signOk && leafOk (.str z)) = true := by decide +kernel
  intro z hz
  have q := List.all_eq_true.mp h z hz
  rw [Bool.and_eq_true] at q
  exact q
theorem GoodRows.more {rows : List PyData} {r : PyData} (h : GoodRows rows) (hr : GoodRow r) : GoodRows (rows ++ [r]) := by
  refine ⟨by simp, fun e he => ?_, ?_⟩
  · rcases List.mem_append.mp he with he | he
    · exact h.all e he
    · rw [List.mem_singleton.mp he]
      exact hr
  · obtain ⟨d, ds, rfl⟩ := List.exists_cons_of_ne_nil h.ne
    exact h.head
theorem ints_dp {K : PySem.W.Frag} {H : Hp} : ∀ zs : List Int, DpAll K H (zs.map V.int) (zs.map PyData.int)
  | [] => .nil
  | z :: zs => .cons (.int z) (ints_dp zs)
section
variable {P : Program} {w : World} {K : PySem.W.Frag} {mg : Str → Option Value} {base : Heap} {k : Nat}
theorem ok_string (T : Tx K mg) (G_l_draw : FnOk P w K mg base CX0 k T.a_l_draw T.d_l_draw P_l_draw spDraw) : FnOk P w K mg base CX0 (k + 1) T.a_l_string T.d_l_string P_l_string spString := by
  refine T.F_l_string.ok sc_l_string (fun vs H Q E h => ?_) (fun cdv A outer s H vs Q E hr h => ?_)
  · obtain ⟨p, n, rfl, _⟩ := h
    rfl
  obtain ⟨p, n, rfl, hp, hq⟩ := h
  refine ⟨_, (pss_one (ps_ret (pe_ix ix_list (pe_lst (pa_cons pe_str (pa_cons pe_str (pa_cons pe_str (pa_cons pe_str (pa_cons pe_str (pa_cons pe_str (pa_cons pe_str pa_nil)))))))) (pe_call G_l_draw hr rfl T.m_l_draw T.F_l_draw.kp T.b_l_draw .nil pass0 (pa_cons (pv 0) (pa_cons pe_int pa_nil))) (fun _ _ => rfl)))), ?_⟩
  refine ⟨(by show 7 ≤ sizeLine; decide), fun l hl => ?_⟩
  refine ⟨_, rfl, p, 7, n, rfl, hp.new hl, by decide, by decide, fun H2 d hh pu d0 d1 => ?_⟩
  refine pickH hp hl hh d0 d1 (strs_dp [("" : Str), "a", " ", "a b", "~ ", "\"\\", "ab"]) fun v e he hv => ?_
  obtain ⟨z, hz, rfl⟩ := List.mem_map.mp he
  obtain rfl := Dp.ofStr hv
  exact hq _ _ ((hs_new hl).trans (same_eq hh)) pu (okZs z hz)
theorem ok_layout (T : Tx K mg) (G_l_draw : FnOk P w K mg base CX0 k T.a_l_draw T.d_l_draw P_l_draw spDraw) (G_l_string : FnOk P w K mg base CX0 k T.a_l_string T.d_l_string P_l_string spString) :
    FnOk P w K mg base CX0 (k + 1) T.a_l_layout T.d_l_layout P_l_layout (spLayout K) := by
  refine T.F_l_layout.ok sc_l_layout (fun vs H Q E h => ?_) (fun cdv A outer s H vs Q E hr h => ?_)
  · obtain ⟨p, n, rfl, _⟩ := h
    rfl
  obtain ⟨p, n, rfl, hp, hq⟩ := h
  refine ⟨_, (pss_cons (ps_set (i := 1) sc_l_layout.nd rfl (Or.inl rfl) (pe_tup (pa_cons (pe_tup (pa_cons pe_int (pa_cons (pe_call G_l_string hr rfl T.m_l_string T.F_l_string.kp T.b_l_string .nil pass0 (pa_cons (pv 0) pa_nil)) pa_nil))) pa_nil)))
(pss_cons (ps_for PassesOwn.never rfl (pi_range1 rfl T.z_range (pa_cons (pe_call G_l_draw hr rfl T.m_l_draw T.F_l_draw.kp T.b_l_draw .nil pass0 (pa_cons (pv 0) (pa_cons pe_int pa_nil))) pa_nil)) (pg_name (i := 2) sc_l_layout.nd rfl (Or.inl rfl))
(pss_one (ps_set (i := 1) sc_l_layout.nd rfl (Or.inl rfl) (pe_op op_catA (pv 1) (pe_tup (pa_cons (pe_tup (pa_cons (pe_ix ix_list (pe_lst (pa_cons pe_int (pa_cons pe_int (pa_cons pe_int (pa_cons pe_int (pa_cons pe_int pa_nil)))))) (pe_call G_l_draw hr rfl T.m_l_draw T.F_l_draw.kp T.b_l_draw .nil pass0 (pa_cons (pv 0) (pa_cons pe_int pa_nil))) (fun _ _ => rfl)) (pa_cons (pe_call G_l_string hr rfl T.m_l_string T.F_l_string.kp T.b_l_string .nil pass0 (pa_cons (pv 0) pa_nil)) pa_nil))) pa_nil))))))
(pss_one (ps_ret (pv 1))))), ?_⟩
  refine ⟨_, rfl, p, n + 19, rfl, hp, fun H1 z s1 pu1 oz => ?_⟩
  refine ⟨(by show 2 ≤ sizeLine; decide), fun t1 ht1 => ⟨(by show 1 ≤ sizeLine; decide), fun t2 ht2 => ?_⟩⟩
  have g1 : Dp K _ _ (.tuple [.int 0, .str z]) := tup_new (K := K) pu1 ht1 (.cons (.int 0) (.cons (.str z) .nil))
  have pu2 := pu1.new (o := .tup [.int 0, .str z]) ht1
  have g2 := tup_new pu2 ht2 (.cons g1 .nil)
  refine ⟨_, rfl, p, 7, n + 18, rfl, pu2.new ht2, by decide, by decide, fun H3 d hh pu3 d0 d1 => ?_⟩
  have s3 := s1.trans ((hs_new ht1).trans ((hs_new ht2).trans (same_eq hh)))
  refine ⟨d, rfl, by omega, by omega, for_range (lo := 0) (n := d.toNat) (fun i σ H' => ∃ (v : V) (rows : List PyData) (t : Option V), σ = [some (.ref p), some v, t] ∧ Same (hide p H) (hide p H') ∧
    PurseAt H' p (n + (18 - 2 * i)) ∧ Dp K (hide p H') v (.tuple rows) ∧ GoodRows rows ∧ rows.length ≤ i + 1) ⟨_, _, _, rfl, s3, pu3, Dp.same (same_eq hh) g2, ⟨by simp, fun r hr => ?_, rfl⟩, by simp⟩ ?_ ?_⟩
  · rw [List.mem_singleton.mp hr]
    exact ⟨0, z, rfl, by decide, by decide, oz⟩
  · rintro i σ H4 hi ⟨v, rows, t, rfl, s4, pu4, dp4, g4, l4⟩
    refine ⟨_, rfl, (by show 5 ≤ sizeLine; decide), fun l hl => ?_⟩
    refine ⟨_, rfl, p, 5, n + (17 - 2 * i), rfl, (pu4.new hl).less (by omega), by decide, by decide, fun H5 e hh5 pu5 e0 e1 => ?_⟩
    refine pickH pu4 hl hh5 e0 e1 (ints_dp [0, 1, 2, 40, 1000]) fun y j hj hy => ?_
    obtain ⟨j, hj', rfl⟩ := List.mem_map.mp hj
    obtain rfl := Dp.ofInt hy
    have hj2 : 0 ≤ j ∧ j ≤ 1000 := by
      have hh : ∀ x ∈ ([0, 1, 2, 40, 1000] : List Int), 0 ≤ x ∧ x ≤ 1000 := by decide
      exact hh j hj'
    have s5 := (hs_new hl).trans (same_eq hh5)
    refine ⟨_, rfl, p, n + (16 - 2 * i), rfl, pu5.less (by omega), fun H6 z6 s6 pu6 oz6 => ?_⟩
    refine ⟨(by show 2 ≤ sizeLine; decide), fun q1 hq1 => ⟨(by show 1 ≤ sizeLine; decide), fun q2 hq2 => ?_⟩⟩
    have f1 := tup_new (K := K) pu6 hq1 (.cons (.int j) (.cons (.str z6) .nil))
    have pu7 := pu6.new (o := .tup [.int j, .str z6]) hq1
    have f2 := tup_new pu7 hq2 (.cons f1 .nil)
    have s7 := s5.trans (s6.trans ((hs_new hq1).trans (hs_new (o := .tup [.ref q1]) hq2)))
    refine catH (pu7.new hq2) (Dp.same s7 dp4) f2 (by simp; omega) fun r H8 s8 pu8 hr8 => ?_
    exact ⟨r, _, _, rfl, s4.trans (s7.trans s8), pu8.less (by omega), hr8, g4.more ⟨j, z6, rfl, hj2.1, hj2.2, oz6⟩, by simp; omega⟩
  · rintro σ H4 ⟨v, rows, t, rfl, s4, pu4, dp4, g4, l4⟩
    exact ⟨_, rfl, hq _ _ _ s4 (pu4.less (by omega)) dp4 g4 (by omega)⟩
end
end K10

namespace K10
open PySem PySem.Spec PyProof.Rows L2 Vk
/-! ### layouts bent -/
def FitRow (r : PyData) : Prop := ∃ (i : Int) (z : Str), r = .tuple [.int i, .str z] ∧ leafOk (.int i) = true ∧ leafOk (.str z) = true
structure FitRows (rows : List PyData) : Prop where
  ne : rows ≠ []
  len : rows.length ≤ 8
  all : ∀ r ∈ rows, FitRow r
structure Bnt (d : PyData) : Prop where
  fine : Fine d
  fit : checkD d = .none → ∃ rows, d = .tuple rows ∧ FitRows rows
def spBent (K : PySem.W.Frag) : Sp := fun vs H Q _ => ∃ (p : Addr) (n : Nat) (v : V) (rows : List PyData), vs = [.ref p, v] ∧ PurseAt H p (n + 3) ∧ Dp K (hide p H) v (.tuple rows) ∧ FitRows rows ∧
  ∀ (H' : Hp) (u : V) (d : PyData), Same (hide p H) (hide p H') → PurseAt H' p n → Dp K (hide p H') u d → Bnt d → Q u H'
theorem FitRow.ok {r : PyData} (h : FitRow r) : okD 1 r = true := by
  obtain ⟨i, z, rfl, hi, hz⟩ := h
  refine okD_tup.mpr ⟨by simp, fun d hd => ?_⟩
  rcases List.mem_cons.mp hd with rfl | hd
  · exact hi
  · rw [List.mem_singleton.mp hd]
    exact hz
theorem okD_le {n m : Nat} {d : PyData} (h : okD n d = true) (k : n ≤ m) : okD m d = true := by
  induction k with
  | refl => exact h
  | step _ ih => exact okD_up _ d ih
theorem firstBad_all : ∀ (ds : List PyData) (k : Nat), firstBad k ds = none → ∀ d ∈ ds, lineD d = true
  | [], _, _ => by simp
  | d :: ds, k, h => by
    have h' : (if lineD d = true then firstBad (k + 1) ds else some k) = none := h
    by_cases c : lineD d = true
    · rw [if_pos c] at h'
      intro e he
      rcases List.mem_cons.mp he with rfl | he
      · exact c
      · exact firstBad_all ds (k + 1) h' e he
    · rw [if_neg c] at h'
      cases h'
theorem bnt_rows {rows : List PyData} (hl : rows.length ≤ 8) (h : ∀ r ∈ rows, okD 2 r = true) : Bnt (.tuple rows) := by
  refine ⟨okD_le (n := 3) (okD_tup.mpr ⟨by omega, h⟩) (by decide), fun hc => ⟨rows, rfl, ?_⟩⟩
  cases rows with
  | nil => cases hc
  | cons r rs =>
    refine ⟨by simp, hl, fun e he => ?_⟩
    have hc' : checkRows (r :: rs) = .none := hc
    unfold checkRows at hc'
    cases hb : firstBad 0 (r :: rs) with
    | some k =>
      rw [hb] at hc'
      cases hc'
    | none =>
      obtain ⟨i, z, rfl, _⟩ := lineD_shape (firstBad_all _ 0 hb e he)
      have q := okD_tup.mp (h _ he)
      refine ⟨i, z, rfl, ?_, ?_⟩
      · exact q.2 (.int i) (by simp)
      · exact q.2 (.str z) (by simp)
theorem bnt_leaf {d : PyData} (h : leafOk d = true) (hc : checkD d ≠ .none) : Bnt d := ⟨okD_leaf h 4, fun e => absurd e hc⟩
theorem bnt_whole {rows : List PyData} (h : FitRows rows) : ∀ d ∈ ([.none, .tuple [], .list rows, .str "a", .int 0, rows.headD .none, .bool true] : List PyData), Bnt d := by
  obtain ⟨r, rs, rfl⟩ := List.exists_cons_of_ne_nil h.ne
  obtain ⟨i, z, e, hi, hz⟩ := h.all r (List.mem_cons_self ..)
  have hc : ∀ a : String, ∀ l, (PyData.tuple (.str a :: l)) ≠ .none := fun _ _ q => by cases q
  intro d hd
  simp only [List.mem_cons, List.not_mem_nil, or_false] at hd
  rcases hd with rfl | rfl | rfl | rfl | rfl | rfl | rfl
  · exact bnt_leaf rfl (hc _ _)
  · exact ⟨by decide, fun q => absurd q (hc _ _)⟩
  · refine ⟨okD_le (n := 2) (okD_lst.mpr ⟨by have := h.len; omega, fun d hd => (h.all d hd).ok⟩) (by decide), fun q => absurd q (hc _ _)⟩
  · exact bnt_leaf (by decide +kernel) (hc _ _)
  · exact bnt_leaf (by decide +kernel) (hc _ _)
  · refine ⟨okD_le (n := 1) (h.all _ (List.mem_cons_self ..)).ok (by decide), fun q => ?_⟩
    subst e
    cases q
  · exact bnt_leaf rfl (hc _ _)
theorem new_row {i : Int} {z : Str} (hi : leafOk (.int i) = true) (hz : leafOk (.str z) = true) : ∀ d ∈ ([.none, .tuple [], .list [.int i, .str z], .tuple ([.int i, .str z] ++ [.int 1]), .tuple ([.int i, .str z].take 1), .str "ab", .int 3,
    .tuple [.tuple [.int i, .str z]]] : List PyData), okD 2 d = true := by
  have f1 : okD 1 (.tuple [.int i, .str z]) = true := FitRow.ok ⟨i, z, rfl, hi, hz⟩
  have a : ∀ d ∈ ([.int i, .str z] : List PyData), okD 0 d = true := fun d hd => by
    rcases List.mem_cons.mp hd with rfl | hd
    · exact hi
    · rw [List.mem_singleton.mp hd]
      exact hz
  intro d hd
  simp only [List.mem_cons, List.not_mem_nil, or_false] at hd
  rcases hd with rfl | rfl | rfl | rfl | rfl | rfl | rfl | rfl
  · rfl
  · rfl
  · exact okD_up 1 _ (okD_lst.mpr ⟨by simp, a⟩)
  · refine okD_up 1 _ (okD_tup.mpr ⟨by simp, fun d hd => ?_⟩)
    rcases List.mem_append.mp hd with hd | hd
    · exact a d hd
    · rw [List.mem_singleton.mp hd]
      show leafOk _ = true
      decide +kernel
  · exact okD_up 1 _ (okD_tup.mpr ⟨by simp, fun d hd => a d (List.mem_of_mem_take hd)⟩)
  · decide +kernel
  · decide +kernel
  · refine okD_tup.mpr ⟨by simp, fun d hd => ?_⟩
    rw [List.mem_singleton.mp hd]
    exact f1
theorem new_two {d e : PyData} (h1 : okD 1 d = true) (h2 : okD 1 e = true) : okD 2 (.tuple [d, e]) = true := by
  refine okD_tup.mpr ⟨by simp, fun x hx => ?_⟩
  rcases List.mem_cons.mp hx with rfl | hx
  · exact h1
  · rw [List.mem_singleton.mp hx]
    exact h2
theorem bent_rows {rows : List PyData} {e : PyData} {i : Nat} (h : FitRows rows) (he : okD 2 e = true) (hi : i < rows.length) : Bnt (.tuple (rows.take i ++ [e] ++ rows.drop (i + 1))) := by
  refine bnt_rows ?_ fun r hr => ?_
  · have := h.len
    simp only [List.length_append, List.length_take, List.length_drop, List.length_singleton]
    omega
  · rcases List.mem_append.mp hr with hr | hr
    · rcases List.mem_append.mp hr with hr | hr
      · exact okD_up 1 _ (h.all r (List.mem_of_mem_take hr)).ok
      · rw [List.mem_singleton.mp hr]
        exact he
    · exact okD_up 1 _ (h.all r (List.mem_of_mem_drop hr)).ok
section
variable {P : Program} {w : World} {K : PySem.W.Frag} {mg : Str → Option Value} {base : Heap} {k : Nat}
theorem ok_bent (T : Tx K mg) (G_l_draw : FnOk P w K mg base CX0 k T.a_l_draw T.d_l_draw P_l_draw spDraw) : FnOk P w K mg base CX0 (k + 1) T.a_l_bent T.d_l_bent P_l_bent (spBent K) := by
  refine T.F_l_bent.ok sc_l_bent (fun vs H Q E h => ?_) (fun cdv A outer s H vs Q E hr h => ?_)
  · obtain ⟨p, n, v, rows, rfl, _⟩ := h
    rfl
  obtain ⟨p, n, v, rows, rfl, hp, hv, hf, hq⟩ := h
  obtain ⟨r0, rs, er⟩ := List.exists_cons_of_ne_nil hf.ne
  have len0 : 0 < rows.length := by rw [er]; simp
  refine ⟨_, (pss_cons (ps_set (i := 2) sc_l_bent.nd rfl (Or.inl rfl) (pe_call G_l_draw hr rfl T.m_l_draw T.F_l_draw.kp T.b_l_draw .nil pass0 (pa_cons (pv 0) (pa_cons pe_int pa_nil))))
(pss_cons (ps_if (pt_cmpR (op_eqD hr.units) (pv 2) pe_int (nomark _))
(pss_one (ps_ret (pe_ix ix_list (pe_lst (pa_cons pe_non (pa_cons (pe_tup pa_nil) (pa_cons (pe_callTy call_list_of rfl T.z_list (by decide +kernel) (pa_cons (pv 1) pa_nil)) (pa_cons pe_str (pa_cons pe_int (pa_cons (pe_ix ix_tup (pv 1) pe_int (fun _ _ => rfl)) (pa_cons pe_bl pa_nil)))))))) (pe_call G_l_draw hr rfl T.m_l_draw T.F_l_draw.kp T.b_l_draw .nil pass0 (pa_cons (pv 0) (pa_cons pe_int pa_nil))) (fun _ _ => rfl))))
pss_nil)
(pss_cons (ps_set (i := 3) sc_l_bent.nd rfl (Or.inl rfl) (pe_call G_l_draw hr rfl T.m_l_draw T.F_l_draw.kp T.b_l_draw .nil pass0 (pa_cons (pv 0) (pa_cons (pe_callB call_len rfl T.z_len (by decide +kernel) (pa_cons (pv 1) pa_nil)) pa_nil))))
(pss_cons (ps_set (i := 4) sc_l_bent.nd rfl (Or.inl rfl) (pe_ix ix_tup (pv 1) (pv 3) (fun _ _ => rfl)))
(pss_cons (ps_if (pt_cmpR (op_eqD hr.units) (pv 2) pe_int (nomark _))
(pss_one (ps_set (i := 5) sc_l_bent.nd rfl (Or.inl rfl) (pe_ix ix_list (pe_lst (pa_cons pe_non (pa_cons (pe_tup pa_nil) (pa_cons (pe_callTy call_list_of rfl T.z_list (by decide +kernel) (pa_cons (pv 4) pa_nil)) (pa_cons (pe_op op_catA (pv 4) (pe_tup (pa_cons pe_int pa_nil))) (pa_cons (pe_slice sl_tupA (pv 4) po_none (po_some pe_int)) (pa_cons pe_str (pa_cons pe_int (pa_cons (pe_tup (pa_cons (pv 4) pa_nil)) pa_nil))))))))) (pe_call G_l_draw hr rfl T.m_l_draw T.F_l_draw.kp T.b_l_draw .nil pass0 (pa_cons (pv 0) (pa_cons pe_int pa_nil))) (fun _ _ => rfl))))
(pss_one (ps_if (pt_cmpR (op_eqD hr.units) (pv 2) pe_int (nomark _))
(pss_one (ps_set (i := 5) sc_l_bent.nd rfl (Or.inl rfl) (pe_tup (pa_cons (pe_ix ix_list (pe_lst (pa_cons (pe_un un_neg pe_int) (pa_cons pe_bl (pa_cons pe_non (pa_cons pe_str (pa_cons (pe_op op_pow pe_int pe_int) (pa_cons pe_bl (pa_cons (pe_tup (pa_cons pe_int pa_nil)) (pa_cons pe_int pa_nil))))))))) (pe_call G_l_draw hr rfl T.m_l_draw T.F_l_draw.kp T.b_l_draw .nil pass0 (pa_cons (pv 0) (pa_cons pe_int pa_nil))) (fun _ _ => rfl)) (pa_cons pe_str pa_nil)))))
(pss_one (ps_if (pt_cmpR (op_eqD hr.units) (pv 2) pe_int (nomark _))
(pss_one (ps_set (i := 5) sc_l_bent.nd rfl (Or.inl rfl) (pe_tup (pa_cons (pe_callTy call_int1 rfl T.z_int (by decide +kernel) (pa_cons (pe_cmpR op_gt (pv 3) pe_int (nomark _)) pa_nil)) (pa_cons (pe_ix ix_list (pe_lst (pa_cons pe_str (pa_cons pe_str (pa_cons pe_non (pa_cons pe_int (pa_cons (pe_tup (pa_cons pe_str pa_nil)) (pa_cons (pe_lst (pa_cons pe_str pa_nil)) (pa_cons pe_str pa_nil)))))))) (pe_call G_l_draw hr rfl T.m_l_draw T.F_l_draw.kp T.b_l_draw .nil pass0 (pa_cons (pv 0) (pa_cons pe_int pa_nil))) (fun _ _ => rfl)) pa_nil)))))
(pss_one (ps_set (i := 5) sc_l_bent.nd rfl (Or.inl rfl) (pe_tup (pa_cons (pe_op op_add pe_int (pe_call G_l_draw hr rfl T.m_l_draw T.F_l_draw.kp T.b_l_draw .nil pass0 (pa_cons (pv 0) (pa_cons pe_int pa_nil)))) (pa_cons pe_str pa_nil))))))))))
(pss_one (ps_ret (pe_op op_catA (pe_op op_catA (pe_slice sl_tupA (pv 1) po_none (po_some (pv 3))) (pe_tup (pa_cons (pv 5) pa_nil))) (pe_slice sl_tupA (pv 1) (po_some (pe_op op_add (pv 3) pe_int)) po_none))))))))), ?_⟩
  refine ⟨_, rfl, p, 6, n + 2, rfl, hp, by decide, by decide, fun H1 way hh1 pu1 w0 w1 => ?_⟩
  have s1 := same_eq hh1
  have v1 := Dp.same s1 hv
  refine ⟨_, rfl, .int _, .int _, .int _, .int _, rfl, rfl, _, rfl, ?_⟩
  rw [eqv_int]
  refine ite2 (fun c => ?_) (fun c => ?_)
  · -- the whole exchanged
    refine ⟨Nat.zero_le _, fun t0 ht0 => ?_⟩
    have g0 := tup_new (K := K) pu1 ht0 .nil
    have pu2 := pu1.new (o := .tup []) ht0
    obtain ⟨a, xs, rfl, sx, ax⟩ := Dp.ofTup (Dp.same (hs_new (o := .tup []) ht0) v1)
    refine ⟨_, rfl, a, xs, rfl, .inr (Same.seqT hide_same sx), fun l0 hl0 => ?_⟩
    have g1 := lst_new pu2 hl0 ax
    have pu3 := pu2.new (o := .lst xs) hl0
    have s3 := (hs_new (p := p) (o := .tup []) ht0).trans (hs_new (o := .lst xs) hl0)
    refine ⟨_, rfl, itemH (Dp.same s3 v1) (i := 0) rfl (d := rows.headD .none) (by rw [er]; rfl) fun u hu => ?_⟩
    refine ⟨(by show 7 ≤ sizeLine; decide), fun l hl => ?_⟩
    refine ⟨_, rfl, p, 7, n + 1, rfl, pu3.new hl, by decide, by decide, fun H2 d hh pu d0 d1 => ?_⟩
    refine pickH pu3 hl hh d0 d1 (.cons .non (.cons (Dp.same (hs_new hl0) g0) (.cons g1 (.cons (.str "a") (.cons (.int 0) (.cons hu (.cons (.bl true) .nil))))))) fun y e he hy => ?_
    exact hq _ _ _ (s1.trans (s3.trans ((hs_new hl).trans (same_eq hh)))) (pu.less (by omega)) hy (bnt_whole hf e he)
  · obtain ⟨a, xs, rfl, sx, ax⟩ := Dp.ofTup v1
    have lx := DpAll.length ax
    refine ⟨_, rfl, _, rfl, _, _, rfl, .inr ⟨_, Same.seqT hide_same sx, rfl⟩, p, _, n + 1, rfl, pu1, by omega, ?_, fun H2 at_ hh2 pu2 a0 a1 => ?_⟩
    · have := hf.len
      omega
    have s2 := same_eq hh2
    have v2 := Dp.same s2 v1
    obtain ⟨i, rfl⟩ : ∃ i : Nat, at_ = (i : Int) := ⟨at_.toNat, by omega⟩
    have hi : i < rows.length := by omega
    obtain ⟨j, z, ej, hj, hz⟩ := hf.all rows[i] (List.getElem_mem hi)
    have ei : rows[i]? = some (.tuple [.int j, .str z]) := by rw [List.getElem?_eq_getElem hi, ej]
    refine ⟨_, rfl, _, rfl, itemH v2 rfl ei fun u hu => ?_⟩
    have fin : ∀ (H3 : Hp) (y : V) (e : PyData), Same (hide p H2) (hide p H3) → PurseAt H3 p n → Dp K (hide p H3) y e → okD 2 e = true →
        tRet (tOp (rCatA K) (tOp (rCatA K) (tSl (rSlA K) (tVar 1) tNoPart (tPart (tVar 3))) (tTup (tCons (tVar 5) tNil))) (tSl (rSlA K) (tVar 1) (tPart (tOp (rI0 fun i j => .int (i + j)) (tVar 3) (tC (.int 1)))) tNoPart))
          { nx := fun _ H' => Q .non H', rt := Q } [some (.ref p), some (.ref a), some (.int way), some (.int (i : Nat)), some u, some y] H3 := by
      intro H3 y e s3 pu3 hy he
      have v3 := Dp.same s3 v2
      refine ⟨_, rfl, _, rfl, _, rfl, headH pu3 v3 hi fun r4 H4 s4 pu4 h4 => ?_⟩
      refine ⟨_, rfl, (by show 1 ≤ sizeLine; decide), fun t5 ht5 => ?_⟩
      have pu5 := pu4.new (o := .tup [y]) ht5
      have h5 := tup_new (K := K) pu4 ht5 (.cons (Dp.same s4 hy) .nil)
      refine catH pu5 (Dp.same (hs_new ht5) h4) h5 ?_ fun r6 H6 s6 pu6 h6 => ?_
      · have := hf.len
        simp only [List.length_take, List.length_singleton]
        omega
      have v6 := Dp.same (s4.trans ((hs_new (o := .tup [y]) ht5).trans s6)) v3
      refine ⟨_, rfl, _, rfl, _, _, rfl, rfl, _, rfl, ?_⟩
      dsimp only [tNoPart]
      refine tailH (z := (i : Int) + 1) (i := i + 1) (by omega) pu6 v6 (by omega) (by omega) fun r7 H7 s7 pu7 h7 => ?_
      refine catH pu7 (Dp.same s7 h6) h7 ?_ fun r8 H8 s8 pu8 h8 => ?_
      · have := hf.len
        simp only [List.length_append, List.length_take, List.length_drop, List.length_singleton]
        omega
      exact hq _ _ _ (s1.trans (s2.trans (s3.trans (s4.trans ((hs_new ht5).trans (s6.trans (s7.trans s8))))))) pu8 h8 (bent_rows hf he hi)
    refine ⟨_, rfl, .int _, .int _, .int _, .int _, rfl, rfl, _, rfl, ?_⟩
    rw [eqv_int]
    refine ite2 (fun c1 => ?_) (fun c1 => ?_)
    · -- a line exchanged
      refine ⟨Nat.zero_le _, fun t0 ht0 => ?_⟩
      have g0 := tup_new (K := K) pu2 ht0 .nil
      have pu3 := pu2.new (o := .tup []) ht0
      have u3 := Dp.same (hs_new (o := .tup []) ht0) hu
      obtain ⟨b, ys, rfl, sy, ay⟩ := Dp.ofTup u3
      refine ⟨_, rfl, b, ys, rfl, .inr (Same.seqT hide_same sy), fun l0 hl0 => ?_⟩
      have g1 := lst_new pu3 hl0 ay
      have pu4 := pu3.new (o := .lst ys) hl0
      have u4 := Dp.same (hs_new (o := .lst ys) hl0) u3
      refine ⟨_, rfl, (by show 1 ≤ sizeLine; decide), fun t1 ht1 => ?_⟩
      have pu5 := pu4.new (o := .tup [.int 1]) ht1
      have u5 := Dp.same (hs_new (o := .tup [.int 1]) ht1) u4
      refine catH pu5 u5 (tup_new pu4 ht1 (.cons (.int 1) .nil)) (by simp) fun r6 H6 s6 pu6 g2 => ?_
      refine ⟨_, rfl, _, rfl, headH (i := 1) pu6 (Dp.same s6 u5) (by simp) fun r7 H7 s7 pu7 g3 => ?_⟩
      refine ⟨_, rfl, (by show 1 ≤ sizeLine; decide), fun t8 ht8 => ?_⟩
      have pu8 := pu7.new (o := .tup [.ref b]) ht8
      have g4 := tup_new pu7 ht8 (.cons (Dp.same (s6.trans s7) u5) .nil)
      refine ⟨(by show 8 ≤ sizeLine; decide), fun l hl => ?_⟩
      refine ⟨_, rfl, p, 8, n, rfl, (pu8.new hl).less (by omega), by decide, by decide, fun H9 d hh pu d0 d1 => ?_⟩
      have k1 := hs_new (p := p) (o := .lst ys) hl0
      have k2 := hs_new (p := p) (o := .tup [.int 1]) ht1
      have k3 := hs_new (p := p) (o := .tup [.ref b]) ht8
      refine pickH pu8 hl hh d0 d1 (.cons .non (.cons (Dp.same (k1.trans (k2.trans (s6.trans (s7.trans k3)))) g0) (.cons (Dp.same (k2.trans (s6.trans (s7.trans k3))) g1) (.cons (Dp.same (s7.trans k3) g2) (.cons (Dp.same k3 g3)
        (.cons (.str "ab") (.cons (.int 3) (.cons g4 .nil)))))))) fun y e he hy => ?_
      exact fin _ y e ((hs_new ht0).trans (k1.trans (k2.trans (s6.trans (s7.trans (k3.trans ((hs_new hl).trans (same_eq hh)))))))) pu hy (new_row hj hz e he)
    · refine ⟨_, rfl, .int _, .int _, .int _, .int _, rfl, rfl, _, rfl, ?_⟩
      rw [eqv_int]
      refine ite2 (fun c2 => ?_) (fun c2 => ?_)
      · -- an indent exchanged
        refine ⟨_, rfl, _, _, rfl, rfl, ⟨by decide, by decide, by decide⟩, (by show 1 ≤ sizeLine; decide), fun t1 ht1 => ?_⟩
        have pu3 := pu2.new (o := .tup [.int 1]) ht1
        have g1 := tup_new (K := K) pu2 ht1 (.cons (.int 1) .nil)
        refine ⟨(by show 8 ≤ sizeLine; decide), fun l hl => ?_⟩
        refine ⟨_, rfl, p, 8, n, rfl, (pu3.new hl).less (by omega), by decide, by decide, fun H4 d hh pu d0 d1 => ?_⟩
        refine pickH pu3 hl hh d0 d1 (.cons (.int _) (.cons (.bl true) (.cons .non (.cons (.str "0") (.cons (.int _) (.cons (.bl false) (.cons g1 (.cons (.int 1) .nil)))))))) fun y e he hy => ?_
        refine ⟨(by show 2 ≤ sizeLine; decide), fun t5 ht5 => ?_⟩
        have g5 := tup_new pu ht5 (.cons hy (.cons (.str "a") .nil))
        refine fin _ _ _ ((hs_new ht1).trans ((hs_new hl).trans ((same_eq hh).trans (hs_new ht5)))) (pu.new ht5) g5 (new_two ?_ (by decide +kernel))
        have all1 : ∀ d ∈ ([.int (-1), .bool true, .none, .str "0", .int (10 ^ Int.toNat 30), .bool false, .tuple [.int 1], .int 1] : List PyData), okD 1 d = true := by decide +kernel
        exact all1 e he
      · refine ⟨_, rfl, .int _, .int _, .int _, .int _, rfl, rfl, _, rfl, ?_⟩
        rw [eqv_int]
        refine ite2 (fun c3 => ?_) (fun c3 => ?_)
        · -- a string exchanged
          refine ⟨_, rfl, _, _, rfl, rfl, .inr ⟨_, rfl, ?_⟩⟩
          refine ⟨(by show 1 ≤ sizeLine; decide), fun t1 ht1 => ⟨(by show 1 ≤ sizeLine; decide), fun l1 hl1 => ?_⟩⟩
          have pu3 := pu2.new (o := .tup [.str "a"]) ht1
          have g1 := tup_new (K := K) pu2 ht1 (.cons (.str "a") .nil)
          have pu4 := pu3.new (o := .lst [.str "a"]) hl1
          have g2 := lst_new (K := K) pu3 hl1 (.cons (.str "a") .nil)
          refine ⟨(by show 7 ≤ sizeLine; decide), fun l hl => ?_⟩
          refine ⟨_, rfl, p, 7, n, rfl, (pu4.new hl).less (by omega), by decide, by decide, fun H5 d hh pu d0 d1 => ?_⟩
          refine pickH pu4 hl hh d0 d1 (.cons (.str "a\nb") (.cons (.str "\t") (.cons .non (.cons (.int 0) (.cons (Dp.same (hs_new hl1) g1) (.cons g2 (.cons (.str "a\n") .nil))))))) fun y e he hy => ?_
          refine ⟨(by show 2 ≤ sizeLine; decide), fun t5 ht5 => ?_⟩
          refine fin _ _ _ ((hs_new ht1).trans ((hs_new hl1).trans ((hs_new hl).trans ((same_eq hh).trans (hs_new ht5))))) (pu.new ht5) (tup_new pu ht5 (.cons (.int _) (.cons hy .nil))) (new_two ?_ ?_)
          · split <;> decide +kernel
          · have all1 : ∀ d ∈ ([.str "a\nb", .str "\t", .none, .int 0, .tuple [.str "a"], .list [.str "a"], .str "a\n"] : List PyData), okD 1 d = true := by decide +kernel
            exact all1 e he
        · -- an indent beyond
          refine ⟨_, rfl, p, 3, n, rfl, pu2.less (by omega), by decide, by decide, fun H3 d hh pu d0 d1 => ?_⟩
          refine ⟨_, _, rfl, rfl, (by show 2 ≤ sizeLine; decide), fun t5 ht5 => ?_⟩
          have g5 := tup_new (K := K) pu ht5 (.cons (.int (1 + d)) (.cons (.str "a") .nil))
          refine fin _ _ _ ((same_eq hh).trans (hs_new ht5)) (pu.new ht5) g5 (new_two (okD_leaf ?_ 1) (by decide +kernel))
          refine decide_eq_true ?_
          have : (1 + d).natAbs ≤ 3 := by omega
          exact Nat.lt_of_le_of_lt this (by decide)
end
end K10

namespace K10
open PySem PySem.Spec PyProof.Rows L2 Vk
/-! ### the law -/
def spLaw (K : PySem.W.Frag) : Sp := fun vs H Q _ => ∃ (a : Addr) (ns : List Int), vs = [.ref a] ∧ SqL K H a (ns.map V.int) ∧ ns.length ≤ 63 ∧ ∀ H', Q (.bl true) H'
theorem GoodRows.fit {rows : List PyData} (h : GoodRows rows) (hl : rows.length ≤ 8) : FitRows rows := by
  refine ⟨h.ne, hl, fun r hr => ?_⟩
  obtain ⟨i, z, rfl, i0, i1, oz⟩ := h.all r hr
  refine ⟨i, z, rfl, ?_, oz.2⟩
  refine decide_eq_true ?_
  exact Nat.lt_of_le_of_lt (show i.natAbs ≤ 1000 by omega) (by decide)
theorem GoodRows.check {rows : List PyData} (h : GoodRows rows) : checkD (.tuple rows) = .none := by
  obtain ⟨r, rs, rfl⟩ := List.exists_cons_of_ne_nil h.ne
  show checkRows (r :: rs) = .none
  unfold checkRows
  rw [firstBad_no (r :: rs) 0 fun d hd => ?_]
  · show (if indentOf ((r :: rs).headD .none) = 0 then PyData.none else _) = _
    rw [if_pos h.head]
  · obtain ⟨i, z, rfl, i0, i1, oz⟩ := h.all d hd
    show (decide (0 ≤ i) && z.cps.toList.all signOk) = true
    rw [decide_eq_true i0, oz.1]
    rfl
theorem fit_fine {rows : List PyData} (h : FitRows rows) : Fine (.tuple rows) := okD_le (n := 2) (okD_tup.mpr ⟨by have := h.len; omega, fun r hr => (h.all r hr).ok⟩) (by decide)
theorem check_fine (d : PyData) : SeqAt.shaped (checkD d) = true := by
  have a1 : SeqAt.shaped (.tuple [.str "form"]) = true := by decide +kernel
  have a2 : SeqAt.shaped (.tuple [.str "first"]) = true := by decide +kernel
  have a3 : ∀ k : Int, SeqAt.shaped (.tuple [.str "line", .int k]) = true := fun k => by
    have b : (PyData.str "line").canLay0 = true := by decide +kernel
    show ((PyData.canLay0 (.str "line") && (PyData.canLay0 (.int k) && true)) && decide (PyData.depth (.tuple [.str "line", .int k]) ≤ 64)) = true
    rw [b]
    rfl
  cases d with
  | tuple ds =>
    cases ds with
    | nil => exact a1
    | cons r rs =>
      show SeqAt.shaped (checkRows (r :: rs)) = true
      unfold checkRows
      split
      · exact a3 _
      · split
        · rfl
        · exact a2
  | _ => exact a1
theorem eqv_same {d : PyData} (h : SeqAt.shaped d = true) : PyData.eqv d d = true := SeqAt.eqv_refl d (SeqAt.canLay_of_shaped h)
theorem check_none {K : PySem.W.Frag} {H : Hp} {u : V} {d : PyData} (h : Dp K H u (checkD d)) (e : checkD d = .none) : u = .non := by
  rw [e] at h
  exact Dp.ofNon h
theorem check_some {K : PySem.W.Frag} {H : Hp} {u : V} {d : PyData} (h : Dp K H u (checkD d)) : decide (u = .non) = true ↔ checkD d = .none := by
  constructor
  · intro e
    rw [of_decide_eq_true e] at h
    cases hc : checkD d with
    | none => rfl
    | _ =>
      rw [hc] at h
      cases h
  · intro e
    exact decide_eq_true (check_none h e)
section
variable {P : Program} {w : World} {K : PySem.W.Frag} {mg : Str → Option Value} {base : Heap} {k : Nat}
theorem ok_law (T : Tx K mg) (G_check_layout : FnOk P w K mg base CX0 k T.a_check_layout T.d_check_layout P_check_layout (spCheck K)) (G_l_due : FnOk P w K mg base CX0 k T.a_l_due T.d_l_due P_l_due (spDue K))
    (G_l_purse : FnOk P w K mg base CX0 k T.a_l_purse T.d_l_purse P_l_purse (spPurse K)) (G_l_layout : FnOk P w K mg base CX0 k T.a_l_layout T.d_l_layout P_l_layout (spLayout K))
    (G_l_bent : FnOk P w K mg base CX0 k T.a_l_bent T.d_l_bent P_l_bent (spBent K)) (G_l_draw : FnOk P w K mg base CX0 k T.a_l_draw T.d_l_draw P_l_draw spDraw) : FnOk P w K mg base CX0 (k + 1) T.a_law T.d_law P_law (spLaw K) := by
  refine T.F_law.ok sc_law (fun vs H Q E h => ?_) (fun cdv A outer s H vs Q E hr h => ?_)
  · obtain ⟨a, ns, rfl, _⟩ := h
    rfl
  obtain ⟨a, ns, rfl, hS, h63, hq⟩ := h
  refine ⟨_, (pss_cons (ps_for PassesOwn.never rfl (pi_range1 rfl T.z_range (pa_cons (pe_op op_add pe_int (pe_callB (call_min2 rfl) rfl T.z_min (by decide +kernel) (pa_cons pe_int (pa_cons (pe_callB call_len rfl T.z_len (by decide +kernel) (pa_cons (pv 0) pa_nil)) pa_nil)))) pa_nil)) (pg_name (i := 1) sc_law.nd rfl (Or.inl rfl))
(pss_cons (ps_set (i := 2) sc_law.nd rfl (Or.inl rfl) (pe_call G_l_purse hr rfl T.m_l_purse T.F_l_purse.kp T.b_l_purse .nil pass0 (pa_cons (pv 0) (pa_cons (pv 1) pa_nil))))
(pss_one (ps_for PassesOwn.never rfl (pi_range1 rfl T.z_range (pa_cons pe_int pa_nil)) (pg_name (i := 3) sc_law.nd rfl (Or.inl rfl))
(pss_cons (ps_set (i := 4) sc_law.nd rfl (Or.inl rfl) (pe_call G_l_layout hr rfl T.m_l_layout T.F_l_layout.kp T.b_l_layout .nil pass0 (pa_cons (pv 2) pa_nil)))
(pss_cons (ps_if (PW.pt (pw_or (pt_cmpR op_notN (pe_call G_check_layout hr rfl T.m_check_layout T.F_check_layout.kp T.b_check_layout .nil pass0 (pa_cons (pv 4) pa_nil)) pe_non (nomark _)) (pw_or1 (pt_cmpR op_notN (pe_callK0 G_check_layout hr rfl T.m_check_layout T.F_check_layout.kp T.kb_check_layout_thing pass0 (pk_cons (pv 4) pk_nil)) pe_non (nomark _)))))
(pss_one (ps_ret pe_bl))
pss_nil)
(pss_cons (ps_set (i := 5) sc_law.nd rfl (Or.inl rfl) (pe_call G_l_bent hr rfl T.m_l_bent T.F_l_bent.kp T.b_l_bent .nil pass0 (pa_cons (pv 2) (pa_cons (pv 4) pa_nil))))
(pss_cons (ps_if (PW.pt (pw_and (pt_cmpR op_isN (pe_call G_l_due hr rfl T.m_l_due T.F_l_due.kp T.b_l_due .nil pass0 (pa_cons (pv 5) pa_nil)) pe_non (nomark _)) (pw_and1 (pt_cmpR (op_eqD hr.units) (pe_call G_l_draw hr rfl T.m_l_draw T.F_l_draw.kp T.b_l_draw .nil pass0 (pa_cons (pv 2) (pa_cons pe_int pa_nil))) pe_int (nomark _)))))
(pss_one (ps_set (i := 5) sc_law.nd rfl (Or.inl rfl) (pe_call G_l_bent hr rfl T.m_l_bent T.F_l_bent.kp T.b_l_bent .nil pass0 (pa_cons (pv 2) (pa_cons (pv 5) pa_nil)))))
pss_nil)
(pss_one (ps_if (pt_cmpR (op_neD hr.units) (pe_call G_check_layout hr rfl T.m_check_layout T.F_check_layout.kp T.b_check_layout .nil pass0 (pa_cons (pv 5) pa_nil)) (pe_call G_l_due hr rfl T.m_l_due T.F_l_due.kp T.b_l_due .nil pass0 (pa_cons (pv 5) pa_nil)) (nomark _))
(pss_one (ps_ret pe_bl))
pss_nil))))))))))
(pss_cons (ps_set (i := 6) sc_law.nd rfl (Or.inl rfl) (pe_tup (pa_cons (pe_tup (pa_cons pe_int (pa_cons pe_str pa_nil))) (pa_cons (pe_tup (pa_cons pe_int (pa_cons pe_int pa_nil))) (pa_cons (pe_tup (pa_cons pe_int (pa_cons pe_str pa_nil))) (pa_cons (pe_tup (pa_cons (pe_un un_neg pe_int) (pa_cons pe_str pa_nil))) pa_nil))))))
(pss_cons (ps_if (pt_cmpR (op_neD hr.units) (pe_call G_check_layout hr rfl T.m_check_layout T.F_check_layout.kp T.b_check_layout .nil pass0 (pa_cons (pe_tup (pa_cons (pe_tup (pa_cons pe_int (pa_cons pe_str pa_nil))) (pa_cons (pe_tup (pa_cons (pe_un un_neg pe_int) (pa_cons pe_str pa_nil))) (pa_cons (pe_tup (pa_cons pe_int (pa_cons pe_int pa_nil))) pa_nil)))) pa_nil)) (pe_tup (pa_cons pe_str (pa_cons pe_int pa_nil))) (nomark _))
(pss_one (ps_ret pe_bl))
pss_nil)
(pss_one (ps_ret (pe_and (pe_cmpR (op_eqD hr.units) (pe_call G_check_layout hr rfl T.m_check_layout T.F_check_layout.kp T.b_check_layout .nil pass0 (pa_cons (pv 6) pa_nil)) (pe_tup (pa_cons pe_str (pa_cons pe_int pa_nil))) (nomark _)) (pe_one (pe_cmpR (op_eqD hr.units) (pe_call G_check_layout hr rfl T.m_check_layout T.F_check_layout.kp T.b_check_layout .nil pass0 (pa_cons (pe_tup (pa_cons (pe_tup (pa_cons pe_int (pa_cons pe_str pa_nil))) (pa_cons (pe_tup (pa_cons pe_int (pa_cons pe_non pa_nil))) pa_nil))) pa_nil)) (pe_tup (pa_cons pe_str (pa_cons pe_int pa_nil))) (nomark _))))))))), ?_⟩
  have hl : (ns.map V.int).length = ns.length := List.length_map _
  refine ⟨_, rfl, _, _, rfl, .inl ⟨_, hS, rfl⟩, _, _, rfl, _, _, rfl, rfl, _, rfl, ?_⟩
  generalize hm : (if (((ns.map V.int).length : Nat) : Int) < 5 then (((ns.map V.int).length : Nat) : Int) else 5) = m
  have m0 : 0 ≤ m ∧ m ≤ 5 := by
    rw [← hm]
    split <;> omega
  clear hm
  refine ⟨by omega, by omega, for_range (lo := 0) (n := (1 + m).toNat) (fun i σ H' => ∃ v1 v2 v3 v4 v5 : Option V, σ = [some (.ref a), v1, v2, v3, v4, v5, none] ∧ Same H H')
    ⟨none, none, none, none, none, rfl, .refl _⟩ ?_ ?_⟩
  · rintro i σ H1 hi ⟨v1, v2, v3, v4, v5, rfl, sH⟩
    refine ⟨_, rfl, _, rfl, a, ns, _, rfl, sH.seq hS, h63, by omega, by omega, fun p o hp pu => ?_⟩
    refine ⟨4, rfl, by decide, by decide, for_range (lo := 0) (n := 4) (fun j σ H' => ∃ v3 v4 v5 : Option V, σ = [some (.ref a), some (.int (0 + (i : Nat))), some (.ref p), v3, v4, v5, none] ∧ Same H1 (hide p H') ∧ PurseAt H' p (900000000 - 50 * j))
      ⟨v3, v4, v5, rfl, same_hid hp, pu⟩ ?_ ?_⟩
    · rintro j σ H2 hj ⟨w3, w4, w5, rfl, s2, pu2⟩
      refine ⟨_, rfl, p, (900000000 - 50 * j) - 20, rfl, pu2.less (by omega), fun H3 v rows s3 pu3 dv g l8 => ?_⟩
      have ff := g.fit l8
      refine ⟨_, rfl, v, _, rfl, Dp.same hide_same dv, (fit_fine ff).weight, fun u1 H4 s4 d4 => ?_⟩
      obtain rfl := check_none d4 g.check
      refine ⟨rfl, _, rfl, iteF ?_⟩
      refine ⟨_, rfl, rfl, rfl, v, _, rfl, Dp.same s4 (Dp.same hide_same dv), (fit_fine ff).weight, fun u2 H5 s5 d5 => ?_⟩
      obtain rfl := check_none d5 g.check
      refine ⟨rfl, _, rfl, iteF ?_⟩
      have s35 : Same (hide p H3) (hide p H5) := Same.hide (s4.trans s5)
      have fin : ∀ (D : Ends) (H8 : Hp) (v3 v4 : V) (u : V) (d : PyData), D.nx = (fun σ H' => ∃ v3 v4 v5 : Option V, σ = [some (.ref a), some (.int (0 + (i : Nat))), some (.ref p), v3, v4, v5, none] ∧ Same H1 (hide p H') ∧ PurseAt H' p (900000000 - 50 * (j + 1))) → Same H1 (hide p H8) → PurseAt H8 p (900000000 - 50 * (j + 1)) → Dp K (hide p H8) u d → Bnt d →
          tIfS (tTest (tOp (rNeD K) (tCall (spCheck K) [] E0 (tCons (tVar 5) tNil)) (tCall (spDue K) [] E0 (tCons (tVar 5) tNil)))) (tRet (tC (.bl false))) tNext
            D
            [some (.ref a), some (.int (0 + (i : Nat))), some (.ref p), some v3, some v4, some u, none] H8 := by
        intro D H8 v3 v4 u d hD s8 pu8 du bd
        refine ⟨_, rfl, u, d, rfl, Dp.same hide_same du, bd.fine.weight, fun r1 H9 s9 d9 => ?_⟩
        refine ⟨_, rfl, u, d, rfl, Dp.same s9 (Dp.same hide_same du), bd.fine, fun r2 H10 s10 d10 => ?_⟩
        refine ⟨_, _, Dp.same s10 d9, d10, check_fine d, check_fine d, _, rfl, ?_⟩
        rw [eqv_same (check_fine d)]
        refine iteF ?_
        show D.nx _ _
        rw [hD]
        exact ⟨_, _, _, rfl, s8.trans (Same.hide (s9.trans s10)), pu8.same (s9.trans s10)⟩
      refine ⟨_, rfl, _, rfl, p, (900000000 - 50 * j) - 23, v, rows, rfl, (pu3.same (s4.trans s5)).less (by omega), Dp.same s35 dv, ff, fun H6 u d s6 pu6 du bd => ?_⟩
      have t6 := s2.trans (s3.trans (s35.trans s6))
      refine ⟨_, rfl, u, d, rfl, Dp.same hide_same du, bd.fine, fun r H7 s7 d7 => ⟨rfl, _, rfl, ?_⟩⟩
      have s7h : Same (hide p H6) (hide p H7) := Same.hide s7
      refine ite2 (fun c => ?_) (fun c => ?_)
      · obtain ⟨rows2, rfl, f2⟩ := bd.fit ((check_some d7).mp c)
        refine ⟨_, rfl, p, 2, (900000000 - 50 * j) - 24, rfl, (pu6.same s7).less (by omega), by decide, by decide, fun H8 e hh pu8 e0 e1 => ?_⟩
        refine ⟨.int _, .int _, .int _, .int _, rfl, rfl, _, rfl, ?_⟩
        rw [eqv_int]
        have s8 := s7h.trans (same_eq hh)
        refine ite2 (fun c2 => ?_) (fun c2 => ?_)
        · refine ⟨_, rfl, _, rfl, p, (900000000 - 50 * j) - 27, u, rows2, rfl, pu8.less (by omega), Dp.same s8 du, f2, fun H9 u9 d9 s9 pu9 du9 bd9 => ?_⟩
          exact fin _ H9 _ _ u9 d9 rfl (t6.trans (s8.trans s9)) (pu9.less (by omega)) du9 bd9
        · exact fin _ H8 _ _ u _ rfl (t6.trans s8) (pu8.less (by omega)) (Dp.same s8 du) bd
      · exact iteF (fin _ H7 _ _ u d rfl (t6.trans s7h) ((pu6.same s7).less (by omega)) (Dp.same s7h du) bd)
    · rintro σ H2 ⟨w3, w4, w5, rfl, s2, pu2⟩
      exact ⟨_, _, _, _, _, rfl, sH.trans (s2.trans hide_same)⟩
  · rintro σ H1 ⟨v1, v2, v3, v4, v5, rfl, sH⟩
    refine ⟨(by show 2 ≤ sizeLine; decide), fun t1 h1 => ⟨(by show 2 ≤ sizeLine; decide), fun t2 h2 => ⟨(by show 2 ≤ sizeLine; decide), fun t3 h3 => ⟨_, rfl, (by show 2 ≤ sizeLine; decide), fun t4 h4 => ⟨(by show 4 ≤ sizeLine; decide), fun t5 h5 => ?_⟩⟩⟩⟩⟩
    have g1 := dp_tup (K := K) h1 (.cons (.int 0) (.cons (.str "a") .nil))
    have g2 := dp_tup (K := K) h2 (.cons (.int 0) (.cons (.int 3) .nil))
    have g3 := dp_tup (K := K) h3 (.cons (.int 1) (.cons (.str "b") .nil))
    have g4 := dp_tup (K := K) h4 (.cons (.int (-1)) (.cons (.str "c") .nil))
    have n2 := same_new (o := .tup [.int 0, .int 3]) h2
    have n3 := same_new (o := .tup [.int 1, .str "b"]) h3
    have n4 := same_new (o := .tup [.int (-1), .str "c"]) h4
    have g5 := dp_tup h5 (.cons (Dp.same (n2.trans (n3.trans n4)) g1) (.cons (Dp.same (n3.trans n4) g2) (.cons (Dp.same n4 g3) (.cons g4 .nil))))
    generalize upd _ t5 _ = H5 at g5 ⊢
    refine ⟨(by show 2 ≤ sizeLine; decide), fun q1 k1 => ⟨_, rfl, (by show 2 ≤ sizeLine; decide), fun q2 k2 => ⟨(by show 2 ≤ sizeLine; decide), fun q3 k3 => ⟨(by show 3 ≤ sizeLine; decide), fun q4 k4 => ?_⟩⟩⟩⟩
    have f1 := dp_tup (K := K) k1 (.cons (.int 0) (.cons (.str "a") .nil))
    have f2 := dp_tup (K := K) k2 (.cons (.int (-1)) (.cons (.str "b") .nil))
    have f3 := dp_tup (K := K) k3 (.cons (.int 0) (.cons (.int 3) .nil))
    have m1 := same_new (o := .tup [.int 0, .str "a"]) k1
    have m2 := same_new (o := .tup [.int (-1), .str "b"]) k2
    have m3 := same_new (o := .tup [.int 0, .int 3]) k3
    have f4 := dp_tup k4 (.cons (Dp.same (m2.trans m3) f1) (.cons (Dp.same m3 f2) (.cons f3 .nil)))
    have m4 := same_new (o := .tup [.ref q1, .ref q2, .ref q3]) k4
    have line1 : SeqAt.shaped (.tuple [.str "line", .int 1]) = true := by decide +kernel
    have c1 : checkD (.tuple [.tuple [.int 0, .str "a"], .tuple [.int (-1), .str "b"], .tuple [.int 0, .int 3]]) = .tuple [.str "line", .int 1] := by kernel_rfl
    have c2 : checkD (.tuple [.tuple [.int 0, .str "a"], .tuple [.int 0, .int 3], .tuple [.int 1, .str "b"], .tuple [.int (-1), .str "c"]]) = .tuple [.str "line", .int 1] := by kernel_rfl
    have c3 : checkD (.tuple [.tuple [.int 1, .str "a"], .tuple [.int 0, .none]]) = .tuple [.str "line", .int 1] := by kernel_rfl
    refine ⟨_, _, rfl, f4, by decide +kernel, fun u1 H6 s6 d6 => ?_⟩
    rw [c1] at d6
    refine ⟨(by show 2 ≤ sizeLine; decide), fun r1 z1 => ?_⟩
    refine ⟨_, _, Dp.same (same_new z1) d6, dp_tup z1 (.cons (.str "line") (.cons (.int 1) .nil)), line1, line1, _, rfl, ?_⟩
    rw [eqv_same line1]
    refine iteF ?_
    have s7 := (m1.trans (m2.trans (m3.trans m4))).trans (s6.trans (same_new (o := .tup [.str "line", .int 1]) z1))
    refine ⟨_, rfl, _, _, rfl, Dp.same s7 g5, by decide +kernel, fun u2 H8 s8 d8 => ?_⟩
    rw [c2] at d8
    refine ⟨(by show 2 ≤ sizeLine; decide), fun r2 z2 => ?_⟩
    refine ⟨_, _, Dp.same (same_new z2) d8, dp_tup z2 (.cons (.str "line") (.cons (.int 1) .nil)), line1, line1, _, rfl, ?_⟩
    rw [eqv_same line1]
    refine iteT ?_
    refine ⟨(by show 2 ≤ sizeLine; decide), fun y1 b1 => ⟨(by show 2 ≤ sizeLine; decide), fun y2 b2 => ⟨(by show 2 ≤ sizeLine; decide), fun y3 b3 => ?_⟩⟩⟩
    have e1 := dp_tup (K := K) b1 (.cons (.int 1) (.cons (.str "a") .nil))
    have e2 := dp_tup (K := K) b2 (.cons (.int 0) (.cons .non .nil))
    refine ⟨_, _, rfl, dp_tup b3 (.cons (Dp.same (same_new b2) e1) (.cons e2 .nil)), by decide +kernel, fun u3 H9 s9 d9 => ?_⟩
    rw [c3] at d9
    refine ⟨(by show 2 ≤ sizeLine; decide), fun r3 z3 => ?_⟩
    refine ⟨_, _, Dp.same (same_new z3) d9, dp_tup z3 (.cons (.str "line") (.cons (.int 1) .nil)), line1, line1, ?_⟩
    rw [eqv_same line1]
    exact hq _
end
end K10

namespace K10
open PySem PySem.Spec PyProof.Rows L2 Vk
section
variable {P : Program} {w : World} {K : PySem.W.Frag} {mg : Str → Option Value} {base : Heap}
theorem main_ok (T : Tx K mg) : FnOk P w K mg base CX0 5 T.a_law T.d_law P_law (spLaw K) := by
  have g_at := ok_at (P := P) (w := w) (base := base) (k := 0) T
  have g_mixed := ok_mixed (P := P) (w := w) (base := base) (k := 0) T
  have g_purse := ok_purse T g_at
  have g_draw := ok_draw T g_mixed
  have g_string := ok_string T g_draw
  have g_layout := ok_layout T (g_draw.mono (by decide)) g_string
  have g_bent := ok_bent T g_draw
  have g_whole := ok_whole (P := P) (w := w) (base := base) (k := 0) T
  have g_plain := ok_plain (P := P) (w := w) (base := base) (k := 0) T
  have g_line := ok_line T g_whole g_plain
  have g_check := ok_check T g_line
  have g_lline := ok_lline (P := P) (w := w) (base := base) (k := 0) T
  have g_due := ok_due T g_lline
  exact ok_law (k := 4) T (g_check.mono (by decide)) (g_due.mono (by decide)) (g_purse.mono (by decide)) (g_layout.mono (by decide)) (g_bent.mono (by decide)) (g_draw.mono (by decide))
end
theorem all_mk {l : PySem.W.OpenLaw} {w : World} {K : PySem.W.Frag} {h : Heap} {mg : Str → Option Value} {fa : Addr} (X : K.In h) (G : h.Ns mainGlobals mg) (hfa : mg "law" = some (.ref fa))
  {a0 : Addr} {od0 an0 : Option Addr} {sl0 : Array (Option Value)} {oc0 kV0 dc0 pm0 cd0 ct0 : Value}
  {a1 : Addr} {od1 an1 : Option Addr} {sl1 : Array (Option Value)} {oc1 kV1 dc1 pm1 cd1 ct1 : Value}
  {a2 : Addr} {od2 an2 : Option Addr} {sl2 : Array (Option Value)} {oc2 kV2 dc2 pm2 cd2 ct2 : Value}
  {a3 : Addr} {od3 an3 : Option Addr} {sl3 : Array (Option Value)} {oc3 kV3 dc3 pm3 cd3 ct3 : Value}
  {a4 : Addr} {od4 an4 : Option Addr} {sl4 : Array (Option Value)} {oc4 kV4 dc4 pm4 cd4 ct4 : Value}
  {a5 : Addr} {od5 an5 : Option Addr} {sl5 : Array (Option Value)} {oc5 kV5 dc5 pm5 cd5 ct5 : Value}
  {a6 : Addr} {od6 an6 : Option Addr} {sl6 : Array (Option Value)} {oc6 kV6 dc6 pm6 cd6 ct6 : Value}
  {a7 : Addr} {od7 an7 : Option Addr} {sl7 : Array (Option Value)} {oc7 kV7 dc7 pm7 cd7 ct7 : Value}
  {a8 : Addr} {od8 an8 : Option Addr} {sl8 : Array (Option Value)} {oc8 kV8 dc8 pm8 cd8 ct8 : Value}
  {a9 : Addr} {od9 an9 : Option Addr} {sl9 : Array (Option Value)} {oc9 kV9 dc9 pm9 cd9 ct9 : Value}
  {a10 : Addr} {od10 an10 : Option Addr} {sl10 : Array (Option Value)} {oc10 kV10 dc10 pm10 cd10 ct10 : Value}
  {a11 : Addr} {od11 an11 : Option Addr} {sl11 : Array (Option Value)} {oc11 kV11 dc11 pm11 cd11 ct11 : Value}
  {a12 : Addr} {od12 an12 : Option Addr} {sl12 : Array (Option Value)} {oc12 kV12 dc12 pm12 cd12 ct12 : Value}
  {a13 : Addr} {od13 an13 : Option Addr} {sl13 : Array (Option Value)} {oc13 kV13 dc13 pm13 cd13 ct13 : Value}
  (p0 : PySem.W.nsIn K mainGlobals "is_whole" = some (some (.ref a0))) (l0 : K.lookup a0 = some ⟨oc0, od0, .func (PySem.W.fnOf "is_whole" "is_whole" (defArgs s_is_whole) (defBody s_is_whole) (defScope s_is_whole) .none kV0 dc0 pm0 an0 cd0 ct0), sl0⟩) (c0 : PySem.W.codeIn K cd0 "is_whole" = true) (k0 : PySem.W.keepIn K (.ref a0) = true)
  (p1 : PySem.W.nsIn K mainGlobals "is_plain" = some (some (.ref a1))) (l1 : K.lookup a1 = some ⟨oc1, od1, .func (PySem.W.fnOf "is_plain" "is_plain" (defArgs s_is_plain) (defBody s_is_plain) (defScope s_is_plain) .none kV1 dc1 pm1 an1 cd1 ct1), sl1⟩) (c1 : PySem.W.codeIn K cd1 "is_plain" = true) (k1 : PySem.W.keepIn K (.ref a1) = true)
  (p2 : PySem.W.nsIn K mainGlobals "check_layout" = some (some (.ref a2))) (l2 : K.lookup a2 = some ⟨oc2, od2, .func (PySem.W.fnOf "check_layout" "check_layout" (defArgs s_check_layout) (defBody s_check_layout) (defScope s_check_layout) .none kV2 dc2 pm2 an2 cd2 ct2), sl2⟩) (c2 : PySem.W.codeIn K cd2 "check_layout" = true) (k2 : PySem.W.keepIn K (.ref a2) = true)
  (p3 : PySem.W.nsIn K mainGlobals "_is_line" = some (some (.ref a3))) (l3 : K.lookup a3 = some ⟨oc3, od3, .func (PySem.W.fnOf "_is_line" "_is_line" (defArgs s_is_line) (defBody s_is_line) (defScope s_is_line) .none kV3 dc3 pm3 an3 cd3 ct3), sl3⟩) (c3 : PySem.W.codeIn K cd3 "_is_line" = true) (k3 : PySem.W.keepIn K (.ref a3) = true)
  (p4 : PySem.W.nsIn K mainGlobals "_law_at" = some (some (.ref a4))) (l4 : K.lookup a4 = some ⟨oc4, od4, .func (PySem.W.fnOf "_law_at" "_law_at" (defArgs s_l_at) (defBody s_l_at) (defScope s_l_at) .none kV4 dc4 pm4 an4 cd4 ct4), sl4⟩) (c4 : PySem.W.codeIn K cd4 "_law_at" = true) (k4 : PySem.W.keepIn K (.ref a4) = true)
  (p5 : PySem.W.nsIn K mainGlobals "_law_mixed" = some (some (.ref a5))) (l5 : K.lookup a5 = some ⟨oc5, od5, .func (PySem.W.fnOf "_law_mixed" "_law_mixed" (defArgs s_l_mixed) (defBody s_l_mixed) (defScope s_l_mixed) .none kV5 dc5 pm5 an5 cd5 ct5), sl5⟩) (c5 : PySem.W.codeIn K cd5 "_law_mixed" = true) (k5 : PySem.W.keepIn K (.ref a5) = true)
  (p6 : PySem.W.nsIn K mainGlobals "_law_purse" = some (some (.ref a6))) (l6 : K.lookup a6 = some ⟨oc6, od6, .func (PySem.W.fnOf "_law_purse" "_law_purse" (defArgs s_l_purse) (defBody s_l_purse) (defScope s_l_purse) .none kV6 dc6 pm6 an6 cd6 ct6), sl6⟩) (c6 : PySem.W.codeIn K cd6 "_law_purse" = true) (k6 : PySem.W.keepIn K (.ref a6) = true)
  (p7 : PySem.W.nsIn K mainGlobals "_law_draw" = some (some (.ref a7))) (l7 : K.lookup a7 = some ⟨oc7, od7, .func (PySem.W.fnOf "_law_draw" "_law_draw" (defArgs s_l_draw) (defBody s_l_draw) (defScope s_l_draw) .none kV7 dc7 pm7 an7 cd7 ct7), sl7⟩) (c7 : PySem.W.codeIn K cd7 "_law_draw" = true) (k7 : PySem.W.keepIn K (.ref a7) = true)
  (p8 : PySem.W.nsIn K mainGlobals "_law_layout" = some (some (.ref a8))) (l8 : K.lookup a8 = some ⟨oc8, od8, .func (PySem.W.fnOf "_law_layout" "_law_layout" (defArgs s_l_layout) (defBody s_l_layout) (defScope s_l_layout) .none kV8 dc8 pm8 an8 cd8 ct8), sl8⟩) (c8 : PySem.W.codeIn K cd8 "_law_layout" = true) (k8 : PySem.W.keepIn K (.ref a8) = true)
  (p9 : PySem.W.nsIn K mainGlobals "_law_string" = some (some (.ref a9))) (l9 : K.lookup a9 = some ⟨oc9, od9, .func (PySem.W.fnOf "_law_string" "_law_string" (defArgs s_l_string) (defBody s_l_string) (defScope s_l_string) .none kV9 dc9 pm9 an9 cd9 ct9), sl9⟩) (c9 : PySem.W.codeIn K cd9 "_law_string" = true) (k9 : PySem.W.keepIn K (.ref a9) = true)
  (p10 : PySem.W.nsIn K mainGlobals "_law_bent" = some (some (.ref a10))) (l10 : K.lookup a10 = some ⟨oc10, od10, .func (PySem.W.fnOf "_law_bent" "_law_bent" (defArgs s_l_bent) (defBody s_l_bent) (defScope s_l_bent) .none kV10 dc10 pm10 an10 cd10 ct10), sl10⟩) (c10 : PySem.W.codeIn K cd10 "_law_bent" = true) (k10 : PySem.W.keepIn K (.ref a10) = true)
  (p11 : PySem.W.nsIn K mainGlobals "_law_line" = some (some (.ref a11))) (l11 : K.lookup a11 = some ⟨oc11, od11, .func (PySem.W.fnOf "_law_line" "_law_line" (defArgs s_l_line) (defBody s_l_line) (defScope s_l_line) .none kV11 dc11 pm11 an11 cd11 ct11), sl11⟩) (c11 : PySem.W.codeIn K cd11 "_law_line" = true) (k11 : PySem.W.keepIn K (.ref a11) = true)
  (p12 : PySem.W.nsIn K mainGlobals "_law_due" = some (some (.ref a12))) (l12 : K.lookup a12 = some ⟨oc12, od12, .func (PySem.W.fnOf "_law_due" "_law_due" (defArgs s_l_due) (defBody s_l_due) (defScope s_l_due) .none kV12 dc12 pm12 an12 cd12 ct12), sl12⟩) (c12 : PySem.W.codeIn K cd12 "_law_due" = true) (k12 : PySem.W.keepIn K (.ref a12) = true)
  (p13 : PySem.W.nsIn K mainGlobals "law" = some (some (.ref a13))) (l13 : K.lookup a13 = some ⟨oc13, od13, .func (PySem.W.fnOf "law" "law" (defArgs s_law) (defBody s_law) (defScope s_law) .none kV13 dc13 pm13 an13 cd13 ct13), sl13⟩) (c13 : PySem.W.codeIn K cd13 "law" = true) (k13 : PySem.W.keepIn K (.ref a13) = true)
  (z_all : PySem.W.nsIn K mainGlobals "all" = some none)
  (z_bool : PySem.W.nsIn K mainGlobals "bool" = some none)
  (z_enumerate : PySem.W.nsIn K mainGlobals "enumerate" = some none)
  (z_int : PySem.W.nsIn K mainGlobals "int" = some none)
  (z_isinstance : PySem.W.nsIn K mainGlobals "isinstance" = some none)
  (z_len : PySem.W.nsIn K mainGlobals "len" = some none)
  (z_list : PySem.W.nsIn K mainGlobals "list" = some none)
  (z_max : PySem.W.nsIn K mainGlobals "max" = some none)
  (z_min : PySem.W.nsIn K mainGlobals "min" = some none)
  (z_range : PySem.W.nsIn K mainGlobals "range" = some none)
  (z_str : PySem.W.nsIn K mainGlobals "str" = some none)
  (z_tuple : PySem.W.nsIn K mainGlobals "tuple" = some none)
  : ∃ fd : FuncData, (∀ (s : Shared) (v : Value), BindsTo s fd ⟨[v], []⟩ [("_law_script", v)]) ∧ ∀ base : Heap, K.In base → base.Ns mainGlobals mg → FnOk l.prog w K mg base CX0 5 fa fd ["_law_script"] (spLaw K) := by
  have e := hfa.symm.trans (PySem.W.mg_of X G p13)
  cases e
  have F0 := fun_mk (st := s_is_whole) l0 c0 k0
  have F1 := fun_mk (st := s_is_plain) l1 c1 k1
  have F2 := fun_mk (st := s_check_layout) l2 c2 k2
  have F3 := fun_mk (st := s_is_line) l3 c3 k3
  have F4 := fun_mk (st := s_l_at) l4 c4 k4
  have F5 := fun_mk (st := s_l_mixed) l5 c5 k5
  have F6 := fun_mk (st := s_l_purse) l6 c6 k6
  have F7 := fun_mk (st := s_l_draw) l7 c7 k7
  have F8 := fun_mk (st := s_l_layout) l8 c8 k8
  have F9 := fun_mk (st := s_l_string) l9 c9 k9
  have F10 := fun_mk (st := s_l_bent) l10 c10 k10
  have F11 := fun_mk (st := s_l_line) l11 c11 k11
  have F12 := fun_mk (st := s_l_due) l12 c12 k12
  have F13 := fun_mk (st := s_law) l13 c13 k13
  let T : Tx K mg := {
    a_is_whole := a0, d_is_whole := _, F_is_whole := F0, m_is_whole := PySem.W.mg_of X G p0
    b_is_whole := F0.binds (ps := ["thing"]) fun _ _ _ _ _ _ us hl => match us, hl with | [_], _ => rfl
    a_is_plain := a1, d_is_plain := _, F_is_plain := F1, m_is_plain := PySem.W.mg_of X G p1
    b_is_plain := F1.binds (ps := ["thing"]) fun _ _ _ _ _ _ us hl => match us, hl with | [_], _ => rfl
    a_check_layout := a2, d_check_layout := _, F_check_layout := F2, m_check_layout := PySem.W.mg_of X G p2
    b_check_layout := F2.binds (ps := ["thing"]) fun _ _ _ _ _ _ us hl => match us, hl with | [_], _ => rfl
    a_is_line := a3, d_is_line := _, F_is_line := F3, m_is_line := PySem.W.mg_of X G p3
    b_is_line := F3.binds (ps := ["thing"]) fun _ _ _ _ _ _ us hl => match us, hl with | [_], _ => rfl
    a_l_at := a4, d_l_at := _, F_l_at := F4, m_l_at := PySem.W.mg_of X G p4
    b_l_at := F4.binds (ps := ["_law_script", "_law_k"]) fun _ _ _ _ _ _ us hl => match us, hl with | [_, _], _ => rfl
    a_l_mixed := a5, d_l_mixed := _, F_l_mixed := F5, m_l_mixed := PySem.W.mg_of X G p5
    b_l_mixed := F5.binds (ps := ["_law_cell", "_law_k"]) fun _ _ _ _ _ _ us hl => match us, hl with | [_, _], _ => rfl
    a_l_purse := a6, d_l_purse := _, F_l_purse := F6, m_l_purse := PySem.W.mg_of X G p6
    b_l_purse := F6.binds (ps := ["_law_script", "_law_at_here"]) fun _ _ _ _ _ _ us hl => match us, hl with | [_, _], _ => rfl
    a_l_draw := a7, d_l_draw := _, F_l_draw := F7, m_l_draw := PySem.W.mg_of X G p7
    b_l_draw := F7.binds (ps := ["_law_purse_here", "_law_out_of"]) fun _ _ _ _ _ _ us hl => match us, hl with | [_, _], _ => rfl
    a_l_layout := a8, d_l_layout := _, F_l_layout := F8, m_l_layout := PySem.W.mg_of X G p8
    b_l_layout := F8.binds (ps := ["_law_purse_here"]) fun _ _ _ _ _ _ us hl => match us, hl with | [_], _ => rfl
    a_l_string := a9, d_l_string := _, F_l_string := F9, m_l_string := PySem.W.mg_of X G p9
    b_l_string := F9.binds (ps := ["_law_purse_here"]) fun _ _ _ _ _ _ us hl => match us, hl with | [_], _ => rfl
    a_l_bent := a10, d_l_bent := _, F_l_bent := F10, m_l_bent := PySem.W.mg_of X G p10
    b_l_bent := F10.binds (ps := ["_law_purse_here", "_law_layout_here"]) fun _ _ _ _ _ _ us hl => match us, hl with | [_, _], _ => rfl
    a_l_line := a11, d_l_line := _, F_l_line := F11, m_l_line := PySem.W.mg_of X G p11
    b_l_line := F11.binds (ps := ["_law_row"]) fun _ _ _ _ _ _ us hl => match us, hl with | [_], _ => rfl
    a_l_due := a12, d_l_due := _, F_l_due := F12, m_l_due := PySem.W.mg_of X G p12
    b_l_due := F12.binds (ps := ["_law_item"]) fun _ _ _ _ _ _ us hl => match us, hl with | [_], _ => rfl
    a_law := fa, d_law := _, F_law := F13, m_law := PySem.W.mg_of X G p13
    b_law := F13.binds (ps := ["_law_script"]) fun _ _ _ _ _ _ us hl => match us, hl with | [_], _ => rfl
    z_all := PySem.W.mg_none_of X G z_all
    z_bool := PySem.W.mg_none_of X G z_bool
    z_enumerate := PySem.W.mg_none_of X G z_enumerate
    z_int := PySem.W.mg_none_of X G z_int
    z_isinstance := PySem.W.mg_none_of X G z_isinstance
    z_len := PySem.W.mg_none_of X G z_len
    z_list := PySem.W.mg_none_of X G z_list
    z_max := PySem.W.mg_none_of X G z_max
    z_min := PySem.W.mg_none_of X G z_min
    z_range := PySem.W.mg_none_of X G z_range
    z_str := PySem.W.mg_none_of X G z_str
    z_tuple := PySem.W.mg_none_of X G z_tuple
    kb_check_layout_thing := kb_of F2 fun _ _ _ _ _ _ us hl => match us, hl with | [_], _ => rfl
  }
  exact ⟨T.d_law, fun s v => .of_eq rfl, fun base _ _ => main_ok T⟩
theorem walk {l : PySem.W.OpenLaw} {q : Program} {loose : List Str} {XP : (Str → Option Value) → Heap → Prop} {YP : World → Heap → Prop} {d : DefRec} {K : Params → PySem.W.Frag} (hn : l.most = some 63) (hdf : d.params.defaults = [])
    (hY : ∀ (w : World) (h : Heap), YP w h → (K w.params).In h)
    (F : ∀ (w : World) (mg : Str → Option Value) (fa : Addr) (h : Heap), (K w.params).In h → h.Ns mainGlobals mg → mg d.name = some (.ref fa) →
      ∃ fd : FuncData, (∀ (s : Shared) (u : Value), BindsTo s fd ⟨[u], []⟩ [("_law_script", u)]) ∧ ∀ base : Heap, (K w.params).In base → base.Ns mainGlobals mg → FnOk l.prog w (K w.params) mg base CX0 5 fa fd ["_law_script"] (spLaw (K w.params))) :
    PySem.W.WalkO q loose XP YP l.row.toRowW d [] (fun f vs => PySem.call f vs) :=
  L2.walk_of (n := 63) (k := 5) (x := "_law_script") (CX := fun _ => CX0) (sp := fun w => spLaw (K w.params)) hn (by decide) hdf ⟨rfl, by decide, by decide⟩ hY F (fun _ _ a ns hl _ hS => ⟨a, ns, rfl, hS, hl, fun _ => rfl⟩) fun _ _ _ _ _ z => z
end K10
open PySem PySem.W PyProof.Rows in
set_option maxRecDepth 100000 in
set_option maxHeartbeats 0 in
theorem PySem.Challenge.cw_layoutsets_k10_layouts_checked_holds : PySem.Challenge.rw_layoutsets_k10_layouts_checked.Holds := by
  w_on; o_law; k_head; (case hw => w_witness2)
  k_fill
  refine K10.walk (l := PySem.Challenge.rw_layoutsets_k10_layouts_checked) rfl rfl (fun w h Y => PySem.W.kIn_of Y) ?F
  case F =>
    intro w mg fa h KX G hmg
    refine' K10.all_mk KX G hmg ?p0 ?l0 ?c0 ?k0 ?p1 ?l1 ?c1 ?k1 ?p2 ?l2 ?c2 ?k2 ?p3 ?l3 ?c3 ?k3 ?p4 ?l4 ?c4 ?k4 ?p5 ?l5 ?c5 ?k5 ?p6 ?l6 ?c6 ?k6 ?p7 ?l7 ?c7 ?k7 ?p8 ?l8 ?c8 ?k8 ?p9 ?l9 ?c9 ?k9 ?p10 ?l10 ?c10 ?k10 ?p11 ?l11 ?c11 ?k11 ?p12 ?l12 ?c12 ?k12 ?p13 ?l13 ?c13 ?k13 ?z_all ?z_bool ?z_enumerate ?z_int ?z_isinstance ?z_len ?z_list ?z_max ?z_min ?z_range ?z_str ?z_tuple
    (case p0 => k_is)
    (case l0 => k_is)
    (case c0 => k_is)
    (case k0 => k_is)
    (case p1 => k_is)
    (case l1 => k_is)
    (case c1 => k_is)
    (case k1 => k_is)
    (case p2 => k_is)
    (case l2 => k_is)
    (case c2 => k_is)
    (case k2 => k_is)
    (case p3 => k_is)
    (case l3 => k_is)
    (case c3 => k_is)
    (case k3 => k_is)
    (case p4 => k_is)
    (case l4 => k_is)
    (case c4 => k_is)
    (case k4 => k_is)
    (case p5 => k_is)
    (case l5 => k_is)
    (case c5 => k_is)
    (case k5 => k_is)
    (case p6 => k_is)
    (case l6 => k_is)
    (case c6 => k_is)
    (case k6 => k_is)
    (case p7 => k_is)
    (case l7 => k_is)
    (case c7 => k_is)
    (case k7 => k_is)
    (case p8 => k_is)
    (case l8 => k_is)
    (case c8 => k_is)
    (case k8 => k_is)
    (case p9 => k_is)
    (case l9 => k_is)
    (case c9 => k_is)
    (case k9 => k_is)
    (case p10 => k_is)
    (case l10 => k_is)
    (case c10 => k_is)
    (case k10 => k_is)
    (case p11 => k_is)
    (case l11 => k_is)
    (case c11 => k_is)
    (case k11 => k_is)
    (case p12 => k_is)
    (case l12 => k_is)
    (case c12 => k_is)
    (case k12 => k_is)
    (case p13 => k_is)
    (case l13 => k_is)
    (case c13 => k_is)
    (case k13 => k_is)
    (case z_all => k_is)
    (case z_bool => k_is)
    (case z_enumerate => k_is)
    (case z_int => k_is)
    (case z_isinstance => k_is)
    (case z_len => k_is)
    (case z_list => k_is)
    (case z_max => k_is)
    (case z_min => k_is)
    (case z_range => k_is)
    (case z_str => k_is)
    (case z_tuple => k_is)
