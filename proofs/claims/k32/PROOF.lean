import PyProof.Rows.All
import Wide.All
import OpenK.AllK
import Wide.FinOn
import HandS.ForMost
import HandS.IsInst
import HandS.TupAny
import HandS.Walk
import HandS.Wide
import KE.GoesEnum
import HandS.Defaults
import KE.KIsAll
import KE.KExcIs
import KE.KTryMore
import HandS.Base
import HandS.Call
import HandS.Exc
import HandS.ExcField
import HandS.ExcIs
import HandS.CallSlots
import HandS.ExcInit
import HandS.WordsExc
import HandS.MakeKwOnly
import PyProof.StrOps2
import HandS.SetFor
import HandS.Set
import KE.LtData
import KE.DataMinMax
import OpenK.KMeth
import HandS.Property
import HandS.Iter
import HandS.DictComp
import HandS.Conv
import HandS.ListItems
import HandS.ExcOwn
import HandS.Small
import HandS.Star
import HandS.WideBits
import HandS.TryOnly
import HandS.Zip
import HandS.Style
import HandS.Codes
import HandS.Text
import PySem.Challenge.RW_layoutsets_k32_best_layouts_of_long_text
set_option Elab.async false
set_option linter.all false
set_option maxRecDepth 100000
set_option maxHeartbeats 4000000
namespace Vk
open PySem PySem.Spec PyProof.Rows L2

abbrev enumObj (i : Addr) : Obj :=
  { cls := .type "enumerate", data := .fields #[.none, .bool false, .ref i, rawInt 0, .none, .none] }
/-! ### enumerate of one thing that begins as a new iterator -/
theorem enum_one {v : Value} {o : Obj} {G : Heap → Prop} (B : Begins v o G) :
    Meets (Builtin.«enumerate.__new__» ⟨[.type "enumerate", v], []⟩)
      (fun _ R s => G s.heap ∧
        R (.ok (.ret (.ref (s.heap.push o).objs.size)))
          { s with heap := (s.heap.push o).push (enumObj s.heap.objs.size) }) :=
  .of_wp fun prog w A R s h => by
    obtain ⟨hp, gs, dd, tk, os⟩ := s
    obtain ⟨hG, hR⟩ := h
    have sub := sub_enumerate
    have go : ∀ {A' : Around} {E Q : Value → Shared → Prop},
        Q (.ref hp.objs.size) ⟨hp.push o, gs, dd, tk, os⟩ →
        wpAny (model prog w) A' (pyIter v) Q E ⟨hp, gs, dd, tk, os⟩ :=
      fun q => B.iter prog w _ _ ⟨hp, gs, dd, tk, os⟩ _ hG q
    wp_walk using go
    refine wpAny_stack_any fun _ => wpAny_pure ?_
    split
    · rename_i c _ _ _ _ _
      cases (c == Value.type "enumerate") <;> wp_walk using go <;> exact ⟨_, rfl, hR⟩
    · wp_walk using go
      exact ⟨_, rfl, hR⟩
section
variable {prog : Program} {w : World} {A : Around} {E : Value → Shared → Prop} {s : Shared}
theorem enum_call {v : Value} {o : Obj} {G : Heap → Prop} {Q : Value → Shared → Prop}
    (B : Begins v o G) (hG : G s.heap)
    (h : ∀ h', IsEnum h' (s.heap.objs.size + 1) s.heap.objs.size 0 .none → h'.get? s.heap.objs.size = some o →
      (∀ b u, s.heap.get? b = some u → h'.get? b = some u) →
      Q (.ref (s.heap.objs.size + 1)) { s with heap := h' }) :
    wpAny (model prog w) A (call (.type "enumerate") [v]) Q E s := by
  refine callType_new F.called_enumerate (by decide) (F.typeCall_enumerate_1 _) (F.newCall_enumerate_1 _)
    (fun obj => F.args_object_init_2 obj _) F.entry_enumerate_new (enum_one B) ⟨hG, ?_⟩
  have sz : (s.heap.push o).objs.size = s.heap.objs.size + 1 := Heap.size_push ..
  show _ ∧ _
  rw [sz]
  generalize hk : (s.heap.push o).push (enumObj s.heap.objs.size) = k
  have e1 : IsEnum k (s.heap.objs.size + 1) s.heap.objs.size 0 .none := by
    rw [← hk, ← sz]
    exact Heap.get?_push_size (s.heap.push o) rfl
  have e2 : k.get? s.heap.objs.size = some o := by
    rw [← hk]
    exact Heap.get?_push_of_some _ (Heap.get?_push_size _ B.free)
  have e3 : ∀ b u, s.heap.get? b = some u → k.get? b = some u := fun b u q => by
    rw [← hk]
    exact Heap.get?_push_of_some _ (Heap.get?_push_of_some _ q)
  exact ⟨⟨_, e1, rfl⟩, h k e1 e2 e3⟩
end
end Vk

namespace Vk
open PySem PySem.Spec PyProof.Rows L2

/-- enumerate over the tuple at a: at each turn a new pair of the number and the item -/
def EnT (K : PySem.W.Frag) (a : Addr) : It where
  go i H := ∃ (xs : List V) (x : V), SqT K H a xs ∧ xs[i]? = some x
  yld i H v H' := ∃ (T : Addr) (x : V), v = .ref T ∧ H T = none ∧ H' = upd H T (.tup [.int (i : Nat), x]) ∧
    ∀ xs, SqT K H a xs → xs[i]? = some x
  stop i H := ∃ xs : List V, SqT K H a xs ∧ xs.length ≤ i

theorem enT_turn {P : Program} {w : World} {K : PySem.W.Frag} {es : List Expr} {kk : Nat} {tp : Pos} (a e it : Addr) :
    Turn P w K (.Tuple es kk tp) (EnT K a) [e, it] e
      (fun i h => (∃ old, IsEnum h e it ((i : Nat) : Int) old) ∧ h.IsTupleIter it a i ∧ e ≠ it) where
  mem := by simp
  obj := by
    rintro i h ⟨⟨old, he⟩, ⟨o, ho, hc, hd⟩, _⟩ b hb
    rcases (by simpa using hb : b = e ∨ b = it) with rfl | rfl
    · exact ⟨_, he, fun v q => nomatch q⟩
    · exact ⟨o, ho, fun v q => by rw [hd] at q; cases q⟩
  keep := by
    rintro i h h' ⟨⟨old, he⟩, hi, hne⟩ k
    exact ⟨⟨old, k e (by simp) _ he⟩, hi.at fun o q => k it (by simp) o q, hne⟩
  item := by
    rintro X rfl rfl rfl hc i pins s σ H E I hf ⟨⟨old, he⟩, hit, hne⟩ ⟨xs, x, hq, hx⟩
    obtain ⟨its, rv, p, hz⟩ := I.tuple hq
    have pT : s.heap.IsTuple a its.toArray := p
    have hel := Heap.lt_size he
    have hil : it < s.heap.objs.size := let ⟨_, q, _⟩ := hit; Heap.lt_size q
    have nae : e ≠ a := by
      rintro rfl
      obtain ⟨o, q, c, _⟩ := p
      rw [he] at q
      cases q
      injection c with c
      exact absurd c (by decide)
    have nai : a ≠ it := by
      rintro rfl
      obtain ⟨o, q, c, _⟩ := p
      obtain ⟨o2, q2, c2, _⟩ := hit
      rw [q] at q2
      cases q2
      rw [c] at c2
      injection c2 with c2
      exact absurd c2 (by decide)
    have D := Draws.tuple (prog := X.prog) (w := X.w) (A := X.A.in1) (I.ok.hd hc) it a nai its.toArray
    have lt : i < its.toArray.size := by
      have l1 := rv.length
      have l2 := (List.getElem?_eq_some_iff.mp hx).1
      simp only [List.size_toArray]
      omega
    refine wpAny_pyNext_enum_itemD D he ⟨hit, pT⟩ lt hne (by simp [nae, hne]) fun u h1 tk hu ho st1 hT hsz hk => ?_
    obtain ⟨u', hu', ru⟩ := rv.get hx
    obtain rfl : u' = u := by
      have e1 : its[i]? = some u := by simpa using hu
      exact Option.some.inj (hu'.symm.trans e1)
    refine ⟨_, rfl, wpAny_letOwnedTupleGo_enum (s := { s with heap := h1, toks := tk + 1 }) ho fun h2 he2 sb => ?_⟩
    have hT2 := (sb.2 _ (Nat.ne_of_gt hel)).trans hT
    have fresh : H s.heap.objs.size = none := I.hok.fresh (Nat.le_refl _)
    have new : ObjOk X.prog X.w (upd H s.heap.objs.size (.tup [.int (i : Nat), x])) h2 s.heap.objs.size
        (.tup [.int (i : Nat), x]) :=
      ⟨by show 2 ≤ sizeLine; decide, _, .cons ⟨_, rfl⟩ (.cons ru .nil), ⟨_, hT2, rfl, _, rfl⟩⟩
    have I1 := I.turnedNew (t' := tk + 1) (ch := [e, it]) (fun b ob hb q =>
      (sb.2 b (fun z => hb (by simp [z]))).trans
        (hk b ob (fun z => hb (by simp [z])) (fun z => hb (by simp [z])) q)) hf (Nat.le_refl _) new
    refine ⟨.ref s.heap.objs.size, _, I1, rfl, ⟨_, x, rfl, fresh, rfl, fun ys hy => ?_⟩, ⟨⟨u', ?_⟩, ?_, hne⟩, fun b hb => ?_⟩
    · rw [I.tuple_inj hy hq]
      exact hx
    · rw [show ((i + 1 : Nat) : Int) = (i : Int) + 1 by omega]
      exact he2
    · exact st1.1.at fun o q => (sb.2 it (Ne.symm hne)).trans q
    · have lb : b < s.heap.objs.size := by
        rcases (by simpa using hb : b = e ∨ b = it) with rfl | rfl
        · exact hel
        · exact hil
      rw [upd_ne (Nat.ne_of_lt lb)]
      exact (hf b hb).1
  done := by
    rintro X rfl rfl rfl hc i pins s σ H E I hf ⟨⟨old, he⟩, hit, hne⟩ ⟨xs, hq, hx⟩
    obtain ⟨its, rv, p, hz⟩ := I.tuple hq
    have pT : s.heap.IsTuple a its.toArray := p
    have nai : a ≠ it := by
      rintro rfl
      obtain ⟨o, q, c, _⟩ := p
      obtain ⟨o2, q2, c2, _⟩ := hit
      rw [q] at q2
      cases q2
      rw [c] at c2
      injection c2 with c2
      exact absurd c2 (by decide)
    have T : s.TypeIs (.ref e) "enumerate" := ⟨_, he, rfl⟩
    obtain ⟨f0, f1, f2, f3, f4, f5⟩ := hf it (by simp)
    have past : its.toArray[i]? = none := by
      have l1 := rv.length
      simp
      omega
    unfold pyNext
    refine wpAny_bind (wpAny_attempt (wpAny_callSpecial?_slot (name := Str.ofString "__next__") T F.slot_enumerate_next
      (wpAny_call_entry F.slot_enumerate_next T F.entry_enumerate_next ?_ (F.args_enumerate_next_1 _))))
    show wpAny _ _ (field (.ref e) 2 >>= _) _ _ _
    refine wpAny_bind (wpAny_field he rfl (x := .ref it) rfl ?_)
    refine wpAny_bind (wpAny_nextOf_tuple_end (I.ok.hd hc) hit pT past fun h' x eb hs => ?_)
    obtain ⟨o, ho, hc2⟩ := hs
    refine wpAny_bind (wpAny_isInstance (T := "StopIteration") (b := true) ⟨o, ho, hc2⟩ isSubtype_stop ?_)
    exact wpAny_pure ⟨rfl, I.turned (t' := s.toks) (fun b o hb q => eb b o hb q) f0 f1 f3 f4 f5⟩
  self := fun A i s Q E st h => wpAny_pyIter_enum st.1.choose_spec h
def iEnT (K : PySem.W.Frag) (ta : TA) : TI := fun σ H R => ta σ H fun vs H1 =>
  ∃ (a : Addr) (xs : List V), vs = [.ref a] ∧ SqT K H1 a xs ∧ R (EnT K a) H1
theorem pi_enT {X : Cx} {e : Expr} {ta : TA} {p pos tp : Pos} {es : List Expr} {kk : Nat}
    (hg : Gl X "enumerate") (hm : X.mg "enumerate" = none) (ha : PA X [e] ta)
    (hs : starEach [e] X.env = [(false, eval e X.env)] := by rfl) :
    PI X (.Tuple es kk tp) (.Call (.Name "enumerate" p) [e] [] pos) (iEnT X.K ta) := by
  refine ⟨fun pins s σ H R I h => ?_⟩
  refine Call_ (ld_blt I hg hm boot_enumerate (PyProof.Rows.callWith_type1
    (thn (ha.run pos pins s σ H _ I h) fun us s1 ⟨vs, H1, I1, r1, q1⟩ => ?_) hs rfl))
  obtain ⟨a, xs, rfl, hq, q⟩ := q1
  cases r1 with
  | cons r rr =>
    cases rr
    cases r
    obtain ⟨its, rv, p', hz⟩ := I1.tuple hq
    refine enum_call (begins_tuple a its.toArray) p' fun h' he hit hk => wpAny_pyIter_enum he ?_
    refine ⟨s1.heap.objs.size + 1, [s1.heap.objs.size + 1, s1.heap.objs.size], _, _, H1, rfl,
      I1.kept (t' := s1.toks) hk, enT_turn a (s1.heap.objs.size + 1) s1.heap.objs.size,
      ⟨⟨.none, he⟩, ⟨_, hit, rfl, rfl⟩, Nat.succ_ne_self _⟩, fun b hb => ?_, q⟩
    have lb : s1.heap.objs.size ≤ b := by
      rcases (by simpa using hb : b = s1.heap.objs.size + 1 ∨ b = s1.heap.objs.size) with rfl | rfl
      · exact Nat.le_add_right _ _
      · exact Nat.le_refl _
    exact I1.fpOk lb (I1.hok.fresh lb)
theorem walk_enT {K : PySem.W.Frag} {a : Addr} {xs : List V} : Walk (EnT K a) xs.length (fun H => SqT K H a xs)
    (YPair (fun i => some (.int (i : Nat))) (fun i => xs[i]?)) where
  goes i _ hi q := ⟨xs, xs[i], q, by simp [hi]⟩
  stops _ q := ⟨xs, q, Nat.le_refl _⟩
  yields i H v H' _ q y := let ⟨T, x, h1, h2, h3, h4⟩ := y; ⟨T, .int (i : Nat), x, h1, h2, h3, rfl, h4 xs q⟩
end Vk

namespace Vk
open PySem PySem.Spec PyProof.Rows L2

/-! ### a power of a great base -/
def CPowW (i j : Int) : Prop := 0 ≤ j ∧ ((i.natAbs.log2 : Int) + 1) * j ≤ 1000000
theorem op_powW {X : Cx} : OpR X (binaryOp .Pow) (rI CPowW fun i j => .int (i ^ j.toNat)) :=
  opI fun i j _ _ _ _ _ hc q => pow_int hc.1 (by
    have b : ((Builtin.Int.intBits i : Nat) : Int) ≤ (i.natAbs.log2 : Int) + 1 := by
      unfold Builtin.Int.intBits
      split <;> omega
    have m := Int.mul_le_mul_of_nonneg_right b hc.1
    have c := hc.2
    omega) q

/-! ### f(k = v): keywords alone -/
section
variable {X : Cx} {CX : CXT} {k : Nat} {f : Addr} {fd : FuncData} {ps ks : List Str} {sp : Sp} {E : XK} {x : Str}
  {p pos : Pos} {kws : List Keyword} {tk : TA} {g : List Value → List Value → List Value} {gV : List V → List V → List V}
theorem pe_callK0 (F : FnOk X.prog X.w X.K X.mg X.base CX k f fd ps sp) (hr : Room k X.A) (hg : Gl X x)
    (hm : X.mg x = some (.ref f)) (hk : PySem.W.keepIn X.K (.ref f) = true) (hb : KBn X.K fd ps 0 ks g gV)
    (hx : Passes CX X E) (hkw : PK X kws tk)
    (hall : (backToKw pos (keywordEach kws X.env)).all (·.1.isSome) = true := by rfl)
    (hks : (backToKw pos (keywordEach kws X.env)).filterMap (·.1) = ks := by rfl)
    (hdb : (x == ("__debug__" : Str)) = false := by decide)
    (hpl : ((backTo pos (starEach [] X.env)).any (·.1) ||
      (backToKw pos (keywordEach kws X.env)).any (·.1.isNone)) = false := by rfl) :
    PE X (.Call (.Name x p) [] kws pos) (tCallN 0 ks.length sp gV E tNil tk) := by
  refine ⟨fun pins s σ H Q I h => wpAny_Call_Name_kw (ld_glob I hg hm ?_ hdb)⟩
  refine PySem.W.callWith_KW0 (h₀ := X.base) I.ok.mod.kin hk hall ?_ hpl
  refine thn (hkw.run pos pins s σ H _ I h) fun ws s2 ⟨zs, H2, I2, rz, l1, l2, q2⟩ => ⟨I2.kIn, ?_⟩
  rw [hks]
  exact run_fnN (us := []) F hr hb hx I2 .nil rz l1 l2 q2
end
/-- every parameter by its name, in the parameters' order -/
theorem kb_of {K : PySem.W.Frag} {x qual : Str} {st : Stmt} {f : Addr} {fd : FuncData} {ps ks : List Str}
    (F : Fun K x qual st f fd)
    (h : ∀ (kV doc pm : Value) (an : Option Addr) (cdv ct : Value) (ws : List Value), ws.length = ks.length →
      bindArgs (PySem.W.fnOf x qual (defArgs st) (defBody st) (defScope st) .none kV doc pm an cdv ct)
        ⟨[], ks.zip ws⟩ = pure (ps.zip ws)) :
    KBn K fd ps 0 ks (fun _ ws => ws) (fun _ zs => zs) where
  to := by
    obtain ⟨oc, od, kV, doc, pm, an, cdv, ct, osl, rfl, lk, hcd⟩ := F.ex
    intro s us ws X l1 l2
    obtain rfl : us = [] := List.length_eq_zero_iff.mp l1
    exact .of_eq (h kV doc pm an cdv ct ws l2)
  rel := fun _ r => r

/-! ### the heap without one object -/
def hide (p : Addr) (H : Hp) : Hp := fun b => if b = p then none else H b
theorem hide_ne {p b : Addr} {H : Hp} (h : b ≠ p) : hide p H b = H b := if_neg h
theorem hide_at {p : Addr} {H : Hp} : hide p H p = none := if_pos rfl
theorem hide_upd {p : Addr} {H : Hp} {o : HO} : hide p (upd H p o) = hide p H := by
  funext b
  unfold hide upd
  by_cases h : b = p
  · rw [if_pos h, if_pos h]
  · rw [if_neg h, if_neg h, if_neg h]
theorem hide_out {p q : Addr} {H : Hp} {o : HO} (h : q ≠ p) : hide p (upd H q o) = upd (hide p H) q o := by
  funext b
  by_cases h1 : b = p
  · subst h1
    rw [hide_at, upd_ne (Ne.symm h), hide_at]
  · rw [hide_ne h1]
    by_cases h2 : b = q
    · subst h2
      rw [upd_same, upd_same]
    · rw [upd_ne h2, upd_ne h2, hide_ne h1]
theorem hide_same {p : Addr} {H : Hp} : Same (hide p H) H := fun b o e => by
  by_cases h : b = p
  · rw [h, hide_at] at e
    cases e
  · rwa [hide_ne h] at e
theorem Same.hide {p : Addr} {H H' : Hp} (s : Same H H') : Same (hide p H) (hide p H') := fun b o e => by
  by_cases h : b = p
  · rw [h, hide_at] at e
    cases e
  · rw [hide_ne h] at e ⊢
    exact s _ _ e
theorem same_new {H : Hp} {p : Addr} {o : HO} (h : H p = none) : Same H (upd H p o) := fun b u e => by
  rw [upd_ne (ne_of_none e h)]
  exact e

/-! ### data -/
theorem Same.seqT {K : PySem.W.Frag} {H H' : Hp} {a : Addr} {xs : List V} (e : Same H H') (h : SqT K H a xs) : SqT K H' a xs := by
  rcases h with (h | ⟨o, h⟩) | h
  · exact .inl (.inl (e _ _ h))
  · exact .inl (.inr ⟨o, e _ _ h⟩)
  · exact .inr h
mutual
theorem Dp.same {K : PySem.W.Frag} {H H' : Hp} (s : Same H H') : ∀ {v : V} {d : PyData}, Dp K H v d → Dp K H' v d
  | _, _, .non => .non
  | _, _, .bl b => .bl b
  | _, _, .int i => .int i
  | _, _, .str x => .str x
  | _, _, .lst h a => .lst (s.seq h) (DpAll.same s a)
  | _, _, .tup h a => .tup (Same.seqT s h) (DpAll.same s a)
theorem DpAll.same {K : PySem.W.Frag} {H H' : Hp} (s : Same H H') : ∀ {vs : List V} {ds : List PyData}, DpAll K H vs ds → DpAll K H' vs ds
  | _, _, .nil => .nil
  | _, _, .cons h t => .cons (Dp.same s h) (DpAll.same s t)
end
theorem DpAll.length {K : PySem.W.Frag} {H : Hp} : ∀ {vs : List V} {ds : List PyData}, DpAll K H vs ds → vs.length = ds.length
  | _, _, .nil => rfl
  | _, _, .cons _ t => congrArg Nat.succ (DpAll.length t)
theorem DpAll.get {K : PySem.W.Frag} {H : Hp} : ∀ {vs : List V} {ds : List PyData} {i : Nat} {d : PyData}, DpAll K H vs ds →
    ds[i]? = some d → ∃ v, vs[i]? = some v ∧ Dp K H v d
  | _, _, _, _, .nil, e => by simp at e
  | _, _, 0, _, .cons h _, e => by
    simp at e
    subst e
    exact ⟨_, rfl, h⟩
  | _, _, i + 1, _, .cons _ t, e => by
    obtain ⟨v, h1, h2⟩ := DpAll.get (i := i) t (by simpa using e)
    exact ⟨v, by simpa using h1, h2⟩
theorem DpAll.append {K : PySem.W.Frag} {H : Hp} : ∀ {vs ws : List V} {ds es : List PyData}, DpAll K H vs ds → DpAll K H ws es →
    DpAll K H (vs ++ ws) (ds ++ es)
  | _, _, _, _, .nil, h => h
  | _, _, _, _, .cons h t, h2 => .cons h (DpAll.append t h2)
theorem DpAll.take {K : PySem.W.Frag} {H : Hp} : ∀ {vs : List V} {ds : List PyData} (n : Nat), DpAll K H vs ds → DpAll K H (vs.take n) (ds.take n)
  | _, _, 0, _ => .nil
  | _, _, _ + 1, .nil => .nil
  | _, _, n + 1, .cons h t => .cons h (DpAll.take n t)
theorem DpAll.drop {K : PySem.W.Frag} {H : Hp} : ∀ {vs : List V} {ds : List PyData} (n : Nat), DpAll K H vs ds → DpAll K H (vs.drop n) (ds.drop n)
  | _, _, 0, h => h
  | _, _, _ + 1, .nil => .nil
  | _, _, n + 1, .cons h t => DpAll.drop n t
/-- a tuple of data -/
theorem Dp.ofTup {K : PySem.W.Frag} {H : Hp} {v : V} {ds : List PyData} (h : Dp K H v (.tuple ds)) :
    ∃ a xs, v = .ref a ∧ SqT K H a xs ∧ DpAll K H xs ds := by
  cases h with
  | tup h a => exact ⟨_, _, rfl, h, a⟩
theorem Dp.ofLst {K : PySem.W.Frag} {H : Hp} {v : V} {ds : List PyData} (h : Dp K H v (.list ds)) :
    ∃ a xs, v = .ref a ∧ SqL K H a xs ∧ DpAll K H xs ds := by
  cases h with
  | lst h a => exact ⟨_, _, rfl, h, a⟩
theorem Dp.ofInt {K : PySem.W.Frag} {H : Hp} {v : V} {i : Int} (h : Dp K H v (.int i)) : v = .int i := by cases h; rfl
theorem Dp.ofStr {K : PySem.W.Frag} {H : Hp} {v : V} {x : Str} (h : Dp K H v (.str x)) : v = .str x := by cases h; rfl
theorem Dp.ofBl {K : PySem.W.Frag} {H : Hp} {v : V} {b : Bool} (h : Dp K H v (.bool b)) : v = .bl b := by cases h; rfl
theorem Dp.ofNon {K : PySem.W.Frag} {H : Hp} {v : V} (h : Dp K H v .none) : v = .non := by cases h; rfl

/-! ### isinstance of data -/
def tyName : PyData → String
  | .none => "NoneType" | .bool _ => "bool" | .int _ => "int" | .str _ => "str"
  | .list _ => "list" | .tuple _ => "tuple" | .dict _ => "dict"
theorem dp_ty {K : PySem.W.Frag} {H : Hp} {v : V} {d : PyData} (h : Dp K H v d) : TyX K H v (.type (tyName d)) := by
  cases h with
  | non => exact .base .non
  | bl b => exact .base (.bl b)
  | int i => exact .base (.int i)
  | str x => exact .base (.str x)
  | lst h a =>
    rcases h with (h | ⟨o, h⟩) | ⟨o, its, n, h, c, _⟩
    · exact .base (.lst h)
    · exact .base (.frz h)
    · exact .kList h c
  | tup h a =>
    rcases h with (h | ⟨o, h⟩) | ⟨o, its, n, h, c, _⟩
    · exact .base (.tup h)
    · exact .fTuple h
    · exact .kTuple h c
def isInt : PyData → Bool
  | .int _ | .bool _ => true
  | _ => false
def isBool : PyData → Bool
  | .bool _ => true
  | _ => false
def isStr : PyData → Bool
  | .str _ => true
  | _ => false
def isTup : PyData → Bool
  | .tuple _ => true
  | _ => false
section
variable {K : PySem.W.Frag}
theorem kit_int : ∀ d : PyData, PySem.W.kitOne K (.type (tyName d)) (.type "int") = some (isInt d)
  | .none => kit_ty (show kitB "NoneType" "int" = some false by decide +kernel)
  | .bool _ => kit_ty (show kitB "bool" "int" = some true by decide +kernel)
  | .int _ => kit_ty (show kitB "int" "int" = some true by decide +kernel)
  | .str _ => kit_ty (show kitB "str" "int" = some false by decide +kernel)
  | .list _ => kit_ty (show kitB "list" "int" = some false by decide +kernel)
  | .tuple _ => kit_ty (show kitB "tuple" "int" = some false by decide +kernel)
  | .dict _ => kit_ty (show kitB "dict" "int" = some false by decide +kernel)
theorem kit_bool : ∀ d : PyData, PySem.W.kitOne K (.type (tyName d)) (.type "bool") = some (isBool d)
  | .none => kit_ty (show kitB "NoneType" "bool" = some false by decide +kernel)
  | .bool _ => kit_ty (show kitB "bool" "bool" = some true by decide +kernel)
  | .int _ => kit_ty (show kitB "int" "bool" = some false by decide +kernel)
  | .str _ => kit_ty (show kitB "str" "bool" = some false by decide +kernel)
  | .list _ => kit_ty (show kitB "list" "bool" = some false by decide +kernel)
  | .tuple _ => kit_ty (show kitB "tuple" "bool" = some false by decide +kernel)
  | .dict _ => kit_ty (show kitB "dict" "bool" = some false by decide +kernel)
theorem kit_str : ∀ d : PyData, PySem.W.kitOne K (.type (tyName d)) (.type "str") = some (isStr d)
  | .none => kit_ty (show kitB "NoneType" "str" = some false by decide +kernel)
  | .bool _ => kit_ty (show kitB "bool" "str" = some false by decide +kernel)
  | .int _ => kit_ty (show kitB "int" "str" = some false by decide +kernel)
  | .str _ => kit_ty (show kitB "str" "str" = some true by decide +kernel)
  | .list _ => kit_ty (show kitB "list" "str" = some false by decide +kernel)
  | .tuple _ => kit_ty (show kitB "tuple" "str" = some false by decide +kernel)
  | .dict _ => kit_ty (show kitB "dict" "str" = some false by decide +kernel)
theorem kit_tup : ∀ d : PyData, PySem.W.kitOne K (.type (tyName d)) (.type "tuple") = some (isTup d)
  | .none => kit_ty (show kitB "NoneType" "tuple" = some false by decide +kernel)
  | .bool _ => kit_ty (show kitB "bool" "tuple" = some false by decide +kernel)
  | .int _ => kit_ty (show kitB "int" "tuple" = some false by decide +kernel)
  | .str _ => kit_ty (show kitB "str" "tuple" = some false by decide +kernel)
  | .list _ => kit_ty (show kitB "list" "tuple" = some false by decide +kernel)
  | .tuple _ => kit_ty (show kitB "tuple" "tuple" = some true by decide +kernel)
  | .dict _ => kit_ty (show kitB "dict" "tuple" = some false by decide +kernel)
end

/-! ### the purse: three ints, n more draws -/
def PurseAt (H : Hp) (p : Addr) (n : Nat) : Prop :=
  ∃ a b c : Int, H p = some (.lst [.int a, .int b, .int c]) ∧ 0 ≤ b ∧ b < 2147483647 ∧ 0 ≤ c ∧ c + n ≤ 1000000000
theorem PurseAt.less {H : Hp} {p : Addr} {n m : Nat} (h : PurseAt H p n) (k : m ≤ n) : PurseAt H p m :=
  let ⟨a, b, c, e, h1, h2, h3, h4⟩ := h
  ⟨a, b, c, e, h1, h2, h3, by omega⟩
theorem PurseAt.same {H H' : Hp} {p : Addr} {n : Nat} (h : PurseAt H p n) (s : Same H H') : PurseAt H' p n :=
  let ⟨a, b, c, e, r⟩ := h
  ⟨a, b, c, s _ _ e, r⟩
theorem PurseAt.some {H : Hp} {p : Addr} {n : Nat} (h : PurseAt H p n) : ∃ xs, H p = some (.lst xs) :=
  let ⟨_, _, _, e, _⟩ := h
  ⟨_, e⟩
theorem PurseAt.ne {H : Hp} {p q : Addr} {n : Nat} (h : PurseAt H p n) (k : H q = none) : p ≠ q :=
  let ⟨_, e⟩ := h.some
  ne_of_none e k
end Vk

namespace Vk
open PySem PySem.Spec PyProof.Rows L2
/-! ### data beside the purse -/
theorem same_hid {p : Addr} {H : Hp} {o : HO} (h : H p = none) : Same H (hide p (upd H p o)) := fun b u e => by
  have ne : b ≠ p := ne_of_none e h
  rw [hide_ne ne, upd_ne ne]
  exact e
theorem dp_tup {K : PySem.W.Frag} {H : Hp} {r : Addr} {xs : List V} {ds : List PyData} (hr : H r = none) (hd : DpAll K H xs ds) :
    Dp K (upd H r (.tup xs)) (.ref r) (.tuple ds) := .tup (.of upd_same) (DpAll.same (same_new hr) hd)
theorem hide_get {p b : Addr} {H H' : Hp} (h : hide p H' = hide p H) (ne : b ≠ p) : H' b = H b := by
  rw [← hide_ne (H := H') ne, h, hide_ne ne]
theorem same_eq {p : Addr} {H H' : Hp} (h : hide p H' = hide p H) : Same (hide p H) (hide p H') := by
  rw [h]
  exact .refl _
theorem atI_in {xs : List V} {i : Int} (h0 : 0 ≤ i) (h1 : i < (xs.length : Int)) : ∃ v, atI xs i = some v ∧ v ∈ xs := by
  have hi : i.toNat < xs.length := by omega
  exact ⟨xs[i.toNat], at_of (j := i.toNat) (by omega) (by simp [hi]), List.getElem_mem hi⟩
theorem DpAll.mem {K : PySem.W.Frag} {H : Hp} : ∀ {vs : List V} {ds : List PyData} {v : V}, DpAll K H vs ds → v ∈ vs → ∃ d, d ∈ ds ∧ Dp K H v d
  | _, _, _, .nil, h => by cases h
  | _, _, v, .cons a t, h => by
    rcases List.mem_cons.mp h with rfl | h
    · exact ⟨_, List.mem_cons_self .., a⟩
    · obtain ⟨d, h1, h2⟩ := DpAll.mem t h
      exact ⟨d, List.mem_cons_of_mem _ h1, h2⟩
section
variable {K : PySem.W.Frag} {p : Addr} {n : Nat} {H : Hp} {Q : VK}
theorem hide_new {r : Addr} {o : HO} (pu : PurseAt H p n) (hr : H r = none) : hide p (upd H r o) r = some o := by
  rw [hide_ne (pu.ne hr).symm, upd_same]
theorem tup_new {r : Addr} {xs : List V} {ds : List PyData} (pu : PurseAt H p n) (hr : H r = none) (hd : DpAll K (hide p H) xs ds) :
    Dp K (hide p (upd H r (.tup xs))) (.ref r) (.tuple ds) := .tup (.of (hide_new pu hr)) (DpAll.same (Same.hide (same_new hr)) hd)
theorem lst_new {r : Addr} {xs : List V} {ds : List PyData} (pu : PurseAt H p n) (hr : H r = none) (hd : DpAll K (hide p H) xs ds) :
    Dp K (hide p (upd H r (.lst xs))) (.ref r) (.list ds) := .lst (.of (hide_new pu hr)) (DpAll.same (Same.hide (same_new hr)) hd)
theorem PurseAt.new {r : Addr} {o : HO} (pu : PurseAt H p n) (hr : H r = none) : PurseAt (upd H r o) p n := pu.same (same_new hr)
theorem hs_new {r : Addr} {o : HO} (hr : H r = none) : Same (hide p H) (hide p (upd H r o)) := Same.hide (same_new hr)
theorem catH {v u : V} {ds es : List PyData} (pu : PurseAt H p n) (hx : Dp K (hide p H) v (.tuple ds)) (hy : Dp K (hide p H) u (.tuple es)) (hl : ds.length + es.length ≤ 1000)
    (q : ∀ (r : V) (H' : Hp), Same (hide p H) (hide p H') → PurseAt H' p n → Dp K (hide p H') r (.tuple (ds ++ es)) → Q r H') : rCatA K v u H Q := by
  obtain ⟨a, xs, rfl, sx, ax⟩ := Dp.ofTup hx
  obtain ⟨b, ys, rfl, sy, ay⟩ := Dp.ofTup hy
  have lx := DpAll.length ax
  have ly := DpAll.length ay
  refine ⟨a, b, xs, ys, rfl, rfl, Same.seqT hide_same sx, Same.seqT hide_same sy, Nat.le_trans (m := 1000) (by omega) (by decide), fun e => ?_, fun _ e => ?_, fun _ _ r hr => ?_⟩
  · obtain rfl : ds = [] := List.length_eq_zero_iff.mp (by rw [← lx, e]; rfl)
    exact q _ _ (.refl _) pu hy
  · obtain rfl : es = [] := List.length_eq_zero_iff.mp (by rw [← ly, e]; rfl)
    rw [List.append_nil] at q
    exact q _ _ (.refl _) pu hx
  · exact q _ _ (hs_new hr) (pu.new hr) (tup_new pu hr (DpAll.append ax ay))
/-- an item of a list just laid, at a drawn place -/
theorem pickH {H2 : Hp} {l : Addr} {vs : List V} {ds : List PyData} {i : Int} (pu : PurseAt H p n) (hl : H l = none) (hh : hide p H2 = hide p (upd H l (.lst vs)))
    (h0 : 0 ≤ i) (h1 : i < (vs.length : Int)) (hv : DpAll K (hide p H) vs ds) (q : ∀ (v : V) (d : PyData), d ∈ ds → Dp K (hide p H2) v d → Q v H2) : rIxL K (.ref l) (.int i) H2 Q := by
  obtain ⟨v, e1, e2⟩ := atI_in h0 h1
  obtain ⟨d, d1, d2⟩ := DpAll.mem hv e2
  exact ⟨l, _, i, _, rfl, rfl, .of ((hide_get hh (pu.ne hl).symm).trans upd_same), e1, q v d d1 (Dp.same ((hs_new hl).trans (same_eq hh)) d2)⟩
/-- t[:i] -/
theorem headH {v : V} {ds : List PyData} {i : Nat} (pu : PurseAt H p n) (hx : Dp K (hide p H) v (.tuple ds)) (hi : i < ds.length)
    (q : ∀ (r : V) (H' : Hp), Same (hide p H) (hide p H') → PurseAt H' p n → Dp K (hide p H') r (.tuple (ds.take i)) → Q r H') : rSlA K v none (some (i : Int)) H Q := by
  obtain ⟨a, xs, rfl, sx, ax⟩ := Dp.ofTup hx
  have lx := DpAll.length ax
  have e : HT.sIx xs.length xs.length (some ((i : Nat) : Int)) = i := by rw [HT.sIx_nat]; omega
  refine ⟨a, xs, rfl, Same.seqT hide_same sx, fun h => ?_, fun _ r hr => ?_⟩
  · have h2 := h.2
    rw [e] at h2
    omega
  · refine q _ _ (hs_new hr) (pu.new hr) ?_
    have c : cutV xs none (some ((i : Nat) : Int)) = xs.take i := by
      unfold cutV
      rw [e, HT.sIx_none]
      rfl
    rw [c]
    exact tup_new pu hr (DpAll.take i ax)
/-- t[i:], 0 < i -/
theorem tailH {v : V} {ds : List PyData} {i : Nat} {z : Int} (hz : z = (i : Int)) (pu : PurseAt H p n) (hx : Dp K (hide p H) v (.tuple ds)) (h0 : 0 < i) (hi : i ≤ ds.length)
    (q : ∀ (r : V) (H' : Hp), Same (hide p H) (hide p H') → PurseAt H' p n → Dp K (hide p H') r (.tuple (ds.drop i)) → Q r H') : rSlA K v (some z) none H Q := by
  subst hz
  obtain ⟨a, xs, rfl, sx, ax⟩ := Dp.ofTup hx
  have lx := DpAll.length ax
  have e : HT.sIx xs.length 0 (some ((i : Nat) : Int)) = i := by rw [HT.sIx_nat]; omega
  refine ⟨a, xs, rfl, Same.seqT hide_same sx, fun h => ?_, fun _ r hr => ?_⟩
  · have h2 := h.1
    rw [e] at h2
    omega
  · refine q _ _ (hs_new hr) (pu.new hr) ?_
    have c : cutV xs (some ((i : Nat) : Int)) none = xs.drop i := by
      unfold cutV
      rw [e, HT.sIx_none]
      exact List.take_of_length_le (by rw [List.length_drop]; omega)
    rw [c]
    exact tup_new pu hr (DpAll.drop i ax)
/-- t[i] of a tuple of data -/
theorem itemH {v : V} {ds : List PyData} {d : PyData} {z : Int} {i : Nat} (hx : Dp K (hide p H) v (.tuple ds)) (hz : z = (i : Int)) (hd : ds[i]? = some d)
    (q : ∀ u : V, Dp K (hide p H) u d → Q u H) : rIxT K v (.int z) H Q := by
  obtain ⟨a, xs, rfl, sx, ax⟩ := Dp.ofTup hx
  obtain ⟨u, h1, h2⟩ := DpAll.get ax hd
  exact ⟨a, xs, z, u, rfl, rfl, Same.seqT hide_same sx, at_of hz h1, q u h2⟩
end
end Vk

/-! a caught exception that outlives its suite: kept as an object that is tracked. ps_try_asK, pe_xfK and call_isK go the way of ps_try_as, pe_xf and call_isE of the hand layer (HandS.Exc, ExcField, ExcIs); what is new is the tracking (CE, Inv.track) and that they ask it of the heap, not of a pin -/
namespace Vk
open PySem PySem.Spec PyProof.Rows L2

/-- at a: an exception of the class cls with the dict d -/
def CE (cls : Value) (d : Option Addr) (a : Addr) : HO := .ext fun h => ∃ (oe : Obj) (vs : Array Value), h.get? a = some oe ∧ Zc cls d oe ∧ oe.data = .fields vs
theorem cE_ok {P : Program} {w : World} {H : Hp} {h : Heap} {a : Addr} {cls : Value} {d : Option Addr} {oe : Obj} {vs : Array Value} (e : h.get? a = some oe) (z : Zc cls d oe) (q : oe.data = .fields vs) : ObjOk P w H h a (CE cls d a) :=
  ⟨⟨oe, vs, e, z, q⟩, ⟨oe, e⟩, fun _ _ ⟨o, v, q, r⟩ k => ⟨o, v, k o q, r⟩⟩
theorem cE_at {P : Program} {w : World} {H : Hp} {h : Heap} {a : Addr} {cls : Value} {d : Option Addr} (hok : HOk P w H h) (he : H a = some (CE cls d a)) : ∃ (oe : Obj) (vs : Array Value), h.get? a = some oe ∧ Zc cls d oe ∧ oe.data = .fields vs := by
  have x : ObjOk P w H h a (.ext fun h => ∃ (oe : Obj) (vs : Array Value), h.get? a = some oe ∧ Zc cls d oe ∧ oe.data = .fields vs) := hok a _ he
  exact x.1

section
variable {X : Cx} {pins : List (Addr × Obj)} {σ : L2.St} {H : Hp} {s : Shared}
/-- what stands untracked, and is new since the entry, may be tracked -/
theorem Inv.track {a : Addr} {o : HO} (I : Inv X pins σ H s) (hn : H a = none) (new : ObjOk X.prog X.w (upd H a o) s.heap a o) (n0 : X.s_0.heap.get? a = none)
    (nL : a ≠ X.env.locals) (nC : ∀ x c, X.env.cells.lookup x = some c → c ≠ a) (np : ∀ p ∈ X.pn ++ pins, p.1 ≠ a) (nt : ∀ b xs, X.H_0 b = some (.tup xs) → b ≠ a) :
    Inv X pins σ (upd H a o) s := by
  have ne0 : ∀ b u, X.s_0.heap.get? b = some u → b ≠ a := fun b u e z => by
    rw [z, n0] at e
    cases e
  refine ⟨I.ok, I.os, I.bare, ⟨I.base.keep, I.base.slot, fun b u e n hx => ?_, I.base.there, fun b xs e => ?_, fun b u v e => ?_, fun b ps e => ?_⟩, I.loc, I.cell, ?_, fun x c e => ?_, fun p hp => ?_, fun b u e => ?_, I.len⟩
  · rw [upd_ne (ne0 b u e)]
    exact I.base.free b u e n hx
  · have q := I.base.tups b xs e
    rw [upd_ne (ne_of_none q hn)]
    exact q
  · have q := I.base.frzs b u v e
    rw [upd_ne (ne_of_none q hn)]
    exact q
  · obtain ⟨m, q⟩ := I.base.tbls b ps e
    exact ⟨m, by rw [upd_ne (ne_of_none q hn)]; exact q⟩
  · rw [upd_ne (Ne.symm nL)]
    exact I.free
  · rw [upd_ne (nC x c e)]
    exact I.freeC x c e
  · obtain ⟨e, n, ne, nf, d⟩ := I.pin p hp
    exact ⟨e, by rw [upd_ne (np p hp)]; exact n, ne, nf, d⟩
  · by_cases hb : b = a
    · subst hb
      rw [upd_same] at e
      cases e
      exact new
    · rw [upd_ne hb] at e
      exact (I.hok b u e).stay (fun c v _ q => q) (fun c q => by rw [upd_ne (ne_of_none q hn)]; exact q) fun c xs q => by rw [upd_ne (ne_of_none q hn)]; exact q
end

/-- what the clause 'except x as n' wishes of an exception of the body, where the exception is kept behind the suite -/
def wAsK (K : PySem.W.Frag) (c : Value) (i : Nat) (ts : Addr → Value → Option Addr → TS) (Wout : WX) (D : Ends) : WX := fun cls d σ H =>
  ∃ b, PySem.W.exmOne K cls c = some b ∧ (b = true → ∀ a, H a = none → ts a cls d { nx := fun σ' H' => D.nx (σ'.set i none) (upd H' a (CE cls d a)), rt := fun v H' => D.rt v (upd H' a (CE cls d a)), bk := fun σ' H' => D.bk (σ'.set i none) (upd H' a (CE cls d a)), ct := fun σ' H' => D.ct (σ'.set i none) (upd H' a (CE cls d a)) } (σ.set i (some (.ref a))) H) ∧
    (b = false → Wout cls d σ H)

section
variable {X : Cx} {x n : Str} {c : Value} {i : Nat} {body suite : List Stmt} {b₀ : Stmt} {np pos pos' : Pos} {tb : WX → TS} {ts : Addr → Value → Option Addr → TS} {Wout : WX}
theorem ps_try_asK (hs : X.stack = X.env :: X.outer) (hf : X.env.frame = some X.env.locals) (hN : X.N.Nodup) (hi : X.N[i]? = some n) (hln : X.env.kindOf n = some .local) (hc : Names X x c) (tk : Takes X Wout) (hex : X.ex = [])
    (hb : ∀ (W : WX) (pn : List (Addr × Obj)) (xe : Value → Shared → Prop), Takes (X.tr pn xe) W → PassesOwn (model X.prog X.w) X.A X.env xe → PSs (X.tr pn xe) body (tb W))
    (hsu : ∀ (a : Addr) (oe : Obj) (cls : Value) (d : Option Addr) (pn : List (Addr × Obj)), Zc cls d oe → (∃ vs, oe.data = .fields vs) → PSs (X.suite a ((a, oe) :: pn)) (b₀ :: suite) (ts a cls d)) :
    PS X (.Try body [.ExceptHandler (some (.Name x np)) (some n) (b₀ :: suite) pos'] [] [] pos) (fun D σ H => tb (wAsK X.K c i ts Wout D) D σ H) := by
  refine ⟨fun pins s σ H D I h => ?_⟩
  have ok := I.ok
  have hfr : X.A.frames = some (X.env :: X.outer) := by rw [ok.frames, hs]
  have hloc : Loc X.env.scope n := .inl hln
  refine wpAny_Try_except ?_
  refine wpAny_mono ((hb (wAsK X.K c i ts Wout D) (X.pn ++ pins) (fun e s₁ => wpAny (model X.prog X.w) X.A (noteFrame e X.env) (fun _ s₂ => wpAny (model X.prog X.w) X.A (setFlight e none) (fun _ s₃ =>
    wpAny (model X.prog X.w) X.A (handleBy e X.env [.ExceptHandler (some (.Name x np)) (some n) (b₀ :: suite) pos']) (SP X pins D) X.xe s₃) X.xe s₂) X.xe s₁) (fun u s' xx => ?_) PassesOwn.looking).run [] s σ H D (I.toTry _) h) (fun f s1 hsp => ?_) (fun e s1 he => he)
  · -- the catch
    obtain ⟨a, B, sI, pins', σ', H', cls, d, rfl, J', nb, up, sky, na, os, ag, b, hb1, hyes, hno⟩ := xx
    have J : Inv X pins σ' H' sI := J'.ofTry ok
    have sky' : Sky B (X.env :: X.outer) a (Zc cls d) X.env.locals s'.heap := by rw [← hs]; exact sky
    show wpAny (model X.prog X.w) X.A (noteFrame (.ref a) X.env) _ _ _
    refine Sky.land Zc.steady hfr hf sky' fun h3 fl3 up3 => ?_
    have J3 : Inv X pins σ' H' { s' with heap := h3 } := J.landed nb fl3.1 (up.trans up3) os ag
    obtain ⟨oe3, vs3, he3, hz3, hd3⟩ := fl3.there
    have notFr : ∀ {h : Heap} {o : Obj} {vs : Array Value}, h.FunFrames B (X.env :: X.outer) → h.get? a = some o → o.data = .fields vs → a ∉ frs (X.env :: X.outer) := fun {h o vs} ff e dd hm => by
      obtain ⟨_, o', e', hnf⟩ := ff.mem hm
      rw [e] at e'; cases e'
      exact hnf _ dd
    have nfr := notFr fl3.2.2.1 he3 hd3
    have nL : a ≠ X.env.locals := fun z => nfr (List.mem_filterMap.mpr ⟨X.env, List.mem_cons_self, by rw [hf, z]⟩)
    have nF : a ∉ X.fs := fun hm => by
      obtain ⟨e, he, q⟩ := List.mem_filterMap.mp hm
      exact nfr (List.mem_filterMap.mpr ⟨e, List.mem_cons_of_mem _ he, q⟩)
    have hsI : sI.heap.get? a = none := by
      cases e : sI.heap.get? a with
      | none => rfl
      | some o =>
        have z := nb a o e (by rw [hs]; exact nfr)
        rw [fl3.2.1] at z
        cases z
    have n0 : X.s_0.heap.get? a = none := by
      cases e : X.s_0.heap.get? a with
      | none => rfl
      | some o =>
        obtain ⟨o', z⟩ := J.base.there a o e (by rw [hex]; exact fun z => nomatch z)
        rw [hsI] at z
        cases z
    have nC : ∀ y k, X.env.cells.lookup y = some k → k ≠ a := fun y k e z => by
      obtain ⟨v, o, ho, _⟩ := J.cell y k e
      rw [z, hsI] at ho
      cases ho
    have np' : ∀ p ∈ X.pn ++ pins, p.1 ≠ a := fun p hp z => by
      obtain ⟨e, _⟩ := J.pin p hp
      rw [z, hsI] at e
      cases e
    have nt : ∀ k xs, X.H_0 k = some (.tup xs) → k ≠ a := fun k xs e z => by
      have q := J.base.tups k xs e
      rw [z, na] at q
      cases q
    have S3 := J3.suite he3 hd3 na nL nF
    refine wpAny_handleBy_cons (codeAny_handlers_test ?_) (by intro q; cases q)
    have LT : PySem.W.Looks (model X.prog X.w) h3 (typeOf (.ref a)) cls := fun A Q E s k q => wpAny_typeOf_ref (k _ _ he3) (by rw [hz3.1]; exact q)
    have LM := PySem.W.exm_one (M := model X.prog X.w) (J3.kIn) LT hb1
    have test : ∀ {Q : Value → Shared → Prop} {E : Value → Shared → Prop}, Q c { s' with heap := h3 } → wpAny (model X.prog X.w) (X.A.mark (some (.ref a))) (eval (.Name x np) X.env) Q E { s' with heap := h3 } := fun {Q E} q => by
      obtain ⟨hg, hdbg, hm | ⟨hm, hv, hnn⟩⟩ := hc
      · exact ld_glob (X := X.suite a ((a, oe3) :: (X.pn ++ pins))) S3 hg hm q hdbg
      · exact ld_blt (X := X.suite a ((a, oe3) :: (X.pn ++ pins))) S3 hg hm hv q hnn hdbg
    refine test (LM.here ?_)
    cases b with
    | true =>
      refine codeAny_handlers_suite_as ?_
      refine HandSPX.lands_againZ fl3 fun h4 fl4 up4 => ?_
      have J4 : Inv X pins σ' H' { s' with heap := h4 } := J.landed nb fl4.1 ((up.trans up3).trans up4) os ag
      obtain ⟨oe4, vs4, he4, hz4, hd4⟩ := fl4.there
      have S4 := J4.suite he4 hd4 na nL nF
      refine store_ok (X := X.suite a ((a, oe4) :: (X.pn ++ pins))) (v := .ref a) S4 hN hi hloc rfl (fun s5 S5 => ?_) (.inr hln)
      refine wpAny_mono ((hsu a oe4 cls d (X.pn ++ pins) hz4 ⟨_, hd4⟩).run [] s5 _ H' _ S5 (hyes rfl a na)) (fun f s6 hsp => ?_) (fun _ _ z => False.elim z)
      have tr : ∀ {σ6 : L2.St} {H6 : Hp} {s6 : Shared}, Inv (X.suite a ((a, oe4) :: (X.pn ++ pins))) [] σ6 H6 s6 → Inv X pins σ6 (upd H6 a (CE cls d a)) s6 := fun {σ6 H6 s6} S6 => by
        obtain ⟨e6, n6, _⟩ := S6.pin (a, oe4) (List.mem_append_left _ List.mem_cons_self)
        exact Inv.track (S6.unsuite ok) n6 (cE_ok e6 hz4 hd4) n0 nL nC np' nt
      have end_ : ∀ {σ6 : L2.St} {H6 : Hp} {Q : Shared → Prop}, Inv (X.suite a ((a, oe4) :: (X.pn ++ pins))) [] σ6 H6 s6 → (∀ s7, Inv X pins (σ6.set i none) (upd H6 a (CE cls d a)) s7 → Q s7) →
          wpAny (model X.prog X.w) X.A (do bindName X.env n .none; unbindBehindTheSuite X.env n pos') (fun _ s7 => Q s7) X.xe s6 := fun {σ6 H6 Q} S6 hq => gone_ok (tr S6) hN hi hln hq
      cases f with
      | next =>
        obtain ⟨σ6, H6, S6, q6⟩ := hsp
        exact end_ S6 fun s7 J7 => ⟨_, _, J7, q6⟩
      | brk =>
        obtain ⟨σ6, H6, S6, q6⟩ := hsp
        exact end_ S6 fun s7 J7 => ⟨_, _, J7, q6⟩
      | cont =>
        obtain ⟨σ6, H6, S6, q6⟩ := hsp
        exact end_ S6 fun s7 J7 => ⟨_, _, J7, q6⟩
      | ret u =>
        obtain ⟨v6, σ6, H6, S6, r6, q6⟩ := hsp
        exact end_ S6 fun s7 J7 => ⟨_, _, _, J7, r6, q6⟩
    | false =>
      show wpAny _ X.A (handleBy (.ref a) X.env []) _ _ _
      refine wpAny_handleBy_nil ?_
      obtain ⟨k1, k2, k3, oe, vs, T, oT, ts', he, hz, hd, h1, hr⟩ := id fl3
      unfold PySem.passOn
      refine wpAny_bind (wpAny_field he hd h1 ?_)
      rw [if_neg (show ¬ ((Value.ref T == Value.none) = true) from by simp)]
      have fin : wpAny (model X.prog X.w) X.A (setFlight (.ref a) X.env.frame) (fun _ s4 => wpAny (model X.prog X.w) X.A (throw (.ref a) : Sem Flow) (SP X pins D) X.xe s4) X.xe { s' with heap := h3 } := by
        rw [hf]
        refine HandSPX.setFlight_upZ fl3 fun h4 hh4 up4 => wpAny_throw (tk _ _ ?_)
        exact ⟨a, B, sI, pins, σ', H', cls, d, rfl, J, nb, (up.trans up3).trans up4, .inr (.inr (by rw [hs]; exact hh4)), na, os, ag, hno rfl⟩
      first
        | exact wpAny_bind (wpAny_pure (wpAny_bind fin))
        | exact wpAny_bind fin
  · cases f with
    | next =>
      obtain ⟨σ', H', J', q⟩ := hsp
      exact wpAny_execs_nil ⟨σ', H', J'.ofTry ok, q⟩
    | brk =>
      obtain ⟨σ', H', J', q⟩ := hsp
      exact ⟨σ', H', J'.ofTry ok, q⟩
    | cont =>
      obtain ⟨σ', H', J', q⟩ := hsp
      exact ⟨σ', H', J'.ofTry ok, q⟩
    | ret u =>
      obtain ⟨v, σ', H', J', r, q⟩ := hsp
      exact ⟨v, σ', H', J'.ofTry ok, r, q⟩
end

/-! ### what is asked of a kept exception -/
/-- e.f -/
def tXfK (C : Addr) (f : Str) (te : TE) : TE := fun σ H Q => te σ H fun x H1 => ∃ (a dd : Addr) (fs : List (Str × V)) (v : V), x = .ref a ∧ H1 a = some (CE (.ref C) (some dd) a) ∧ H1 dd = some (.xd fs) ∧ fs.lookup f = some v ∧ Q v H1
theorem pe_xfK {X : Cx} {C : Addr} {e : Expr} {te : TE} {pos : Pos} {n : Str} (T : XfC X.K C) (hno : PySem.W.findIn X.K (.ref C) n = some none) (he : PE X e te) (hb : attributeBase e n X.env (eval e X.env) = eval e X.env := by rfl) :
    PE X (.Attribute e n pos) (tXfK C n te) := by
  refine ⟨fun pins s σ H Q I h => ?_⟩
  refine attr_of hb (thn (he.run pins s σ H _ I h) fun u s1 hh => ?_)
  obtain ⟨x, H1, I1, rx, a, dd, fs, v, ex, ce, ea, l, q⟩ := hh
  subst ex
  obtain rfl : u = Value.ref a := rx
  obtain ⟨oe, vs, ha, hz, hd⟩ := cE_at I1.hok ce
  have hx : ObjOk X.prog X.w H1 s1.heap dd (.xd fs) := I1.hok dd _ ea
  obtain ⟨mA, hns, hr⟩ := hx
  obtain ⟨od, ho, hl⟩ := lookIn_ns hns
  obtain ⟨u, hu, ru⟩ := RelO.some_of (v := v) (o := mA n) (by rw [← l]; exact hr n)
  have J : PySem.W.InstAt s1.heap a oe C (some od) := ⟨ha, hz.1, by unfold PySem.W.notCls; rw [hd] <;> rfl, by rw [hz.2]; exact ho⟩
  exact HandSPX.exc_get I1.kIn J T.ga T.gg T.exC (PySem.W.findObj_own T.hdC hno rfl (by rw [hl, hu])) (handed_of ru) ⟨v, H1, I1.tok _, ru, q⟩
/-- isinstance(e, c) -/
def rIsK (K : PySem.W.Frag) : List V → Hp → VK → Prop := fun xs H Q => ∃ (a D dd : Addr) (fs : List (Str × V)) (c : V) (cv : Value) (b : Bool), xs = [.ref a, c] ∧ H a = some (CE (.ref D) (some dd) a) ∧ H dd = some (.xd fs) ∧ ExcC K D ∧ (∀ u, RelV c u → u = cv) ∧ PySem.W.kitOne K (.ref D) cv = some b ∧ Q (.bl b) H
theorem call_isK {X : Cx} : CallR X (.builtin "isinstance") (rIsK X.K) := by
  intro pins s σ H xs us Q I r h
  obtain ⟨a, D, dd, fs, c, cv, b, rfl, ce, ea, C, hcv, e, q⟩ := h
  cases r with
  | cons rx rr =>
    cases rr with
    | cons rt rr =>
      cases rr
      cases rx
      have ec := hcv _ rt
      subst ec
      obtain ⟨oe, vs, hget, hz, hv⟩ := cE_at I.hok ce
      have hx : ObjOk X.prog X.w H s.heap dd (.xd fs) := I.hok dd _ ea
      obtain ⟨mA, hns, hr⟩ := hx
      obtain ⟨od, ho, hl⟩ := lookIn_ns hns
      have J : PySem.W.InstAt s.heap a oe D (some od) := ⟨hget, hz.1, by unfold PySem.W.notCls; rw [hv] <;> rfl, by rw [hz.2]; exact ho⟩
      have hcl : (PySem.W.clsIn X.K D).isSome = true := by
        obtain ⟨cd, hc, _⟩ := PySem.W.any_some C.hd
        rw [hc]
        rfl
      exact PySem.W.kia_one (PySem.W.kitx_exc hcl C.hg C.hk C.hs C.ha C.hn C.ht C.hm) I.kIn J e (fun z => nomatch z) fun tk => ⟨.bl b, H, I.kept (t' := tk) fun _ _ z => z, rfl, q⟩
end Vk

/-! calls by keyword whose error is wished for at the caller's slots -/
namespace Vk
open PySem PySem.Spec PyProof.Rows L2
def tCallNS (n m : Nat) (sp : Sp) (gV : List V → List V → List V) (E : L2.St → XK) (t tk : TA) : TE := fun σ H Q => t σ H fun vs H1 => tk σ H1 fun zs H2 => vs.length = n ∧ zs.length = m ∧ sp (gV vs zs) H2 Q (E σ)
section
variable {X : Cx} {CX : CXT} {k n : Nat} {f : Addr} {fd : FuncData} {ps ks : List Str} {sp : Sp} {E : L2.St → XK} {x : Str} {p pos : Pos} {e : Expr} {es : List Expr} {kws : List Keyword} {t tk : TA} {g : List Value → List Value → List Value} {gV : List V → List V → List V}
theorem run_fnNS {pins : List (Addr × Obj)} {σ : L2.St} {H : Hp} {s : Shared} {Q : VK} {us ws : List Value} {vs zs : List V} (F : FnOk X.prog X.w X.K X.mg X.base CX k f fd ps sp) (hr : Room k X.A) (hb : KBn X.K fd ps n ks g gV) (hx : PassesAt CX X σ (E σ))
    (I : Inv X pins σ H s) (r : Vals vs us) (rz : Vals zs ws) (l1 : vs.length = n) (l2 : zs.length = ks.length) (h : sp (gV vs zs) H Q (E σ)) : wpAny (model X.prog X.w) X.A (call (.ref f) us (ks.zip ws)) (EP X pins σ Q) X.xe s := by
  have r2 := hb.rel r rz
  refine wpAny_call (codeAny_mono (F.run X.A X.stack s H ⟨us, ks.zip ws⟩ (g us ws) (gV vs zs) Q (E σ) hr I.env0 (hb.to s us ws I.kIn (r.length.symm.trans l1) (rz.length.symm.trans l2)) r2 h) fun r s' hq => ?_)
  cases r with
  | error e => exact hx pins H s e s' I hq
  | ok fl =>
    cases fl with
    | ret u => exact I.after hq
    | next => exact False.elim hq
    | brk => exact False.elim hq
    | cont => exact False.elim hq
/-- f(e, .., k = v, ..) -/
theorem pe_callNS (F : FnOk X.prog X.w X.K X.mg X.base CX k f fd ps sp) (hr : Room k X.A) (hg : Gl X x) (hm : X.mg x = some (.ref f)) (hk : PySem.W.keepIn X.K (.ref f) = true) (hb : KBn X.K fd ps n ks g gV) (hx : ∀ σ, PassesAt CX X σ (E σ))
    (ha : PA X (e :: es) t) (hkw : PK X kws tk) (hall : (backToKw pos (keywordEach kws X.env)).all (·.1.isSome) = true := by rfl) (hks : (backToKw pos (keywordEach kws X.env)).filterMap (·.1) = ks := by rfl)
    (hdb : (x == ("__debug__" : Str)) = false := by decide) (he : starEach (e :: es) X.env = (false, eval e X.env) :: starEach es X.env := by rfl)
    (hpl : ((backTo pos (starEach (e :: es) X.env)).any (·.1) || (backToKw pos (keywordEach kws X.env)).any (·.1.isNone)) = false := by rfl) :
    PE X (.Call (.Name x p) (e :: es) kws pos) (tCallNS n ks.length sp gV E t tk) := by
  refine ⟨fun pins s σ H Q I h => ?_⟩
  refine wpAny_Call_Name_kw (ld_glob I hg hm ?_ hdb)
  refine PySem.W.callWith_KW (h₀ := X.base) I.ok.mod.kin hk hall (thn (ha.run pos pins s σ H _ I h) fun us s1 ⟨vs, H1, I1, r, q⟩ => ?_) hpl he
  refine thn (hkw.run pos pins s1 σ H1 _ I1 q) fun ws s2 ⟨zs, H2, I2, rz, l1, l2, q2⟩ => ⟨I2.kIn, ?_⟩
  rw [hks]
  exact run_fnNS F hr hb (hx σ) I2 r rz l1 l2 q2
/-- f(k = v, ..) -/
theorem pe_callKS0 (F : FnOk X.prog X.w X.K X.mg X.base CX k f fd ps sp) (hr : Room k X.A) (hg : Gl X x)
    (hm : X.mg x = some (.ref f)) (hk : PySem.W.keepIn X.K (.ref f) = true) (hb : KBn X.K fd ps 0 ks g gV)
    (hx : ∀ σ, PassesAt CX X σ (E σ)) (hkw : PK X kws tk)
    (hall : (backToKw pos (keywordEach kws X.env)).all (·.1.isSome) = true := by rfl)
    (hks : (backToKw pos (keywordEach kws X.env)).filterMap (·.1) = ks := by rfl)
    (hdb : (x == ("__debug__" : Str)) = false := by decide)
    (hpl : ((backTo pos (starEach [] X.env)).any (·.1) ||
      (backToKw pos (keywordEach kws X.env)).any (·.1.isNone)) = false := by rfl) :
    PE X (.Call (.Name x p) [] kws pos) (tCallNS 0 ks.length sp gV E tNil tk) := by
  refine ⟨fun pins s σ H Q I h => wpAny_Call_Name_kw (ld_glob I hg hm ?_ hdb)⟩
  refine PySem.W.callWith_KW0 (h₀ := X.base) I.ok.mod.kin hk hall ?_ hpl
  refine thn (hkw.run pos pins s σ H _ I h) fun ws s2 ⟨zs, H2, I2, rz, l1, l2, q2⟩ => ⟨I2.kIn, ?_⟩
  rw [hks]
  exact run_fnNS (us := []) F hr hb (hx σ) I2 .nil rz l1 l2 q2
end
end Vk

/-! error classes with one field, kept by an own __init__ with a default -/
namespace Vk
open PySem PySem.Spec PyProof.Rows L2
/-- __init__ of an error: its field is kept -/
def spOI (C : Addr) (f : Str) : Sp := fun vs H Q _ => ∃ (a : Addr) (y : V), vs = [.ref a, y] ∧ H a = some (exo a C none) ∧ ∀ dx, H dx = none → dx ≠ a → Q .non (upd (upd H dx (exd dx [(f, y)])) a (exo a C (some dx)))
/-- the end of X(e) -/
theorem mkO_fin {C : Addr} {f : Str} {v : V} {H : Hp} {Q : XK} (h : ∀ d, H d = none → Q (.ref C) (some d) (upd H d (.xd [(f, v)]))) :
    ([v] : List V).length ≤ 1000 ∧ ∀ a, H a = none → spOI C f (.ref a :: ([v] ++ [])) (upd H a (exo a C none))
      (fun u H2 => u = .non ∧ ∃ (d : Addr) (fs : List (Str × V)), H2 a = some (exo a C (some d)) ∧ H2 d = some (exd d fs) ∧ H d = none ∧ Q (.ref C) (some d) (upd (L2.del H2 a) d (.xd fs))) (fun _ _ _ => False) := by
  refine ⟨(by show 1 ≤ 1000; decide), fun a ha => ⟨a, v, rfl, upd_same, fun dx hd ne => ⟨rfl, dx, [(f, v)], upd_same, ?_, ?_, ?_⟩⟩⟩
  · rw [upd_ne ne, upd_same]
  · rw [upd_ne ne] at hd
    exact hd
  · have hd' : H dx = none := by
      rw [upd_ne ne] at hd
      exact hd
    have e : upd (L2.del (upd (upd (upd H a (exo a C none)) dx (exd dx [(f, v)])) a (exo a C (some dx))) a) dx (.xd [(f, v)]) = upd H dx (.xd [(f, v)]) := by
      funext b
      by_cases hb : b = dx
      · rw [hb, upd_same, upd_same]
      · rw [upd_ne hb, upd_ne hb]
        by_cases hba : b = a
        · rw [hba, L2.del_same, ha]
        · rw [L2.del_ne hba, upd_ne hba, upd_ne hb, upd_ne hba]
    rw [e]
    exact h dx hd'
/-- what the text says of an error class x with the field f; st its __init__ -/
structure Err (K : PySem.W.Frag) (mg : Str → Option Value) (x q f : Str) (st : Stmt) where
  C : Addr
  I : Addr
  D : FuncData
  m : mg x = some (.ref C)
  ox : OexC K C
  no : PySem.W.findIn K (.ref C) f = some none
  iC : PySem.W.findIn K (.ref C) "__init__" = some (some (.ref I))
  tI : PySem.W.typeIn K (.ref I) = some (.type "function")
  F : FunD K "__init__" q (defArgs st) (defBody st) (defScope st) [.non] [] I D
  b : Binds K D ["self", f] []
  xf : XfC K C
  ec : ExcC K C
/-- the reading of __init__'s body -/
theorem oi_pure {K : PySem.W.Frag} {C : Addr} {f : Str} {N : List Str} {vs : List V} {H : Hp} {Q : VK} {E : XK} (ox : OexC K C) (no : PySem.W.findIn K (.ref C) f = some none) (h : spOI C f vs H Q E) (hN : N.length = 2) :
    tOst K f (tVar 0) (tVar 1) { nx := fun _ H' => Q .non H', rt := Q } (start N vs) H := by
  obtain ⟨a, y, rfl, ha, k⟩ := h
  match N, hN with
  | [n0, n1], _ => exact ⟨_, rfl, _, rfl, a, C, rfl, ox, no, .inl ⟨ha, k⟩⟩
/-- f(k = v, ..), all parameters of a def with defaults -/
theorem kb1_of {K : PySem.W.Frag} {x qual : Str} {params : Arguments} {body : List Stmt} {scope : Scope} {dvs : List V} {f : Addr} {fd : FuncData} {ps ks : List Str} (F : FunD K x qual params body scope dvs [] f fd) (n : Nat) (g : {α : Type} → List α → List α → List α → List α) (hd : dvs ≠ [])
    (hrel : ∀ {vs ds zs : List V} {us its ws : List Value}, Vals vs us → Vals ds its → Vals zs ws → Vals (g vs ds zs) (g us its ws))
    (h : ∀ (T : Addr) (kV doc pm : Value) (an : Option Addr) (cdv ct : Value) (us its ws : List Value), us.length = n → its.length = dvs.length → ws.length = ks.length →
      ∃ k, bindArgs (PySem.W.fnOf x qual params body scope (.ref T) kV doc pm an cdv ct) ⟨us, ks.zip ws⟩ = seqItems? (.ref T) >>= k ∧ k (some its.toArray) = pure (ps.zip (g us its ws))) :
    ∃ its : List Value, KBn K fd ps n ks (fun us ws => g us its ws) (fun vs zs => g vs dvs zs) := by
  obtain ⟨oc, od, dV, kV, doc, pm, an, cdv, ct, osl, rfl, lk, hcd, hD, hK⟩ := F.ex
  rcases hD with ⟨e, _⟩ | ⟨_, T, o, its, m, rfl, lT, oT, rT⟩
  · exact absurd e hd
  · refine ⟨its, ⟨fun s us ws X l1 l2 => ?_, fun r1 r2 => hrel r1 rT r2⟩⟩
    obtain ⟨k, e1, e2⟩ := h T kV doc pm an cdv ct us its ws l1 rT.length.symm l2
    refine BindsTo.of_looks fun M => ?_
    rw [e1]
    exact looks_items X lT oT (.of_pure e2)
/-- all positional arguments of a def with defaults -/
theorem b1_of {K : PySem.W.Frag} {x qual : Str} {params : Arguments} {body : List Stmt} {scope : Scope} {dvs : List V} {f : Addr} {fd : FuncData} {ps : List Str} (F : FunD K x qual params body scope dvs [] f fd) (n : Nat) (hd : dvs ≠ []) (hn : n = ps.length)
    (h : ∀ (T : Addr) (kV doc pm : Value) (an : Option Addr) (cdv ct : Value) (us its : List Value), us.length = n → its.length = dvs.length →
      ∃ k, bindArgs (PySem.W.fnOf x qual params body scope (.ref T) kV doc pm an cdv ct) ⟨us, []⟩ = seqItems? (.ref T) >>= k ∧ k (some its.toArray) = pure (ps.zip us)) : Binds K fd ps [] := by
  obtain ⟨ds, r, B⟩ := F.binds1 (ps := ps) n dvs.length hd (by omega) fun T kV doc pm an cdv ct us its l1 l2 => by
    obtain ⟨k, e1, e2⟩ := h T kV doc pm an cdv ct us its l1 l2
    refine ⟨k, e1, ?_⟩
    rw [← l2, List.drop_length, List.append_nil]
    exact e2
  rw [List.drop_length] at r
  cases r
  exact B
theorem oexC_mk {K : PySem.W.Frag} {C : Addr} {nm q : Str} {N : Addr} {bs bm : List Value} {sn : List Str} {sub : List Value} {ab : Bool} {col : Option Bool} {dd : Option Addr} {m0 m1 m2 m3 m5 : Option Value}
    (xL : K.lookup C = some (excClassObj nm q C N bs bm true sn sub ab col dd m0 m1 m2 m3 m5 "ValueError.__new__")) (hbm : PySem.HandSPX.refsVE bm = true)
    (sa : PySem.W.findIn K (.ref C) "__setattr__" = some (some (.builtin "object.__setattr__")))
    (eC : PySem.W.subIn K (.ref C) (.type "BaseException") = some true) (tC : PySem.W.typeIn K (.ref C) = some (.type "type")) (kC : PySem.W.keepIn K (.ref C) = true) : OexC K C :=
  ⟨⟨nm, q, N, bs, bm, sn, sub, ab, col, dd, m0, m1, m2, m3, m5, xL, hbm⟩, sa, eC, tC, kC⟩
theorem funD_mk {K : PySem.W.Frag} {x qual : Str} {st : Stmt} {f T : Addr} {o : Obj} {n : Nat} {dvs : List V} {its : List Value} {oc : Value} {od an : Option Addr} {osl : Array (Option Value)} {kV doc pm cdv ct : Value}
    (l : K.lookup f = some ⟨oc, od, .func (PySem.W.fnOf x qual (defArgs st) (defBody st) (defScope st) (.ref T) kV doc pm an cdv ct), osl⟩)
    (c : PySem.W.codeIn K cdv qual = true) (k : PySem.W.keepIn K (.ref f) = true) (lT : K.lookup T = some o) (oT : o.data = .seq its.toArray n) (hne : dvs ≠ []) (r : Vals dvs its) :
    FunD K x qual (defArgs st) (defBody st) (defScope st) dvs [] f (PySem.W.fnOf x qual (defArgs st) (defBody st) (defScope st) (.ref T) kV doc pm an cdv ct) :=
  ⟨⟨oc, od, .ref T, kV, doc, pm, an, cdv, ct, osl, rfl, l, c, .inr ⟨hne, T, o, its, n, rfl, lT, oT, r⟩, .inl rfl⟩, k⟩
theorem funK_mk {K : PySem.W.Frag} {x qual : Str} {st : Stmt} {f D : Addr} {kws : List (Str × V)} {oc : Value} {od an : Option Addr} {osl : Array (Option Value)} {doc pm cdv ct : Value}
    (l : K.lookup f = some ⟨oc, od, .func (PySem.W.fnOf x qual (defArgs st) (defBody st) (defScope st) .none (.ref D) doc pm an cdv ct), osl⟩)
    (c : PySem.W.codeIn K cdv qual = true) (k : PySem.W.keepIn K (.ref f) = true) (h : ∀ q ∈ kws, ∃ u, PySem.W.nsIn K D q.1 = some (some u) ∧ RelV q.2 u) :
    FunD K x qual (defArgs st) (defBody st) (defScope st) [] kws f (PySem.W.fnOf x qual (defArgs st) (defBody st) (defScope st) .none (.ref D) doc pm an cdv ct) :=
  ⟨⟨oc, od, .none, .ref D, doc, pm, an, cdv, ct, osl, rfl, l, c, .inl ⟨rfl, rfl⟩, .inr ⟨D, rfl, h⟩⟩, k⟩
theorem kit_self {K : PySem.W.Frag} {C : Addr} : PySem.W.kitOne K (.ref C) (.ref C) = some true := by
  unfold PySem.W.kitOne
  simp
theorem kit_no {K : PySem.W.Frag} {C D : Addr} (h : PySem.W.subIn K (.ref C) (.ref D) = some false) (hd : PySem.W.subIn K (.ref D) (.ref D) = some true) (hc : PySem.W.hasDictIn K D = true) (ht : PySem.W.typeIn K (.ref D) = some (.type "type")) :
    PySem.W.kitOne K (.ref C) (.ref D) = some false := by
  have ne : (Value.ref C == Value.ref D) = false := Bool.eq_false_iff.mpr fun e => by
    have e' : Value.ref C = Value.ref D := beq_iff_eq.mp e
    rw [e', hd] at h
    cases h
  obtain ⟨cd, hcd, _⟩ := PySem.W.any_some hc
  unfold PySem.W.kitOne PySem.W.kitCls
  rw [ne, if_neg Bool.false_ne_true]
  show (if ((PySem.W.clsIn K D).isSome && PySem.W.typeIn K (.ref D) == some (.type "type")) = true then PySem.W.subIn K (.ref C) (.ref D) else none) = some false
  rw [hcd, ht]
  exact h
/-- the k-th of a list, alone -/
abbrev seg {α : Type} (l : List α) (k : Nat) : List α := (l.drop k).take 1
theorem seg_rel {vs : List V} {us : List Value} (r : Vals vs us) (k : Nat) : Vals (seg vs k) (seg us k) := (r.drop k).take 1
end Vk

/-! texts repeated -/
namespace Vk
open PySem PySem.Spec PyProof.Rows L2
/-- c * n -/
def strRep (c : Str) (n : Int) : Str := if n < 1 then Str.empty else if (n == 1 || c.length == 0) = true then c else ⟨(List.replicate n.toNat c.cps).foldl (· ++ ·) #[]⟩
theorem rep_size (a : Array Nat) : ∀ (k : Nat) (b : Array Nat), ((List.replicate k a).foldl (· ++ ·) b).size = b.size + k * a.size
  | 0, b => by simp
  | k + 1, b => by
    rw [List.replicate_succ, List.foldl_cons, rep_size a k, Array.size_append, Nat.succ_mul]
    omega
def rRepS : R2 := fun x y H Q => ∃ (c : Str) (n : Int), x = .str c ∧ y = .int n ∧ c.length ≤ 100 ∧ 0 ≤ n ∧ n ≤ 100000 ∧ Q (.str (strRep c n)) H
theorem op_repS {X : Cx} : OpR X (binaryOp .Mult) rRepS := by
  intro pins s σ H x y v u Q I rx ry h
  obtain ⟨c, n, rfl, rfl, lc, n0, n1, q⟩ := h
  obtain ⟨t, rfl⟩ := rx
  obtain ⟨t', rfl⟩ := ry
  refine PySem.P.mul_str ?_ (fun h1 _ => ?_) (fun h1 _ => ?_) ?_
  · have h1 : ¬ n < -(2 ^ 63 : Int) := by omega
    have h2 : ¬ n ≥ 2 ^ 63 := by omega
    rw [decide_eq_false h1, decide_eq_false h2]
    rfl
  · have h3 : (1000 : Int) ≤ (2 ^ 63 - 1) / n := by
      rw [Int.le_ediv_iff_mul_le (by omega)]
      omega
    omega
  · have h5 : c.length * n.toNat ≤ 100 * 100000 := Nat.mul_le_mul lc (by omega)
    have h6 : ¬ (c.length * n.toNat > sizeLine) := by
      have e : sizeLine = 16777216 := sizeLine_eq
      omega
    exact decide_eq_false h6
  · unfold strRep at q
    split
    · rename_i h1
      rw [if_pos h1] at q
      exact ⟨by decide, .str _, H, I.tok _, ⟨_, rfl⟩, q⟩
    · rename_i h1
      rw [if_neg h1] at q
      split
      · rename_i h2
        rw [if_pos h2] at q
        exact ⟨.str _, H, I, ⟨_, rfl⟩, q⟩
      · rename_i h2
        rw [if_neg h2] at q
        refine ⟨?_, .str _, H, I.tok _, ⟨_, rfl⟩, q⟩
        show ((List.replicate n.toNat c.cps).foldl (· ++ ·) #[]).size ≤ sizeLine
        have lc' : c.cps.size ≤ 100 := lc
        have h5 : n.toNat * c.cps.size ≤ 100000 * 100 := Nat.mul_le_mul (by omega) lc'
        have e : sizeLine = 16777216 := sizeLine_eq
        have e0 : (#[] : Array Nat).size = 0 := rfl
        rw [rep_size, e0]
        omega
end Vk

namespace Vk
open PySem PySem.Spec PyProof.Rows L2

/-! ### sets of texts: what stands at a, by the list of its members -/
abbrev Ent := Int × Value
def tkey (e : Ent) : Str := match e.2 with
  | .str x _ => x
  | _ => Str.empty
def TEnt (w : World) (e : Ent) : Prop := ∃ x t, e = (hashStr w x, Value.str x t)
/-- the raw state: entries, a table that fits and can be walked -/
structure Raw (w : World) (h : Heap) (a : Addr) (es : Array Ent) (ep : Nat) (t : SetTable) : Prop where
  obj : ∃ o, h.get? a = some o ∧ o.ExactSet ∧ o.data = .set es ep t
  few : es.size < scanBound
  fits : t.fits es.size = true
  ris : Ris t.place.toList
  led : w.params.followText "set-order" = true ∨ t.led = true
structure TSet (w : World) (h : Heap) (a : Addr) (ks : List Str) : Prop where
  raw : ∃ es ep t, Raw w h a es ep t ∧ (∀ e ∈ es.toList, TEnt w e) ∧ (es.toList.map tkey).Perm ks
  nd : ks.Nodup
theorem Raw.at {w : World} {h k : Heap} {a : Addr} {es : Array Ent} {ep : Nat} {t : SetTable} (r : Raw w h a es ep t)
    (s : ∀ o, h.get? a = some o → k.get? a = some o) : Raw w k a es ep t :=
  { r with obj := let ⟨o, h1, h2⟩ := r.obj; ⟨o, s o h1, h2⟩ }
theorem TSet.at {w : World} {h k : Heap} {a : Addr} {ks : List Str} (r : TSet w h a ks)
    (s : ∀ o, h.get? a = some o → k.get? a = some o) : TSet w k a ks :=
  { r with raw := let ⟨es, ep, t, h1, h2⟩ := r.raw; ⟨es, ep, t, h1.at s, h2⟩ }
section
variable {P : Program} {w : World} {A : Around} {E : Value → Shared → Prop} {s : Shared} {a : Addr}
theorem tent_elems {l : List Ent} (g : ∀ e ∈ l, TEnt w e) : ElemsOf (PySem.strKind P w) l := fun e he => by
  obtain ⟨x, t, rfl⟩ := g e he
  exact ⟨⟨x, strKind_is P w x t, rfl⟩, rfl⟩
theorem tent_is {e : Ent} (g : TEnt w e) (k : Str) : (PySem.strKind P w).is k e.2 = true ↔ tkey e = k := by
  obtain ⟨x, t, rfl⟩ := g
  constructor
  · intro h
    obtain ⟨u, e⟩ := Value.isStrOf_shape (show Value.isStrOf k (.str x t) = true from h)
    injection e
  · intro h
    obtain rfl : x = k := h
    exact strKind_is P w x t
/-- the store, and the table laid anew if it is too full -/
theorem raw_store {gv : Bool → Sem Unit}
    (hg : ∀ (b : Bool) (s1 : Shared) (Q : Unit → Shared → Prop), Q () s1 → wpAny (model P w) A (gv b) Q E s1)
    {es es1 : Array Ent} {ep : Nat} {t t1 : SetTable} {wd : Bool} {R : Option Bool → Shared → Prop}
    (r : Raw w s.heap a es ep t) (few : es1.size < scanBound) (fit : t1.fits es1.size = true) (ris : Ris t1.place.toList)
    (led : w.params.followText "set-order" = true ∨ t1.led = true)
    (hR : ∀ (k : Heap) (es2 : Array Ent) (ep2 : Nat) (t2 : SetTable), Heap.SameBut a s.heap k → Raw w k a es2 ep2 t2 → es2.toList.Perm es1.toList → R (some true) { s with heap := k }) :
    wpAny (model P w) A
      (storeSet a es1 t1 >>= fun _ =>
        if (!wd && t1.tooFull) = true then
          gv (relayAll t1 es1 (SetTable.grown es1.size)).2.2 >>= fun _ =>
            storeSet a (relayAll t1 es1 (SetTable.grown es1.size)).1 (relayAll t1 es1 (SetTable.grown es1.size)).2.1 >>= fun _ => pure (some true)
        else pure (some true)) R E s := by
  obtain ⟨o, ho, hx, hd⟩ := r.obj
  have f1 := fits_of_scanBound few
  have g1 := store_at (es' := es1) (t' := t1) ho hd
  have b1 := Heap.SameBut.update s.heap a (Obj.putSet es1 t1)
  refine wpAny_bind (wpAny_storeSet_of ho hd ?_ f1)
  by_cases c : (!wd && t1.tooFull) = true
  · rw [if_pos c]
    have pm := relayAll_perm t1 es1 (SetTable.grown es1.size)
    have ft := relayAll_fits t1 es1 (SetTable.grown es1.size)
    have rs := relayAll_ris t1 es1 (SetTable.grown es1.size)
    have ld := relayAll_led t1 es1 (SetTable.grown es1.size)
    revert pm ft rs ld
    generalize relayAll t1 es1 (SetTable.grown es1.size) = z
    obtain ⟨es2, t2, gave⟩ := z
    intro pm ft rs ld
    have sz : es2.size = es1.size := by
      have q := pm.length_eq
      rwa [Array.length_toList, Array.length_toList] at q
    have few2 : es2.size < scanBound := by omega
    refine wpAny_bind (hg _ _ _ (wpAny_bind (wpAny_storeSet_of g1 rfl ?_ (fits_of_scanBound few2))))
    have g2 := store_at (es' := es2) (t' := t2) g1 rfl
    exact wpAny_pure (hR _ es2 _ t2 (b1.trans (Heap.SameBut.update _ a _))
      ⟨⟨_, g2, hx, rfl⟩, few2, ft, rs, led.imp id fun q => ld.trans q⟩ pm)
  · rw [if_neg c]
    exact wpAny_pure (hR _ es1 _ t1 b1 ⟨⟨_, g1, hx, rfl⟩, few, fit, ris, led⟩ (.refl _))
theorem tset_add {k : Str} {u : Tok} {ks : List Str} {Q : Bool → Shared → Prop} (r : TSet w s.heap a ks) (room : ks.length + 1 < scanBound)
    (hQ : ∀ (h : Heap) (b : Bool), Heap.SameBut a s.heap h → TSet w h a (if k ∈ ks then ks else k :: ks) → Q b { s with heap := h }) :
    wpAny (model P w) A (setAddHashed a (.str k u) ((PySem.strKind P w).hash k)) Q E s := by
  obtain ⟨es, ep, t, raw, ent, pm⟩ := r.raw
  obtain ⟨o, ho, hx, hd⟩ := raw.obj
  have isK : (PySem.strKind P w).is k (.str k u) = true := strKind_is P w k u
  have scan : (Value.str k u).scannable = true := rfl
  have els : ElemsOf (PySem.strKind P w) es.toList := tent_elems ent
  unfold setAddHashed setAddHashedIn
  refine wpAny_holding (wpAny_bind (wpAny_setState_of ho hd raw.fits ?_))
  dsimp only
  rw [byScan_of scan raw.few els]
  simp only [↓reduceIte]
  unfold setAddByScan
  refine wpAny_bind (wpAny_bind (wpAny_rule (wpAny_bind (wpAny_setScan_of isK ho hd raw.fits els ?_))))
  cases hf : List.findIdx? (fun e => (PySem.strKind P w).is k e.2) es.toList with
  | some j =>
    obtain ⟨hj, pj, _⟩ := List.findIdx?_eq_some_iff_getElem.mp hf
    have memk : k ∈ ks := by
      rw [← pm.mem_iff, List.mem_map]
      exact ⟨es.toList[j], List.getElem_mem hj, (tent_is (P := P) (ent _ (List.getElem_mem hj)) k).mp pj⟩
    have q := hQ s.heap false (Heap.SameBut.refl a s.heap)
    rw [if_pos memk] at q
    exact wpAny_pure (wpAny_pure (q r))
  | none =>
    have nok : k ∉ ks := fun m => by
      rw [← pm.mem_iff, List.mem_map] at m
      obtain ⟨e, he, ek⟩ := m
      have c := List.findIdx?_eq_none_iff.mp hf e he
      rw [(tent_is (P := P) (ent e he) k).mpr ek] at c
      cases c
    have wayOk : ∀ (b : Bool) {s1 : Shared} {Q1 : Unit → Shared → Prop}, Q1 () s1 →
        wpAny (model P w) A (match b with | true => rule "set.scan.the-table-gave-way" | false => pure ()) Q1 E s1 :=
      fun b s1 Q1 q => by
        cases b
        · exact wpAny_pure q
        · exact wpAny_rule q
    have p1 := layNew_perm t es ((PySem.strKind P w).hash k) (.str k u)
    have f1 := layNew_fits t es ((PySem.strKind P w).hash k) (.str k u)
    have r1 := layNew_ris t es ((PySem.strKind P w).hash k) (.str k u) raw.ris
    have l1 := layNew_led t es ((PySem.strKind P w).hash k) (.str k u)
    revert p1 f1 r1 l1
    dsimp only
    generalize layNew t es ((PySem.strKind P w).hash k) (.str k u) = z
    obtain ⟨es1, t1, wd, gave⟩ := z
    intro p1 f1 r1 l1
    dsimp only at p1 f1 r1 l1 ⊢
    rw [Array.toList_push] at p1
    have p2 : es1.toList.Perm ((hashStr w k, Value.str k u) :: es.toList) := p1.trans (List.perm_append_singleton _ _)
    have ent1 : ∀ e ∈ es1.toList, TEnt w e := fun e he => by
      rcases List.mem_cons.mp (p2.mem_iff.mp he) with q | q
      · exact ⟨k, u, q⟩
      · exact ent e q
    have p3 : (es1.toList.map tkey).Perm (k :: ks) := (p2.map tkey).trans (List.Perm.cons k pm)
    have sz1 : es1.size = ks.length + 1 := by
      have q := p3.length_eq
      rwa [List.length_map, Array.length_toList, List.length_cons] at q
    have few1 : es1.size < scanBound := by omega
    have led1 : w.params.followText "set-order" = true ∨ t1.led = true := raw.led.imp id fun q => l1.trans q
    have fin : ∀ (h : Heap) (es2 : Array Ent) (ep2 : Nat) (t2 : SetTable), Heap.SameBut a s.heap h → Raw w h a es2 ep2 t2 → es2.toList.Perm es1.toList → Q true { s with heap := h } :=
      fun h es2 ep2 t2 sb rw2 p4 => by
        have q := hQ h true sb
        rw [if_neg nok] at q
        exact q ⟨⟨es2, ep2, t2, rw2, fun e he => ent1 e (p4.mem_iff.mp he), (p4.map tkey).trans p3⟩, List.nodup_cons.mpr ⟨nok, r.nd⟩⟩
    refine wpAny_bind (wayOk _ ?_)
    split
    · refine wpAny_bind ?_
      rw [hashByValue_scannable 8 scan]
      refine wpAny_pure ?_
      refine raw_store (fun b s1 Q1 q => wayOk b q) raw few1 ?_ ?_ ?_ fun h es2 ep2 t2 sb rw2 p4 => wpAny_pure (fin h es2 ep2 t2 sb rw2 p4)
      · split
        · exact f1
        · exact SetTable.fits_plain_off f1
      · split <;> exact r1
      · split <;> exact led1
    · refine wpAny_bind (wpAny_pure ?_)
      simp only [↓reduceIte]
      exact raw_store (fun b s1 Q1 q => wayOk b q) raw few1 f1 r1 led1 fun h es2 ep2 t2 sb rw2 p4 => wpAny_pure (fin h es2 ep2 t2 sb rw2 p4)
end
end Vk

namespace Vk
open PySem PySem.Spec PyProof.Rows L2

def addK (ks : List Str) (x : Str) : List Str := if x ∈ ks then ks else x :: ks
def dedK (xs : List Str) : List Str := xs.foldl addK []
theorem addK_len (ks : List Str) (x : Str) : (addK ks x).length ≤ ks.length + 1 := by
  unfold addK
  split
  · omega
  · exact Nat.le_refl _
theorem foldK_len (xs : List Str) : ∀ ks : List Str, (xs.foldl addK ks).length ≤ ks.length + xs.length := by
  induction xs with
  | nil => exact fun ks => Nat.le_refl _
  | cons x xs ih =>
    intro ks
    have a := ih (addK ks x)
    have b := addK_len ks x
    simp only [List.foldl_cons, List.length_cons]
    omega
theorem addK_mem {ks : List Str} {x y : Str} : y ∈ addK ks x ↔ y ∈ ks ∨ y = x := by
  unfold addK
  split
  · rename_i h
    exact ⟨.inl, fun q => q.elim id fun e => e ▸ h⟩
  · rw [List.mem_cons]
    exact Or.comm
theorem foldK_mem (xs : List Str) : ∀ (ks : List Str) (y : Str), y ∈ xs.foldl addK ks ↔ y ∈ ks ∨ y ∈ xs := by
  induction xs with
  | nil =>
    intro ks y
    simp
  | cons x xs ih =>
    intro ks y
    rw [List.foldl_cons, ih, addK_mem, List.mem_cons, or_assoc]
theorem dedK_mem (xs : List Str) (y : Str) : y ∈ dedK xs ↔ y ∈ xs := by
  unfold dedK
  rw [foldK_mem]
  simp
def freshSet (w : World) : Obj := { cls := .type "set", dict := none, data := .set #[] 0 (.fresh 0 0 (!w.params.followText "set-order")) }
theorem tset_fresh {w : World} {h : Heap} {a : Addr} (e : h.get? a = some (freshSet w)) : TSet w h a [] where
  raw := by
    refine ⟨#[], 0, _, ⟨⟨_, e, ⟨rfl, rfl, rfl⟩, rfl⟩, by decide, rfl, List.Pairwise.nil, ?_⟩, fun e he => by simp at he, .refl _⟩
    show _ ∨ (!w.params.followText "set-order") = true
    cases w.params.followText "set-order" <;> simp
  nd := List.nodup_nil
section
variable {P : Program} {w : World} {A : Around} {E : Value → Shared → Prop} {s : Shared}
theorem tset_loop {I : Addr} {fp wr : List Addr} {G : Array GenState → Array GenState → Prop} {n : Nat} {Pv : Nat → Value → Prop}
    {St : Nat → Shared → Prop} {R : Result → Shared → Prop} (W : WalksS P w A.in1 I fp wr G n Pv St) (a : Addr) (ha : a ∉ fp)
    (xs : List Str) (hn : n = xs.length) (room : xs.length + 1 < scanBound) (hv : ∀ i v, Pv i v → ∃ x t, xs[i]? = some x ∧ v = .str x t) :
    ∀ (m i : Nat) (s : Shared), n - i = m → i ≤ n → St i s → TSet w s.heap a ((xs.take i).foldl addK []) →
      (∀ s1, Moved (a :: wr) G s s1 → TSet w s1.heap a (dedK xs) → R (.ok (.ret .none)) s1) →
      codeAny (model P w) A (.builtin "set.update.loop" ⟨[.ref a, .ref I], []⟩) R s := by
  have aw : a ∉ wr := fun h => ha (W.sub _ h)
  have up : ∀ b ∈ wr, b ∈ a :: wr := fun b hb => List.mem_cons_of_mem _ hb
  intro m
  induction m with
  | zero =>
    intro i s hm hi st hS hR
    obtain rfl : i = n := by omega
    refine codeAny_builtin PyProof.Rows.F.entry_set_update_loop (?_)
    rw [Around.under_plainId PyProof.Rows.F.plain_set_update_loop (_)]
    refine wpAny_bind (m := pyNext (.ref I)) (W.done s _ _ st fun s1 mv => ?_)
    have all : xs.take i = xs := List.take_of_length_le (by omega)
    rw [all] at hS
    exact wpAny_pure (hR s1 (mv.mono up) (hS.at fun o e => mv.heap a o aw e))
  | succ m ih =>
    intro i s hm hi st hS hR
    have lt : i < n := by omega
    refine codeAny_builtin PyProof.Rows.F.entry_set_update_loop (?_)
    rw [Around.under_plainId PyProof.Rows.F.plain_set_update_loop (_)]
    refine wpAny_bind (m := pyNext (.ref I)) (W.item i s _ _ lt st fun v s1 pv st1 mv => ?_)
    obtain ⟨x, t, hx, rfl⟩ := hv i v pv
    have hS1 : TSet w s1.heap a ((xs.take i).foldl addK []) := hS.at fun o e => mv.heap a o aw e
    refine wpAny_bind (m := holding [Value.str x t] (setAdd a (.str x t))) (wpAny_holding ?_)
    unfold setAdd
    refine wpAny_holding (wpAny_bind ((PySem.strKind P w).pyHash (k := x) (strKind_is P w x t) ?_))
    have sm := foldK_len (xs.take i) []
    have tk := List.length_take_le i xs
    refine tset_add (s := { s1 with toks := s1.toks + 1 }) hS1 ?_ fun h2 b sb hS2 => ?_
    · have e0 : ([] : List Str).length = 0 := rfl
      omega
    have e2 : (xs.take (i + 1)).foldl addK [] = (if x ∈ (xs.take i).foldl addK [] then (xs.take i).foldl addK [] else x :: (xs.take i).foldl addK []) := by
      rw [List.take_add_one, hx, List.foldl_append]
      rfl
    rw [← e2] at hS2
    refine wpAny_pure ⟨plainId_quiet PyProof.Rows.F.plain_set_update_loop (_), ih (i + 1) _ (by omega) lt (W.frame _ s1 _ _ st1 (Nat.le_succ _) fun b hb o e => ?_) hS2 fun s3 mv3 hS3 => ?_⟩
    · have nb : b ≠ a := fun q => ha (q ▸ hb)
      exact (sb.2 b nb).trans e
    · refine hR s3 (Moved.trans W.gtrans ((mv.mono up).then_heap (Nat.le_succ _) fun b o hb e => ?_) mv3) hS3
      have nb : b ≠ a := fun q => hb (q ▸ List.mem_cons_self ..)
      exact (sb.2 b nb).trans e
end
end Vk

set_option maxHeartbeats 8000000
namespace Vk
open PySem PySem.Spec PyProof.Rows L2
section
variable {P : Program} {w : World} {A : Around} {E : Value → Shared → Prop} {s : Shared}

theorem strsAre_len : ∀ {vs : List Value} {xs : List Str}, StrsAre vs xs → vs.length = xs.length
  | _, _, .nil => rfl
  | _, _, .cons _ _ h => congrArg Nat.succ (strsAre_len h)
theorem strsAre_get : ∀ {vs : List Value} {xs : List Str} {i : Nat} {v : Value}, StrsAre vs xs → vs[i]? = some v → ∃ x t, xs[i]? = some x ∧ v = .str x t
  | _, _, _, _, .nil, h => by simp at h
  | _, _, 0, _, .cons x t _, h => ⟨x, t, rfl, by simpa using h.symm⟩
  | _, _, i + 1, _, .cons _ _ q, h => by
    obtain ⟨x, t, h1, h2⟩ := strsAre_get (i := i) q (by simpa using h)
    exact ⟨x, t, by simpa using h1, h2⟩

/-- set(x), x a tuple of texts -/
theorem tset_tuple {l : Addr} {items : Array Value} (xs : List Str) {Q : Value → Shared → Prop} (calm : A.handled = none)
    (hl : s.heap.IsTuple l items) (ht : StrsAre items.toList xs) (room : xs.length + 1 < scanBound)
    (hQ : ∀ (k : Heap) (tk : Nat), TSet w k s.heap.objs.size (dedK xs) → (∀ b o, s.heap.get? b = some o → k.get? b = some o) →
      Q (.ref s.heap.objs.size) { s with heap := k, toks := tk }) :
    wpAny (model P w) A (call (.type "set") [.ref l]) Q E s := by
  have len : items.size = xs.length := by
    have q := strsAre_len ht
    rwa [Array.length_toList] at q
  obtain ⟨c, tl, mro⟩ := F.called_set.mro
  have made := F.called_set.made
  have sub0 := F.called_set.sub
  refine wpAny_call (codeAny_of_tree (show wpAny _ _ (callAny (.type "set") _) _ _ _ from ?_))
  refine wpAny_pure ⟨Code.quiet_builtin _ (by decide +kernel), codeAny_builtin F.entry_type_call (?_)⟩
  rw [Around.under_plain (weight_type_call_type "set" [Value.ref l] []) rfl]
  have nt := F.called_set.notType
  have cc := F.called_set.canCreate
  have ct := F.typeCall_set_1 (Value.ref l)
  (repeat (any_goals (first | assumption | wp_step)))
  refine codeAny_mono (code_set_led1 (Value.ref l) (E := E)
    (Q₁ := fun obj s1 => obj = .ref s.heap.objs.size ∧ s1 = { s with heap := s.heap.push (freshSet w) }) ⟨rfl, rfl⟩) (fun r s1 hr => ?_)
  cases r with
  | error e => exact hr
  | ok fl =>
    cases fl with
    | ret obj =>
      obtain ⟨rfl, rfl⟩ := hr
      have at0 : (s.heap.push (freshSet w)).get? s.heap.objs.size = some (freshSet w) := Heap.get?_push_size _ rfl
      have ty0 : Shared.TypeIs { s with heap := s.heap.push (freshSet w) } (.ref s.heap.objs.size) "set" := ⟨_, at0, rfl⟩
      have ini := F.called_set.init.lookup
      have bnd := F.called_set.init.bind (Value.ref s.heap.objs.size)
      (repeat (any_goals (first | assumption | wp_step)))
      refine codeAny_mono (codeAny_call_builtin (R := wants (fun r s2 => r = .none ∧ ∃ k tk, s2 = { s with heap := k, toks := tk } ∧
        TSet w k s.heap.objs.size (dedK xs) ∧ (∀ b o, s.heap.get? b = some o → k.get? b = some o)) E)
        F.called_set.init.plain F.entry_set_init (check_set_init_1 ty0 ?_)) (fun r2 s2 hr2 => ?_)
      · obtain ⟨ol, got, cl, nl, dl⟩ := hl
        obtain ⟨ocl, od, odt, osl⟩ := ol
        simp only at cl dl
        subst cl
        subst dl
        have got1 : (s.heap.push (freshSet w)).get? l = some { cls := .type "tuple", dict := od, data := .seq items nl, slots := osl } := Heap.get?_push_of_some _ got
        have sb1 := F.sub_tuple_set
        have sb2 := F.sub_tuple_frozenset
        have nd : (Value.type "tuple" == Value.type "dict") = false := by decide
        have isl : (s.heap.push (freshSet w)).IsTuple l items := ⟨_, got1, rfl, nl, rfl⟩
        unfold Builtin.«set.__init__» noKeywords Builtin.Frozenset.updateFrom
        generalize eP : pyIter = PI
        wp_walk
        subst eP
        refine wpAny_pyIter_tuple isl (wpAny_bind (wpAny_runValue ?_))
        have ll : l < s.heap.objs.size := Heap.lt_size got
        have h3 : A.in1.in1.in1.handled = none := by simp [calm]
        have sz : (s.heap.push (freshSet w)).objs.size = s.heap.objs.size + 1 := Heap.size_push ..
        have n1 : l ≠ (s.heap.push (freshSet w)).objs.size := by
          rw [sz]
          exact Nat.ne_of_lt (Nat.lt_succ_of_lt ll)
        have n2 : s.heap.objs.size ∉ [(s.heap.push (freshSet w)).objs.size, l] := by
          rw [sz]
          intro m
          rcases List.mem_cons.mp m with q | q
          · exact absurd q (Nat.ne_of_lt (Nat.lt_succ_self _))
          · exact absurd (List.mem_singleton.mp q) (Nat.ne_of_gt ll)
        have val : ∀ (i : Nat) (v : Value), items[i]? = some v → ∃ x t, xs[i]? = some x ∧ v = .str x t := fun i v hv =>
          strsAre_get ht (by rw [Array.getElem?_toList]; exact hv)
        refine tset_loop ((Walks.tuple h3 _ l n1 items).toS) s.heap.objs.size n2 xs len room val (items.size - 0) 0 _ (by omega) (Nat.zero_le _)
          ⟨⟨_, Heap.get?_push_size _ rfl, rfl, rfl⟩, isl.push _⟩ (tset_fresh (Heap.get?_push_of_some _ at0)) fun s4 mv fin => ?_
        obtain ⟨k, gs, dr, tk, os⟩ := s4
        obtain rfl : gs = s.gens := mv.gens
        obtain rfl : dr = s.drawn := mv.drawn
        obtain rfl : os = s.os := mv.os
        show wpAny _ _ _ _ _ _
        refine wpAny_pure ?_
        show wpAny _ _ (ret Value.none) _ _ _
        refine wpAny_pure ⟨rfl, k, tk, rfl, fin, fun b o e => ?_⟩
        have lb : b < s.heap.objs.size := Heap.lt_size e
        refine mv.heap b o ?_ (Heap.get?_push_of_some _ (Heap.get?_push_of_some _ e))
        intro m
        rcases List.mem_cons.mp m with q | q
        · exact absurd q (Nat.ne_of_lt lb)
        · refine absurd (List.mem_singleton.mp q) ?_
          rw [sz]
          exact Nat.ne_of_lt (Nat.lt_succ_of_lt lb)
      · cases r2 with
        | error e => exact hr2
        | ok fl2 =>
          cases fl2 with
          | ret r =>
            obtain ⟨rfl, k, tk, rfl, fin, keep⟩ := hr2
            (repeat (any_goals (first | assumption | wp_step)))
            exact hQ k tk fin keep
          | _ => exact hr2.elim
    | _ => exact hr.elim

/-- set(x), x a list of texts -/
theorem tset_list {l : Addr} {items : Array Value} (xs : List Str) {Q : Value → Shared → Prop} (calm : A.handled = none)
    (hl : s.heap.IsList l items) (ht : StrsAre items.toList xs) (room : xs.length + 1 < scanBound)
    (hQ : ∀ (k : Heap) (tk : Nat), TSet w k s.heap.objs.size (dedK xs) → (∀ b o, s.heap.get? b = some o → k.get? b = some o) →
      Q (.ref s.heap.objs.size) { s with heap := k, toks := tk }) :
    wpAny (model P w) A (call (.type "set") [.ref l]) Q E s := by
  have len : items.size = xs.length := by
    have q := strsAre_len ht
    rwa [Array.length_toList] at q
  obtain ⟨c, tl, mro⟩ := F.called_set.mro
  have made := F.called_set.made
  have sub0 := F.called_set.sub
  refine wpAny_call (codeAny_of_tree (show wpAny _ _ (callAny (.type "set") _) _ _ _ from ?_))
  refine wpAny_pure ⟨Code.quiet_builtin _ (by decide +kernel), codeAny_builtin F.entry_type_call (?_)⟩
  rw [Around.under_plain (weight_type_call_type "set" [Value.ref l] []) rfl]
  have nt := F.called_set.notType
  have cc := F.called_set.canCreate
  have ct := F.typeCall_set_1 (Value.ref l)
  (repeat (any_goals (first | assumption | wp_step)))
  refine codeAny_mono (code_set_led1 (Value.ref l) (E := E)
    (Q₁ := fun obj s1 => obj = .ref s.heap.objs.size ∧ s1 = { s with heap := s.heap.push (freshSet w) }) ⟨rfl, rfl⟩) (fun r s1 hr => ?_)
  cases r with
  | error e => exact hr
  | ok fl =>
    cases fl with
    | ret obj =>
      obtain ⟨rfl, rfl⟩ := hr
      have at0 : (s.heap.push (freshSet w)).get? s.heap.objs.size = some (freshSet w) := Heap.get?_push_size _ rfl
      have ty0 : Shared.TypeIs { s with heap := s.heap.push (freshSet w) } (.ref s.heap.objs.size) "set" := ⟨_, at0, rfl⟩
      have ini := F.called_set.init.lookup
      have bnd := F.called_set.init.bind (Value.ref s.heap.objs.size)
      (repeat (any_goals (first | assumption | wp_step)))
      refine codeAny_mono (codeAny_call_builtin (R := wants (fun r s2 => r = .none ∧ ∃ k tk, s2 = { s with heap := k, toks := tk } ∧
        TSet w k s.heap.objs.size (dedK xs) ∧ (∀ b o, s.heap.get? b = some o → k.get? b = some o)) E)
        F.called_set.init.plain F.entry_set_init (check_set_init_1 ty0 ?_)) (fun r2 s2 hr2 => ?_)
      · obtain ⟨ol, got, cl, nl, dl⟩ := hl
        obtain ⟨ocl, od, odt, osl⟩ := ol
        simp only at cl dl
        subst cl
        subst dl
        have got1 : (s.heap.push (freshSet w)).get? l = some { cls := .type "list", dict := od, data := .seq items nl, slots := osl } := Heap.get?_push_of_some _ got
        have sb1 := F.sub_list_set
        have sb2 := F.sub_list_frozenset
        have nd : (Value.type "list" == Value.type "dict") = false := by decide
        have isl : (s.heap.push (freshSet w)).IsList l items := ⟨_, got1, rfl, nl, rfl⟩
        unfold Builtin.«set.__init__» noKeywords Builtin.Frozenset.updateFrom
        generalize eP : pyIter = PI
        wp_walk
        subst eP
        refine wpAny_pyIter_list isl (wpAny_bind (wpAny_runValue ?_))
        have ll : l < s.heap.objs.size := Heap.lt_size got
        have h3 : A.in1.in1.in1.handled = none := by simp [calm]
        have sz : (s.heap.push (freshSet w)).objs.size = s.heap.objs.size + 1 := Heap.size_push ..
        have n1 : l ≠ (s.heap.push (freshSet w)).objs.size := by
          rw [sz]
          exact Nat.ne_of_lt (Nat.lt_succ_of_lt ll)
        have n2 : s.heap.objs.size ∉ [(s.heap.push (freshSet w)).objs.size, l] := by
          rw [sz]
          intro m
          rcases List.mem_cons.mp m with q | q
          · exact absurd q (Nat.ne_of_lt (Nat.lt_succ_self _))
          · exact absurd (List.mem_singleton.mp q) (Nat.ne_of_gt ll)
        have val : ∀ (i : Nat) (v : Value), items[i]? = some v → ∃ x t, xs[i]? = some x ∧ v = .str x t := fun i v hv =>
          strsAre_get ht (by rw [Array.getElem?_toList]; exact hv)
        refine tset_loop ((Walks.list h3 _ l n1 items).toS) s.heap.objs.size n2 xs len room val (items.size - 0) 0 _ (by omega) (Nat.zero_le _)
          ⟨⟨_, Heap.get?_push_size _ rfl, rfl, rfl⟩, isl.push _⟩ (tset_fresh (Heap.get?_push_of_some _ at0)) fun s4 mv fin => ?_
        obtain ⟨k, gs, dr, tk, os⟩ := s4
        obtain rfl : gs = s.gens := mv.gens
        obtain rfl : dr = s.drawn := mv.drawn
        obtain rfl : os = s.os := mv.os
        show wpAny _ _ _ _ _ _
        refine wpAny_pure ?_
        show wpAny _ _ (ret Value.none) _ _ _
        refine wpAny_pure ⟨rfl, k, tk, rfl, fin, fun b o e => ?_⟩
        have lb : b < s.heap.objs.size := Heap.lt_size e
        refine mv.heap b o ?_ (Heap.get?_push_of_some _ (Heap.get?_push_of_some _ e))
        intro m
        rcases List.mem_cons.mp m with q | q
        · exact absurd q (Nat.ne_of_lt lb)
        · refine absurd (List.mem_singleton.mp q) ?_
          rw [sz]
          exact Nat.ne_of_lt (Nat.lt_succ_of_lt lb)
      · cases r2 with
        | error e => exact hr2
        | ok fl2 =>
          cases fl2 with
          | ret r =>
            obtain ⟨rfl, k, tk, rfl, fin, keep⟩ := hr2
            (repeat (any_goals (first | assumption | wp_step)))
            exact hQ k tk fin keep
          | _ => exact hr2.elim
    | _ => exact hr.elim
end
end Vk

namespace Vk
open PySem PySem.Spec PyProof.Rows L2
section
variable {P : Program} {w : World} {A : Around} {E : Value → Shared → Prop} {s : Shared}
theorem sorted_tset {a : Addr} {ks : List Str} {Q : Value → Shared → Prop} (r : TSet w s.heap a ks) (calm : A.handled = none) (few : ks.length < 64)
    (hQ : ∀ (s1 : Shared) (p : Addr) (out : Array Value) (c : Nat) (ys : List Str), (∀ b o, s.heap.get? b = some o → s1.heap.get? b = some o) → s1.gens = s.gens → s1.os = s.os →
      s.heap.objs.size ≤ p → s1.heap.get? p = some (seqObj "list" out c) → StrsAre out.toList ys → ys.Perm ks → sortedS ys = true → Q (.ref p) s1) :
    wpAny (model P w) A (call (.builtin "sorted") [.ref a]) Q E s := by
  obtain ⟨es, ep, t, raw, ent, pm⟩ := r.raw
  obtain ⟨o, ho, hx, hd⟩ := raw.obj
  refine Calls.call_function_entry kind_sorted plain_sorted entry_sorted (args_sorted1 (_)) ?_
  unfold Builtin.«sorted»
  refine wpAny_bind (m := checkCount "sorted" 1 1 (_)) (wpAny_pure ?_)
  refine wpAny_bind (collect_set (A := A.in1) calm ⟨o, ho, hx.1, hd⟩ raw.fits raw.few raw.ris raw.led fun s1 vs keep sz gs os perm => ?_)
  have all : ∀ v ∈ vs, ∃ x u, v = Value.str x u := fun v hv => by
    obtain ⟨e, he, rfl⟩ := List.mem_map.mp (perm.mem_iff.mp hv)
    obtain ⟨x, u, rfl⟩ := ent e he
    exact ⟨x, u, rfl⟩
  have ts : StrsAre vs (vs.map strOf) := strsAre_map vs all
  have pk : (vs.map strOf).Perm ks := by
    have q := perm.map strOf
    rw [List.map_map] at q
    exact q.trans pm
  have len : vs.length = ks.length := by
    have q := pk.length_eq
    rwa [List.length_map] at q
  refine wpAny_bind (wpAny_newList (hsz := by rw [len, sizeLine_eq]; omega) ?_)
  have got : (s1.heap.push (seqObj "list" vs.toArray 0)).get? s1.heap.objs.size = some (seqObj "list" vs.toArray 0) := Heap.get?_push_size _ rfl
  refine wpAny_bind (wpAny_holding (wpAny_call_entry slot_list_sort ⟨_, got, rfl⟩ entry_list_sort
    (list_sort_treeK strKind_oneLt got ts.keysOf (fun v1 v2 rest e => keyKind_strs (by rw [← e]; exact ts)) (by omega) fun st hp hs => ⟨_, rfl, ?_⟩) (args_list_sort _)))
  obtain ⟨ys, y1, y2, y3⟩ := sorted_out_str ts hp hs
  obtain ⟨c, hc⟩ := sortedHeap_at (vs := vs) (out := (arrOf st).map (·.2)) got
  refine wpAny_pure ⟨_, rfl, hQ _ s1.heap.objs.size _ c ys (fun b u e => ?_) gs os sz hc y1 (y2.trans pk) y3⟩
  have k := keep b u e
  have lt := Heap.lt_size k
  refine (sortedHeap_old (Nat.ne_of_lt lt) (by rw [size_push']; exact Nat.lt_succ_of_lt lt)).trans ?_
  exact Heap.get?_push_of_some _ k
end
/-! ### the same over the hand layer -/
def TSetO (w : World) (a : Addr) (ks : List Str) : HO := .ext fun h => TSet w h a ks
section
variable {X : Cx}
theorem tset_ok {P : Program} {w : World} {H : Hp} {h : Heap} {a : Addr} {ks : List Str} (r : TSet w h a ks) : ObjOk P w H h a (TSetO w a ks) :=
  ⟨r, let ⟨es, ep, t, raw, _⟩ := r.raw; let ⟨o, ho, _⟩ := raw.obj; ⟨o, ho⟩, fun _ _ q k => q.at k⟩
/-- set(x) of a list or tuple of texts -/
def rSetS (K : PySem.W.Frag) (w : World) : List V → Hp → VK → Prop := fun xs H Q => ∃ (l : Addr) (ss : List Str), xs = [.ref l] ∧ (SqL K H l (ss.map V.str) ∨ SqT K H l (ss.map V.str)) ∧
  ss.length ≤ 1000 ∧ ∀ p, H p = none → Q (.ref p) (upd H p (TSetO w p (dedK ss)))
theorem call_setS (calm : X.calm = true) : CallR X (.type "set") (rSetS X.K X.w) := by
  intro pins s σ H xs us Q I r h
  obtain ⟨l, ss, rfl, hq, few, q⟩ := h
  rw [Vals.ref1 r]
  have room : ss.length + 1 < scanBound := Nat.lt_of_le_of_lt (Nat.succ_le_succ few) (by decide)
  have fresh : H s.heap.objs.size = none := I.hok.fresh (Nat.le_refl _)
  have fin : ∀ (k : Heap) (tk : Nat), TSet X.w k s.heap.objs.size (dedK ss) → (∀ b o, s.heap.get? b = some o → k.get? b = some o) →
      EP X pins σ Q (.ref s.heap.objs.size) { s with heap := k, toks := tk } := fun k tk t keep =>
    ⟨.ref s.heap.objs.size, upd H s.heap.objs.size (TSetO X.w s.heap.objs.size (dedK ss)), I.laid (t' := tk) keep (Nat.le_refl _) (tset_ok t), rfl, q _ fresh⟩
  rcases hq with hq | hq
  · obtain ⟨its, rv, hl, _⟩ := I.list hq
    exact tset_list ss (I.ok.hd calm) hl.isList (by simpa using rv.strs) room fin
  · obtain ⟨its, rv, hl, _⟩ := I.tuple hq
    exact tset_tuple ss (I.ok.hd calm) hl (by simpa using rv.strs) room fin
/-- sorted(x) of such a set -/
def rSortedT (w : World) : List V → Hp → VK → Prop := fun xs H Q => ∃ (a : Addr) (ks : List Str), xs = [.ref a] ∧ H a = some (TSetO w a ks) ∧ ks.length < 64 ∧
  ∀ (ys : List Str) (p : Addr), ys.Perm ks → sortedS ys = true → ks.Nodup → H p = none → Q (.ref p) (upd H p (.lst (ys.map V.str)))
theorem call_sortedT (calm : X.calm = true) : CallR X (.builtin "sorted") (rSortedT X.w) := by
  intro pins s σ H xs us Q I r h
  obtain ⟨a, ks, rfl, ha, few, q⟩ := h
  rw [Vals.ref1 r]
  have t : TSet X.w s.heap a ks := (I.hok a _ ha).1
  refine sorted_tset t (I.ok.hd calm) few fun s1 p out c ys keep gs os sz got ts pm so => ?_
  have fresh : H p = none := I.hok.fresh sz
  have len : (ys.map V.str).length ≤ sizeLine := by
    rw [List.length_map, pm.length_eq, sizeLine_eq]
    omega
  have J : Inv X pins σ (upd H p (.lst (ys.map V.str))) { s with heap := s1.heap, gens := s1.gens, drawn := s1.drawn, toks := s1.toks } :=
    I.call (ch := []) (Un.laid keep sz fresh) (I.hok.laid keep sz ⟨len, out.toList, c, vals_of_strs ts, got⟩) (by rw [gs]; exact I.bare) (fun _ z => nomatch z)
  have e : s1 = { s with heap := s1.heap, gens := s1.gens, drawn := s1.drawn, toks := s1.toks } := by
    cases s1
    cases s
    cases os
    rfl
  rw [e]
  exact ⟨.ref p, _, J, rfl, q ys p pm so t.nd fresh⟩
end
end Vk

/-! operators of own classes; a, b in fields; data in order -/
namespace Vk
open PySem PySem.Spec PyProof.Rows L2

/-! ### x op y, both of the class at C, by the class's own def -/
def rBinOwn (C : Addr) (sp : Sp) (E : XK) : R2 := fun x y H Q => ∃ (a b dx dy : Addr) (fs gs : List (Str × V)), x = .ref a ∧ y = .ref b ∧ H a = some (.ins C dx fs) ∧ H b = some (.ins C dy gs) ∧
  sp [.ref a, .ref b] H (fun v H' => (∃ c, v = .ref c) ∧ Q v H') E
theorem op_own {X : Cx} {CX : CXT} {k : Nat} {op : Operator} {C f : Addr} {fd : FuncData} {ps : List Str} {sp : Sp} {E : XK} (F : FnOk X.prog X.w X.K X.mg X.base CX k f fd ps sp) (hr : Room k X.A) (hb : Binds X.K fd ps []) (hx : Passes CX X E)
    (hc : PySem.W.selfFirst X.K C = true) (hs : PySem.W.findIn X.K (.ref C) (PySem.dunder op.info.2) = some (some (.ref f))) (hf : PySem.W.isFn X.K (.ref f) = true) : OpR X (binaryOp op) (rBinOwn C sp E) := by
  intro pins s σ H x y u v Q I rx ry d
  obtain ⟨a, b, dx, dy, fs, gs, rfl, rfl, ha, hb', h⟩ := d
  cases rx
  cases ry
  obtain ⟨mA, J, _⟩ := ins_get I.hok ha
  obtain ⟨mB, J', _⟩ := ins_get I.hok hb'
  obtain ⟨od, J, _⟩ := J.look
  obtain ⟨od', J', _⟩ := J'.look
  obtain ⟨m, hF⟩ := I.fr
  refine PySem.W.binop_K hF I.ok.mod.kin J J'.type hc hs hf ?_
  refine wpAny_mono (run_fn (us := [.ref a, .ref b]) (vs := [.ref a, .ref b]) F hr hb (dvs := []) .nil hx I (.cons rfl (.cons rfl .nil)) h) (fun r s' hq => ?_) fun _ _ e => e
  obtain ⟨z, H', I', rz, ⟨c, rfl⟩, q⟩ := hq
  cases rz
  exact ⟨.ref c, H', I', rfl, q⟩

/-! ### o.f as a target -/
def gFld (K : PySem.W.Frag) (to : TE) (f : Str) : TG := fun y σ H Q => to σ H fun x H1 => ∃ a C dx fs, x = .ref a ∧ H1 a = some (.ins C dx fs) ∧ Cls K C ∧ NoAttr K C f ∧ fs.length < 1000 ∧ Q σ (upd H1 a (.ins C dx (putF f y fs)))
theorem pg_fld {X : Cx} {o : Expr} {f : Str} {pos : Pos} {to : TE} (ho : PE X o to)
    (ha : ∀ v, assign (.Attribute o f pos) X.env v = (do
      let ov ← holding [v] (eval o X.env)
      standAt pos.atName
      holding [v, ov] (setAttr ov f v)
      release [v, ov] []) := by intro _; rfl) : PG X (.Attribute o f pos) (gFld X.K to f) := by
  refine ⟨fun pins s σ H v u Q I r h => ?_⟩
  rw [ha]
  refine wpAny_bind (wpAny_holding (thn (ho.run pins s σ H _ I h) fun ov s1 ⟨x, H1, I1, r1, a, C, dx, fs, ex, ea, c, n, l, q⟩ => ?_))
  subst ex
  obtain rfl : ov = Value.ref a := r1
  refine wpAny_bind (wpAny_standAt (wpAny_bind (wpAny_holding (setattr_ok I1 ea c n l r fun s3 I3 => ?_))))
  exact wpAny_release ⟨σ, _, I3, q⟩

/-! ### data in order -/
/-- x < y, alike data -/
def rLtD (K : PySem.W.Frag) : R2 := fun x y H Q => ∃ d e, Dp K H x d ∧ Dp K H y e ∧ PySem.W.alike d e = true ∧ d ≠ .none ∧ min d.depth e.depth ≤ 60 ∧ Q (.bl (PySem.W.dataLt d e)) H
theorem op_ltD {X : Cx} (hu : X.A.units + 64 < cLine) : OpR X (compareOp .Lt) (rLtD X.K) := by
  intro pins s σ H x y v u Q I rx ry h
  obtain ⟨d, e, hd, he, al, nn, dp, q⟩ := h
  obtain ⟨as, r1⟩ := Dp.reads I d x v hd rx
  obtain ⟨bs, r2⟩ := Dp.reads I e y u he ry
  exact PySem.W.rcLt_alike d e X.A s v u as bs r1 r2 al nn (by omega) X.prog X.w _ _ ⟨.bl _, H, I, rfl, q⟩
theorem minD_mem : ∀ (xs : List PyData) (x : PyData), PySem.W.minD x xs ∈ x :: xs
  | [], x => List.mem_cons_self ..
  | y :: ys, x => by
    show PySem.W.minD (if PySem.W.dataLt y x then y else x) ys ∈ _
    have h := minD_mem ys (if PySem.W.dataLt y x then y else x)
    rcases List.mem_cons.mp h with h | h
    · rw [h]
      split
      · exact List.mem_cons_of_mem _ (List.mem_cons_self ..)
      · exact List.mem_cons_self ..
    · exact List.mem_cons_of_mem _ (List.mem_cons_of_mem _ h)
def rMinD (K : PySem.W.Frag) : List V → Hp → VK → Prop := fun vs H Q => ∃ (a : Addr) (xs : List V) (d : PyData) (ds : List PyData), vs = [V.ref a] ∧ SqL K H a xs ∧ DpAll K H xs (d :: ds) ∧ PySem.W.AlikeAll (d :: ds) ∧ PyData.depthAll (d :: ds) ≤ 60 ∧
  ∀ y, y ∈ xs → Dp K H y (PySem.W.minD d ds) → Q y H
theorem cr_minD {X : Cx} (hc : X.calm = true) (hu : X.A.units + 64 < cLine) : CallR X (.builtin "min") (rMinD X.K) := by
  intro pins s σ H vs us Q I r h
  obtain ⟨a, xs, d, ds, rfl, hs, hd, al, dp, q⟩ := h
  obtain ⟨its, rv, hl, _⟩ := I.list hs
  rw [Vals.ref1 r]
  obtain ⟨as, hr⟩ := Dp.readsAll I (d :: ds) xs its hd rv
  refine PySem.W.min_list_data (vs := its.toArray) (I.ok.hd hc) hl.isList (by simpa using hr) al (by omega) fun i v h' tk bs hv rd hk => ?_
  have hv' : its[i]? = some v := by simpa using hv
  have hi : i < xs.length := by
    rw [rv.length]
    exact (List.getElem?_eq_some_iff.mp hv').1
  have hy : xs[i]? = some xs[i] := List.getElem?_eq_getElem hi
  obtain ⟨v2, e2, ry⟩ := Vals.get rv hy
  obtain rfl := Option.some.inj (hv'.symm.trans e2)
  have hi2 : i < (d :: ds).length := by
    rw [← DpAll.length hd]
    exact hi
  have hdi : (d :: ds)[i]? = some (d :: ds)[i] := List.getElem?_eq_getElem hi2
  obtain ⟨y', hy', dy⟩ := DpAll.get hd hdi
  obtain rfl := Option.some.inj (hy.symm.trans hy')
  obtain ⟨cs, r1⟩ := Dp.reads I _ _ v dy ry
  have e : (d :: ds)[i] = PySem.W.minD d ds := PySem.W.alike_unique _ _ v cs bs (al.1 _ (List.getElem_mem hi2) _ (minD_mem ds d)) (PySem.W.reads_keeps hk r1) rd
  rw [e] at dy
  exact ⟨xs[i], H, I.kept (t' := tk) hk, ry, q _ (List.getElem_mem hi) dy⟩
end Vk

/-! list(d.values()) -/
namespace Vk
open PySem PySem.Spec PyProof.Rows L2
def tListVals (te : TE) : TE := fun σ H Q => te σ H fun x H1 => ∃ (d : Addr) (kvs : List (Key × V)), x = .ref d ∧ H1 d = some (.dK kvs) ∧ ∀ q, H1 q = none → Q (.ref q) (upd H1 q (.lst (kvs.map Prod.snd)))
theorem pe_listVals {X : Cx} {e : Expr} {te : TE} {p apos cpos pos : Pos} (hc : X.calm = true) (he : PE X e te) (hg : Gl X "list") (hm : X.mg "list" = none) (hv : bootBuiltins "list" = some (.type "list")) (hbase : attributeBase e "values" X.env (eval e X.env) = eval e X.env := by rfl) (hline : (apos.endLine == cpos.line) = true := by rfl)
    (hs : starEach [.Call (.Attribute e "values" apos) [] [] cpos] X.env = (false, eval (.Call (.Attribute e "values" apos) [] [] cpos) X.env) :: starEach [] X.env := by rfl) :
    PE X (.Call (.Name "list" p) [.Call (.Attribute e "values" apos) [] [] cpos] [] pos) (tListVals te) := by
  refine ⟨fun pins s σ H Q I hq => ?_⟩
  refine wpAny_Call_Name_kw (ld_blt I hg hm hv ?_)
  refine PyProof.Rows.callWith_type1 ?_ hs rfl
  rw [hs]
  show wpAny _ _ (spliced ((false, eval (.Call (.Attribute e "values" apos) [] [] cpos) X.env) :: backTo pos (starEach [] X.env))) _ _ s
  refine Calls.spliced_cons ?_
  refine wpAny_Call_method (T := "dict") (id := "dict.values") hbase rfl hline F.plainAttrs_dict F.slot_dict_values F.type_dict_values (thn (he.run pins s σ H _ I hq) fun u s1 ⟨x, H1, I1, rx, d, kvs, ex, hd, q⟩ => ?_)
  subst ex
  obtain rfl : u = Value.ref d := rx
  obtain ⟨hz, hs0, vs, kv, hdo⟩ := I1.hok d _ hd
  obtain ⟨ep, hat⟩ := hdo.dictAt
  have lk : kvs.length = vs.length := Paired.length kv
  have I2 : Inv X pins σ H1 { s1 with heap := s1.heap.push { cls := .type "dict_values", data := .fields #[.ref d] } } := I1.kept (t' := s1.toks) fun b ob q => Heap.get?_push_of_some _ q
  refine ⟨hdo.typeIs, hdo.mapOf.noDict, ?_⟩
  show wpAny _ _ (callWith cpos (.builtin "dict.values") [.ref d] [] []) _ X.xe s1
  refine method_meetsIn F.slot_dict_values F.entry_dict_values rfl (PySem.evalArgs_none ⟨rfl, hdo.typeIs, F.args_dict_values_1 _, _, meets_dict_values (mixKind X.prog X.w) d hs0, ⟨vs, hdo⟩, ?_⟩)
  refine Calls.spliced_nil ?_
  refine PySem.W.kdl_call (PySem.W.kdl_values (knd := mixKind X.prog X.w) (kvs := vs) (ep := ep)) (I1.ok.hd hc) ⟨⟨_, Heap.get?_push_size _ rfl, rfl, rfl⟩, hat.push _⟩ (by rw [← lk]; exact hz) fun h' tk acc' c' hk hS hacc => ?_
  refine ⟨.ref _, upd H1 _ (.lst (kvs.map Prod.snd)), I2.laid hk (Nat.le_refl _) (show ObjOk X.prog X.w _ _ _ (.lst (kvs.map Prod.snd)) from ⟨?_, acc'.toList, c', ?_, ?_⟩), rfl, q _ (I2.hok.fresh (Nat.le_refl _))⟩
  · rw [List.length_map]
    exact hz
  · have el : acc'.toList.length = acc'.size := by simp
    refine vals_of_at (by rw [List.length_map, el, hacc.1, lk]) fun j x w h1 h2 => ?_
    obtain ⟨k, hky⟩ := hacc.2 j w (by rw [← Array.getElem?_toList]; exact h2)
    rw [List.getElem?_map] at h1
    obtain ⟨pk, e1, rfl⟩ := Option.map_eq_some_iff.mp h1
    obtain ⟨qv, g1, g2, g3⟩ := paired_get kv e1
    rw [hky] at g1
    cases g1
    exact g3
  · rw [Array.toArray_toList]
    exact hS
end Vk

/-! a dict comprehension that is stored at a name, over anything that is walked -/
namespace Vk
open PySem PySem.Spec PyProof.Rows L2
/-- the premises of a block of one clause -/
structure BlkD (X : Cx) (kx vx tgt it : Expr) (tests : List Expr) (sco : Scope) (ow : List (Str × Nat)) (wi : TI) (gt : TG) (tt : TT) (tk tv : TE) : Prop where
  calm : X.calm = true
  nd : X.N.Nodup
  pi : PI X tgt it wi
  blk : BlkOk X.N X.env.scope sco ow
  pg : ∀ (s : Shared) (H : Hp) (C : Addr) (cl : List (Str × Addr)) (fp : List Addr), PG (X.blk s H sco (compEnvC sco cl C X.env) fp) tgt gt
  pt : ∀ (s : Shared) (H : Hp) (C : Addr) (cl : List (Str × Addr)) (fp : List Addr), PTs (X.blk s H sco (compEnvC sco cl C X.env) fp) tests tt
  pk : ∀ (s : Shared) (H : Hp) (C : Addr) (cl : List (Str × Addr)) (fp : List Addr), PE (X.blk s H sco (compEnvC sco cl C X.env) fp) kx tk
  pv : ∀ (s : Shared) (H : Hp) (C : Addr) (cl : List (Str × Addr)) (fp : List Addr), PE (X.blk s H sco (compEnvC sco cl C X.env) fp) vx tv
theorem ps_setDc {X : Cx} {j : Nat} {nm : Str} {np cp sp : Pos} {kx vx tgt it : Expr} {tests : List Expr} {sco : Scope} {ow : List (Str × Nat)} {wi : TI} {gt : TG} {tt : TT} {tk tv : TE}
    (B : BlkD X kx vx tgt it tests sco ow wi gt tt tk tv) (at_ : X.N[j]? = some nm) (lo : X.env.scope.names.lookup nm = some .local)
    (sw : swapsWith (.DictComp kx vx [⟨tgt, it, tests, 0⟩] sco cp) (some (.Name nm np)) sp.line X.env = pure true) (fs : ∀ x, foldedSetIterable it X.env x = pure x := by intro _; rfl) :
    PS X (.Assign [.Name nm np] (.DictComp kx vx [⟨tgt, it, tests, 0⟩] sco cp) sp) (tAsg (tDc wi gt tt tk tv (ow.map (·.2))) (gName j)) := by
  refine ⟨fun pins s σ H D I want => ?_⟩
  rw [exec_Assign_Name_used _ _ _ _ sw]
  refine wpAny_bind (wpAny_standAt (wpAny_bind ?_))
  show wpAny _ X.A (do
    let _ ← comprehension (.DictComp kx vx [⟨tgt, it, tests, 0⟩] sco cp) sco X.env (firstIterPos [⟨tgt, it, tests, 0⟩] cp) newDict false (eval it X.env) (some (assign (.Name nm np) X.env))) _ _ s
  have want' : tDc wi gt tt tk tv (ow.map (·.2)) σ H (fun x H1 => gName j x σ H1 D.nx) := want
  have core := dc_core (pos := cp) (pos' := firstIterPos [⟨tgt, it, tests, 0⟩] cp) (use := some (assign (.Name nm np) X.env)) (Qf := fun _ s' => SP X pins D .next s') B.calm B.nd I B.pi B.blk B.pg B.pt B.pk B.pv fs want' fun L C s' m H' J q ns fr => by
    show wpAny _ _ (assign (.Name nm np) X.env (.ref L)) _ _ _
    refine wpAny_assign_Name (store_ok2 (v := V.ref L) J B.nd at_ (.inl lo) rfl (fun s2 J2 ⟨a, but, alt⟩ => ?_) (.inr lo))
    obtain ⟨c0, c1, c2, c3, c4, c5⟩ := fr
    have off : C ≠ a := alt.elim (fun z => by rw [z]; exact c1) fun z e => c4 nm a z e.symm
    exact ⟨m, ns.sameBut but off, fun h3 but3 => ⟨_, H', J2.turned (t' := s2.toks) (fun b o hb e => (but3.2 b hb).trans e) c0 c1 c3 c4 c5, q⟩⟩
  exact wpAny_bind (thn core fun _ s' done => wpAny_pure (wpAny_pure done))
theorem swD_true {kx vx : Expr} {cs : List Comprehension} {sco : Scope} {cp np : Pos} {nm : Str} {ln : Nat} {env : Env} (fn : env.scope.kind = .function) (lo : env.scope.names.lookup nm = some .local) (li : (np.line == cp.line) = true)
    (un : (sco.names.any fun (n, k) => n == nm && (k == .local || k == .cell)) = false) : swapsWith (.DictComp kx vx cs sco cp) (some (.Name nm np)) ln env = pure true := by
  have k1 : env.kindOf nm = some .local := lo
  have k2 : env.blockKind = .function := by
    unfold Env.blockKind
    rw [fn]
    rfl
  unfold swapsWith
  simp only [k2, k1, un, Expr.pos, li]
  rfl
/-- the walk of such a block: Pv by the turn and the heap -/
theorem dc_it {J : It} {n : Nat} {G : Hp → Prop} {Y : Nat → Hp → V → Hp → Prop} (w : Walk J n G Y) {gt : TG} {tt : TT} {tk tv : TE} {sl : List Nat} {σ : L2.St} {H1 : Hp} {D : Addr} {Qd : Hp → Prop} (Pv : Nat → Hp → Prop)
    (first : Pv 0 (upd H1 D (.dK []))) (good : ∀ i H, i ≤ n → Pv i H → G H)
    (turn : ∀ i x H H', i < n → Pv i H → Y i H x H' → gt x (wipe σ sl) H' fun σ2 H2 => wipe σ2 sl = wipe σ sl ∧ tt σ2 H2 fun b H3 =>
      if b = true then tk σ2 H3 fun y H4 => tv σ2 H4 fun z H5 => ∃ kvs k, y = kV k ∧ H5 D = some (.dK kvs) ∧ kvs.length < sizeLine ∧ Pv (i + 1) (upd H5 D (.dK (putK kvs k z))) else Pv (i + 1) H3)
    (last : ∀ H, Pv n H → Qd H) :
    ∃ W : Nat → Nat → Hp → Prop, (∃ m, W 0 m (upd H1 D (.dK []))) ∧ ∀ i m H, W i m H →
      (J.stop i H ∧ Qd H) ∨ (J.go i H ∧ ∃ Nx : Hp → Prop, (∀ H', Nx H' → ∃ m', m' < m ∧ W (i + 1) m' H') ∧ ∀ x H', J.yld i H x H' → gt x (wipe σ sl) H' fun σ2 H2 => wipe σ2 sl = wipe σ sl ∧ tt σ2 H2 fun b H3 =>
        if b = true then tk σ2 H3 fun y H4 => tv σ2 H4 fun z H5 => ∃ kvs k, y = kV k ∧ H5 D = some (.dK kvs) ∧ kvs.length < sizeLine ∧ Nx (upd H5 D (.dK (putK kvs k z))) else Nx H3) := by
  refine ⟨fun i m H => m + i = n ∧ Pv i H, ⟨n, rfl, first⟩, fun i m H h => ?_⟩
  obtain ⟨sum, pv⟩ := h
  have g := good i H (by omega) pv
  rcases Nat.lt_or_ge i n with lt | ge
  · exact .inr ⟨w.goes i H lt g, Pv (i + 1), fun H' pv' => ⟨n - (i + 1), by omega, by omega, pv'⟩, fun x H' y => turn i x H H' lt pv (w.yields i H x H' lt g y)⟩
  · obtain rfl : i = n := by omega
    exact .inl ⟨w.stops H g, last H pv⟩
end Vk

/-! errors without a field: made, kept, told apart -/
namespace Vk
open PySem PySem.Spec PyProof.Rows L2
/-- raise X(), X an own error class without an own __init__ -/
theorem pmk_own0 {X : Cx} {C : Addr} {bmB : List Value} {B newId initId : String} {x : Str} {p pos : Pos} (F : ExcBaseFacts B newId initId bmB) (isE : PySem.W.excIn X.K C bmB newId = true) (at_ : X.mg x = some (.ref C))
    (kp : PySem.W.keepIn X.K (.ref C) = true) (ra : Raises X (.ref C)) (gl : Gl X x) (nd : (x == ("__debug__" : Str)) = false := by decide) : PMk X (.Call (.Name x p) [] [] pos) (fun _ H Q => Q (.ref C) none H) := by
  intro pins s σ H Q I want
  refine wpAny_Call_Name_kw (ld_glob I gl at_ ?_ nd)
  refine PySem.W.callWith_K0 I.kIn kp ?_
  show wpAny _ _ (call (.ref C) []) _ _ _
  obtain ⟨bm, N, nm, qn, bs, hdct, sn, sub, ab, col, dd, k0, k1, k2, k3, k5, mN, hC, hN, hni, T⟩ := exc_obj I.kIn isE
  exact wpAny_call_exc_subT F T hC hN hni (fun h' e made => mk_of I made ra want (I.hok.gone made.new)) (Nat.zero_le _)
/-- isinstance(e, c), e a kept error without a dict -/
def rIsK0 (K : PySem.W.Frag) : List V → Hp → VK → Prop := fun xs H Q => ∃ (a D : Addr) (c : V) (cv : Value) (b : Bool), xs = [.ref a, c] ∧ H a = some (CE (.ref D) none a) ∧ ExcC K D ∧ (∀ u, RelV c u → u = cv) ∧ PySem.W.kitOne K (.ref D) cv = some b ∧ Q (.bl b) H
theorem call_isK0 {X : Cx} : CallR X (.builtin "isinstance") (rIsK0 X.K) := by
  intro pins s σ H xs us Q I r want
  obtain ⟨a, D, c, cv, b, rfl, ce, C, cls, kit, q⟩ := want
  obtain ⟨u1, u2, rfl, r1, r2⟩ := vals2 r
  cases r1
  obtain rfl := cls _ r2
  obtain ⟨oe, vs, hget, hz, hv⟩ := cE_at I.hok ce
  have J : PySem.W.InstAt s.heap a oe D none := ⟨hget, hz.1, by
    unfold PySem.W.notCls
    rw [hv] <;> rfl, by
    rw [hz.2]
    trivial⟩
  have kx := PySem.W.handS_kitx_exc (x := a) (ox := oe) C.hg C.hk C.hs C.hd C.ha C.hn C.ht C.hm
  refine PySem.W.kia_one kx I.kIn J kit (by intro z; cases z) ?_
  intro tk
  exact ⟨V.bl b, H, I.tok tk, rfl, q⟩
theorem call_isKB {X : Cx} : CallR X (.builtin "isinstance") (fun xs H Q => rIsK X.K xs H Q ∨ rIsK0 X.K xs H Q ∨ rIsi X.K xs H Q) := fun pins s σ H xs us Q I r want =>
  want.elim (call_isK pins s σ H xs us Q I r) fun w => w.elim (call_isK0 pins s σ H xs us Q I r) (call_isi pins s σ H xs us Q I r)
end Vk

namespace Vk
open PySem PySem.Spec PyProof.Rows L2 StX
/-! ### def f(*v, k = d), called by three values -/
theorem three {α : Type} {vs : List α} (h : vs.length = 3) : ∃ a b c, vs = [a, b, c] := match vs, h with | [a, b, c], _ => ⟨a, b, c, rfl⟩
theorem vals_in {v : V} {vs : List V} {us : List Value} (r : Vals (v :: vs) us) : ∃ u us', us = u :: us' ∧ RelV v u ∧ Vals vs us' := by
  cases r with
  | cons a b => exact ⟨_, _, rfl, a, b⟩
theorem fn_star3K {CX : CXT} {P : Program} {w : World} {K : PySem.W.Frag} {mg : Str → Option Value} {base : Heap} {x qual : Str} {params : Arguments} {body : List Stmt} {scope : Scope} {pk pv : Str} {d : V} {f : Addr} {fd : FuncData} {N : List Str} {k : Nat} {sp : Sp}
    (F : FunD K x qual params body scope [] [(pk, d)] f fd) (S : FnScope N [pk, pv] scope) (hCX : CXUp CX)
    (hb : ∀ (D : Addr) (doc pm : Value) (an : Option Addr) (cdv ct r1 r2 r3 : Value), ∃ (β γ : Type) (k1 : Option Value → Sem β) (k2 : β → Sem γ) (k3 : γ → Sem (List (Str × Value))),
      bindArgs (PySem.W.fnOf x qual params body scope .none (.ref D) doc pm an cdv ct) ⟨[r1, r2, r3], []⟩ = ((nsGet D pk >>= k1) >>= k2) >>= k3 ∧ ∀ v, ∃ a, k1 (some v) = pure a ∧ (k2 a >>= k3) = (newTuple [r1, r2, r3] >>= fun t => pure [(pk, v), (pv, t)]))
    (hbody : ∀ (cdv : Value) (A : Around) (outer : List Env) (s : Shared) (H : Hp) (vs : List V) (Q : VK) (E : XK), Room k (A.deeper (envOfC qual scope s.heap.objs.size f cdv)) → sp vs H Q E →
      ∃ t, PSs (cxOf CX P w K mg base N qual scope f cdv A outer s H E) body t ∧ t { nx := fun _ H' => Q .non H', rt := Q } (start N vs) H) :
    FnR P w K mg base CX (k + 1) f (fun vs H Q E => vs.length = 3 ∧ ∀ p, H p = none → sp [d, .ref p] (upd H p (.tup vs)) Q E) := by
  obtain ⟨oc, od, dV, kV, doc, pm, an, cdv, ct, osl, rfl, lk, hcd, hD, hK⟩ := F.ex
  rcases hD with ⟨_, rfl⟩ | ⟨e, _⟩
  rotate_left
  · exact absurd rfl e
  rcases hK with e | ⟨D, rfl, hq⟩
  · cases e
  intro A outer s H us vs Q E hr e0 r hsp
  obtain ⟨hl, hq2⟩ := hsp
  obtain ⟨v1, v2, v3, rfl⟩ := three hl
  obtain ⟨u1, _, rfl, r1, r⟩ := vals_in r
  obtain ⟨u2, _, rfl, r2, r⟩ := vals_in r
  obtain ⟨u3, _, rfl, r3, r⟩ := vals_in r
  cases r
  have hn : H s.heap.objs.size = Option.none := e0.hok.fresh (Nat.le_refl _)
  have KX : K.In s.heap := e0.mod.kin.keeps fun b o e => (e0.bs b o e).1
  have rr : Vals [v1, v2, v3] [u1, u2, u3] := .cons r1 (.cons r2 (.cons r3 .nil))
  refine run_bnd lk hcd S hr e0 (G := fun xs H2 => ∃ p, H p = Option.none ∧ xs = [d, V.ref p] ∧ H2 = upd H p (.tup [v1, v2, v3])) (fun A' Ex Q' h => ?_) fun s2 H2 xs ⟨p, hp, ex, eH⟩ hr' => ?_
  · obtain ⟨β, γ, k1, k2, k3, e, hk⟩ := hb D doc pm an cdv ct u1 u2 u3
    obtain ⟨u, hu, ru⟩ := hq (pk, d) (List.mem_singleton.mpr rfl)
    obtain ⟨a, ea, e2⟩ := hk u
    have l1 : PySem.W.Looks (model P w) s.heap (nsGet D pk >>= k1) a := (PySem.W.looks_nsIn KX hu).andThen (PySem.W.Looks.of_pure ea)
    rw [e, bind_assoc]
    refine wpAny_bind (l1.here ?_)
    rw [e2]
    refine wpAny_bind (wpAny_newTuple (wpAny_pure ?_) (by show 3 ≤ sizeLine; decide))
    have hz : ([v1, v2, v3] : List V).length ≤ sizeLine := by show 3 ≤ sizeLine; decide
    have new : ObjOk P w (upd H s.heap.objs.size (.tup [v1, v2, v3])) (s.heap.push ({ cls := .type "tuple", data := .seq [u1, u2, u3].toArray } : Obj)) s.heap.objs.size (.tup [v1, v2, v3]) := ⟨hz, [u1, u2, u3], rr, ⟨_, Heap.get?_push_size _ rfl, rfl, _, rfl⟩⟩
    have un := un_laid (fs := frs outer) (s := s) (o := ({ cls := .type "tuple", data := .seq [u1, u2, u3].toArray } : Obj)) (u := .tup [v1, v2, v3]) hn
    exact h _ _ [d, V.ref s.heap.objs.size] [u, Value.ref s.heap.objs.size] (env0_laid e0 new) un rfl (fun e s' => hCX outer s H _ _ E e s' un (fun b o q => Heap.get?_push_of_some _ q) rfl) (.cons ru (.cons rfl .nil)) rfl ⟨_, hn, rfl, rfl⟩
  · subst ex eH
    exact hbody cdv A outer s2 _ _ Q E hr' (hq2 p hp)
section
variable {X : Cx} {CX : CXT} {k : Nat} {f : Addr} {sp : Sp} {E : XK} {x : Str} {p pos : Pos} {e : Expr} {es : List Expr} {t : TA}
def tCallR (sp : Sp) (E : XK) (t : TA) : TE := fun σ H Q => t σ H fun vs H1 => sp vs H1 Q E
/-- f(e, ..), f a def that makes objects while it binds -/
theorem pe_callR (F : FnR X.prog X.w X.K X.mg X.base CX k f sp) (hr : Room k X.A) (hg : Gl X x) (hm : X.mg x = some (.ref f)) (hk : PySem.W.keepIn X.K (.ref f) = true) (hx : Passes CX X E)
    (ha : PA X (e :: es) t) (hdb : (x == ("__debug__" : Str)) = false := by decide) (he : starEach (e :: es) X.env = (false, eval e X.env) :: starEach es X.env := by rfl) (hpl : (backTo pos (starEach es X.env)).any (·.1) = false := by rfl) :
    PE X (.Call (.Name x p) (e :: es) [] pos) (tCallR sp E t) := by
  refine ⟨fun pins s σ H Q I h => ?_⟩
  refine wpAny_Call_Name_kw (ld_glob I hg hm ?_ hdb)
  refine PySem.W.callWith_K (h₀ := X.base) I.ok.mod.kin hk (thn (ha.run pos pins s σ H _ I h) fun us s1 ⟨vs, H1, I1, r, q⟩ => ⟨I1.kIn, ?_⟩) he hpl
  exact wpAny_call (run_fnR F hr hx I1 r q)
end
end Vk

namespace K33
open PySem PySem.Spec PyProof.Rows L2 Vk
def top (i : Nat) : Stmt := PySem.Challenge.pw_layoutsets_k32_best_layouts_of_long_text.main.body.getD i (.Pass ⟨0, 0, 0, 0⟩)
abbrev s_is_whole : Stmt := top 3
abbrev N_is_whole : List Str := ["thing"]
abbrev P_is_whole : List Str := ["thing"]
theorem sc_is_whole : FnScope N_is_whole ["thing"] (defScope s_is_whole) := ⟨rfl, rfl, rfl, by decide +kernel, rfl, by decide +kernel, by decide +kernel⟩
abbrev s_is_steps : Stmt := top 4
abbrev N_is_steps : List Str := ["thing"]
abbrev P_is_steps : List Str := ["thing"]
theorem sc_is_steps : FnScope N_is_steps ["thing"] (defScope s_is_steps) := ⟨rfl, rfl, rfl, by decide +kernel, rfl, by decide +kernel, by decide +kernel⟩
abbrev s_is_plain : Stmt := top 5
abbrev N_is_plain : List Str := ["thing", "sign"]
abbrev P_is_plain : List Str := ["thing"]
theorem sc_is_plain : FnScope N_is_plain ["thing"] (defScope s_is_plain) := ⟨rfl, rfl, rfl, by decide +kernel, rfl, by decide +kernel, by decide +kernel⟩
abbrev s_gaps : Stmt := top 17
abbrev N_gaps : List Str := ["kind", "own", "inner", "gaps", "part"]
abbrev P_gaps : List Str := ["kind", "own", "inner"]
theorem sc_gaps : FnScope N_gaps ["kind", "own", "inner"] (defScope s_gaps) := ⟨rfl, rfl, rfl, by decide +kernel, rfl, by decide +kernel, by decide +kernel⟩
abbrev s_counts : Stmt := top 18
abbrev N_counts : List Str := ["kind", "own", "inner", "first", "last"]
abbrev P_counts : List Str := ["kind", "own", "inner"]
theorem sc_counts : FnScope N_counts ["kind", "own", "inner"] (defScope s_counts) := ⟨rfl, rfl, rfl, by decide +kernel, rfl, by decide +kernel, by decide +kernel⟩
abbrev s_is_settled : Stmt := top 19
abbrev N_is_settled : List Str := ["kind", "flat", "inner", "part"]
abbrev P_is_settled : List Str := ["kind", "flat", "inner"]
theorem sc_is_settled : FnScope N_is_settled ["kind", "flat", "inner"] (defScope s_is_settled) := ⟨rfl, rfl, rfl, by decide +kernel, rfl, by decide +kernel, by decide +kernel⟩
abbrev s_text : Stmt := top 23
abbrev N_text : List Str := ["string"]
abbrev P_text : List Str := ["string"]
theorem sc_text : FnScope N_text ["string"] (defScope s_text) := ⟨rfl, rfl, rfl, by decide +kernel, rfl, by decide +kernel, by decide +kernel⟩
abbrev s_line : Stmt := top 24
abbrev N_line : List Str := ["flat"]
abbrev P_line : List Str := ["flat"]
theorem sc_line : FnScope N_line ["flat"] (defScope s_line) := ⟨rfl, rfl, rfl, by decide +kernel, rfl, by decide +kernel, by decide +kernel⟩
abbrev s_refuse_non_docs : Stmt := top 25
abbrev N_refuse_non_docs : List Str := ["things", "thing"]
abbrev P_refuse_non_docs : List Str := ["things"]
theorem sc_refuse_non_docs : FnScope N_refuse_non_docs ["things"] (defScope s_refuse_non_docs) := ⟨rfl, rfl, rfl, by decide +kernel, rfl, by decide +kernel, by decide +kernel⟩
abbrev s_refuse_holes : Stmt := top 26
abbrev N_refuse_holes : List Str := ["doc"]
abbrev P_refuse_holes : List Str := ["doc"]
theorem sc_refuse_holes : FnScope N_refuse_holes ["doc"] (defScope s_refuse_holes) := ⟨rfl, rfl, rfl, by decide +kernel, rfl, by decide +kernel, by decide +kernel⟩
abbrev s_joined : Stmt := top 27
abbrev N_joined : List Str := ["between", "docs", "whole", "doc"]
abbrev P_joined : List Str := ["between", "docs"]
theorem sc_joined : FnScope N_joined ["between", "docs"] (defScope s_joined) := ⟨rfl, rfl, rfl, by decide +kernel, rfl, by decide +kernel, by decide +kernel⟩
abbrev s_best : Stmt := top 33
abbrev N_best : List Str := ["doc", "width", "column", "indent", "search", "ending", "full", "rows", "own", "begun", "page", "row"]
abbrev P_best : List Str := ["doc", "width", "column", "indent"]
theorem sc_best : FnScope N_best ["doc", "width", "column", "indent"] (defScope s_best) := ⟨rfl, rfl, rfl, by decide +kernel, rfl, by decide +kernel, by decide +kernel⟩
abbrev s_refuse_wrong_numbers : Stmt := top 34
abbrev N_refuse_wrong_numbers : List Str := ["width", "column", "indent", "number"]
abbrev P_refuse_wrong_numbers : List Str := ["width", "column", "indent"]
theorem sc_refuse_wrong_numbers : FnScope N_refuse_wrong_numbers ["width", "column", "indent"] (defScope s_refuse_wrong_numbers) := ⟨rfl, rfl, rfl, by decide +kernel, rfl, by decide +kernel, by decide +kernel⟩
abbrev s_written : Stmt := top 36
abbrev N_written : List Str := ["states", "string", "width", "made", "column", "excess", "lines", "full", "rows", "own", "begun", "end", "state", "at"]
abbrev P_written : List Str := ["states", "string", "width"]
theorem sc_written : FnScope N_written ["states", "string", "width"] (defScope s_written) := ⟨rfl, rfl, rfl, by decide +kernel, rfl, by decide +kernel, by decide +kernel⟩
abbrev s_broken : Stmt := top 37
abbrev N_broken : List Str := ["states", "steps", "indent", "width", "excess", "lines", "full", "rows", "own", "begun", "column"]
abbrev P_broken : List Str := ["states", "steps", "indent", "width"]
theorem sc_broken : FnScope N_broken ["states", "steps", "indent", "width"] (defScope s_broken) := ⟨rfl, rfl, rfl, by decide +kernel, rfl, by decide +kernel, by decide +kernel⟩
abbrev s_merged : Stmt := top 38
abbrev N_merged : List Str := ["one", "other", "made", "column", "state"]
abbrev P_merged : List Str := ["one", "other"]
theorem sc_merged : FnScope N_merged ["one", "other"] (defScope s_merged) := ⟨rfl, rfl, rfl, by decide +kernel, rfl, by decide +kernel, by decide +kernel⟩
abbrev s_pruned : Stmt := top 39
abbrev N_pruned : List Str := ["states", "kept", "least", "column", "state"]
abbrev P_pruned : List Str := ["states"]
theorem sc_pruned : FnScope N_pruned ["states"] (defScope s_pruned) := ⟨rfl, rfl, rfl, by decide +kernel, rfl, by decide +kernel, by decide +kernel⟩
abbrev s_l_at : Stmt := top 41
abbrev N_l_at : List Str := ["_law_script", "_law_k"]
abbrev P_l_at : List Str := ["_law_script", "_law_k"]
theorem sc_l_at : FnScope N_l_at ["_law_script", "_law_k"] (defScope s_l_at) := ⟨rfl, rfl, rfl, by decide +kernel, rfl, by decide +kernel, by decide +kernel⟩
abbrev s_l_mixed : Stmt := top 42
abbrev N_l_mixed : List Str := ["_law_cell", "_law_k", "_law_number"]
abbrev P_l_mixed : List Str := ["_law_cell", "_law_k"]
theorem sc_l_mixed : FnScope N_l_mixed ["_law_cell", "_law_k"] (defScope s_l_mixed) := ⟨rfl, rfl, rfl, by decide +kernel, rfl, by decide +kernel, by decide +kernel⟩
abbrev s_l_purse : Stmt := top 43
abbrev N_l_purse : List Str := ["_law_script", "_law_at_here", "_law_cell"]
abbrev P_l_purse : List Str := ["_law_script", "_law_at_here"]
theorem sc_l_purse : FnScope N_l_purse ["_law_script", "_law_at_here"] (defScope s_l_purse) := ⟨rfl, rfl, rfl, by decide +kernel, rfl, by decide +kernel, by decide +kernel⟩
abbrev s_l_draw : Stmt := top 44
abbrev N_l_draw : List Str := ["_law_purse_here", "_law_out_of", "_law_drawn", "_law_number", "_law_k"]
abbrev P_l_draw : List Str := ["_law_purse_here", "_law_out_of"]
theorem sc_l_draw : FnScope N_l_draw ["_law_purse_here", "_law_out_of"] (defScope s_l_draw) := ⟨rfl, rfl, rfl, by decide +kernel, rfl, by decide +kernel, by decide +kernel⟩
abbrev s_l_rows : Stmt := top 45
abbrev N_l_rows : List Str := ["_law_words", "_law_flats", "_law_steps", "_law_wide", "_law_deep", "_law_count", "_law_found", "_law_k"]
abbrev P_l_rows : List Str := ["_law_words", "_law_flats", "_law_steps", "_law_wide", "_law_deep"]
theorem sc_l_rows : FnScope N_l_rows ["_law_words", "_law_flats", "_law_steps", "_law_wide", "_law_deep"] (defScope s_l_rows) := ⟨rfl, rfl, rfl, by decide +kernel, rfl, by decide +kernel, by decide +kernel⟩
abbrev s_l_least : Stmt := top 46
abbrev N_l_least : List Str := ["_law_words", "_law_flats", "_law_found", "_law_k", "_law_steps", "_law_wide", "_law_start", "_law_string", "_law_choices", "_law_end", "_law_rest", "_law_over"]
abbrev P_l_least : List Str := ["_law_words", "_law_flats", "_law_found", "_law_k", "_law_steps", "_law_wide", "_law_start"]
theorem sc_l_least : FnScope N_l_least ["_law_words", "_law_flats", "_law_found", "_law_k", "_law_steps", "_law_wide", "_law_start"] (defScope s_l_least) := ⟨rfl, rfl, rfl, by decide +kernel, rfl, by decide +kernel, by decide +kernel⟩
abbrev s_l_due : Stmt := top 47
abbrev N_l_due : List Str := ["_law_words", "_law_flats", "_law_steps", "_law_wide", "_law_first", "_law_deep", "_law_found"]
abbrev P_l_due : List Str := ["_law_words", "_law_flats", "_law_steps", "_law_wide", "_law_first", "_law_deep"]
theorem sc_l_due : FnScope N_l_due ["_law_words", "_law_flats", "_law_steps", "_law_wide", "_law_first", "_law_deep"] (defScope s_l_due) := ⟨rfl, rfl, rfl, by decide +kernel, rfl, by decide +kernel, by decide +kernel⟩
abbrev s_l_built : Stmt := top 48
abbrev N_l_built : List Str := ["_law_words", "_law_flats", "_law_way", "_law_cut", "_law_left", "_law_right", "_law_gap"]
abbrev P_l_built : List Str := ["_law_words", "_law_flats", "_law_way"]
theorem sc_l_built : FnScope N_l_built ["_law_words", "_law_flats", "_law_way"] (defScope s_l_built) := ⟨rfl, rfl, rfl, by decide +kernel, rfl, by decide +kernel, by decide +kernel⟩
abbrev s_law : Stmt := top 49
abbrev N_law : List Str := ["_law_script", "_law_at_here", "_law_purse_here", "_law_many", "_law_words", "_law_k", "_law_flats", "_law_steps", "_law_doc", "_law_turn", "_law_wide", "_law_first", "_law_deep", "_law_due_here", "_law_string", "_law_flat", "_law_word"]
abbrev P_law : List Str := ["_law_script"]
theorem sc_law : FnScope N_law ["_law_script"] (defScope s_law) := ⟨rfl, rfl, rfl, by decide +kernel, rfl, by decide +kernel, by decide +kernel⟩
abbrev s_Node_init : Stmt := inClass (top 16) 0
abbrev N_Node_init : List Str := ["self", "kind", "own", "inner", "size", "most", "part"]
abbrev P_Node_init : List Str := ["self", "kind", "own", "inner"]
theorem sc_Node_init : FnScope N_Node_init ["self", "kind", "own", "inner"] (defScope s_Node_init) := ⟨rfl, rfl, rfl, by decide +kernel, rfl, by decide +kernel, by decide +kernel⟩
abbrev s_Doc_init : Stmt := inClass (top 22) 0
abbrev N_Doc_init : List Str := ["self", "node"]
abbrev P_Doc_init : List Str := ["self", "node"]
theorem sc_Doc_init : FnScope N_Doc_init ["self", "node"] (defScope s_Doc_init) := ⟨rfl, rfl, rfl, by decide +kernel, rfl, by decide +kernel, by decide +kernel⟩
abbrev s_Doc_add : Stmt := inClass (top 22) 1
abbrev N_Doc_add : List Str := ["self", "other"]
abbrev P_Doc_add : List Str := ["self", "other"]
theorem sc_Doc_add : FnScope N_Doc_add ["self", "other"] (defScope s_Doc_add) := ⟨rfl, rfl, rfl, by decide +kernel, rfl, by decide +kernel, by decide +kernel⟩
abbrev s_Doc_nested : Stmt := inClass (top 22) 4
abbrev N_Doc_nested : List Str := ["self", "steps"]
abbrev P_Doc_nested : List Str := ["self", "steps"]
theorem sc_Doc_nested : FnScope N_Doc_nested ["self", "steps"] (defScope s_Doc_nested) := ⟨rfl, rfl, rfl, by decide +kernel, rfl, by decide +kernel, by decide +kernel⟩
abbrev s_Doc_group : Stmt := inClass (top 22) 5
abbrev N_Doc_group : List Str := ["self"]
abbrev P_Doc_group : List Str := ["self"]
theorem sc_Doc_group : FnScope N_Doc_group ["self"] (defScope s_Doc_group) := ⟨rfl, rfl, rfl, by decide +kernel, rfl, by decide +kernel, by decide +kernel⟩
abbrev s_Doc_holes : Stmt := inClass (top 22) 9
abbrev N_Doc_holes : List Str := ["self"]
abbrev P_Doc_holes : List Str := ["self"]
theorem sc_Doc_holes : FnScope N_Doc_holes ["self"] (defScope s_Doc_holes) := ⟨rfl, rfl, rfl, by decide +kernel, rfl, by decide +kernel, by decide +kernel⟩
abbrev s_Doc_ways : Stmt := inClass (top 22) 10
abbrev N_Doc_ways : List Str := ["self"]
abbrev P_Doc_ways : List Str := ["self"]
theorem sc_Doc_ways : FnScope N_Doc_ways ["self"] (defScope s_Doc_ways) := ⟨rfl, rfl, rfl, by decide +kernel, rfl, by decide +kernel, by decide +kernel⟩
abbrev s_Search_init : Stmt := inClass (top 35) 0
abbrev N_Search_init : List Str := ["self", "width", "column", "indent"]
abbrev P_Search_init : List Str := ["self", "width", "column", "indent"]
theorem sc_Search_init : FnScope N_Search_init ["self", "width", "column", "indent"] (defScope s_Search_init) := ⟨rfl, rfl, rfl, by decide +kernel, rfl, by decide +kernel, by decide +kernel⟩
abbrev s_Search_run : Stmt := inClass (top 35) 1
abbrev N_Search_run : List Str := ["self", "node", "act", "part", "flat", "steps"]
abbrev P_Search_run : List Str := ["self", "node"]
theorem sc_Search_run : FnScope N_Search_run ["self", "node"] (defScope s_Search_run) := ⟨rfl, rfl, rfl, by decide +kernel, rfl, by decide +kernel, by decide +kernel⟩
abbrev s_Search_enter : Stmt := inClass (top 35) 2
abbrev N_Search_enter : List Str := ["self", "node", "flat", "steps"]
abbrev P_Search_enter : List Str := ["self", "node", "flat", "steps"]
theorem sc_Search_enter : FnScope N_Search_enter ["self", "node", "flat", "steps"] (defScope s_Search_enter) := ⟨rfl, rfl, rfl, by decide +kernel, rfl, by decide +kernel, by decide +kernel⟩
abbrev s_Search_fork : Stmt := inClass (top 35) 3
abbrev N_Search_fork : List Str := ["self", "first", "second"]
abbrev P_Search_fork : List Str := ["self", "first", "second"]
theorem sc_Search_fork : FnScope N_Search_fork ["self", "first", "second"] (defScope s_Search_fork) := ⟨rfl, rfl, rfl, by decide +kernel, rfl, by decide +kernel, by decide +kernel⟩
abbrev s_Search_turn : Stmt := inClass (top 35) 4
abbrev N_Search_turn : List Str := ["self", "behind"]
abbrev P_Search_turn : List Str := ["self"]
theorem sc_Search_turn : FnScope N_Search_turn ["self"] (defScope s_Search_turn) := ⟨rfl, rfl, rfl, by decide +kernel, rfl, by decide +kernel, by decide +kernel⟩
structure Tx (K : PySem.W.Frag) (mg : Str → Option Value) where
  a_is_whole : Addr
  d_is_whole : FuncData
  F_is_whole : Fun K "is_whole" "is_whole" s_is_whole a_is_whole d_is_whole
  m_is_whole : mg "is_whole" = some (.ref a_is_whole)
  b_is_whole : Binds K d_is_whole ["thing"] []
  a_is_steps : Addr
  d_is_steps : FuncData
  F_is_steps : Fun K "is_steps" "is_steps" s_is_steps a_is_steps d_is_steps
  m_is_steps : mg "is_steps" = some (.ref a_is_steps)
  b_is_steps : Binds K d_is_steps ["thing"] []
  a_is_plain : Addr
  d_is_plain : FuncData
  F_is_plain : Fun K "is_plain" "is_plain" s_is_plain a_is_plain d_is_plain
  m_is_plain : mg "is_plain" = some (.ref a_is_plain)
  b_is_plain : Binds K d_is_plain ["thing"] []
  a_gaps : Addr
  d_gaps : FuncData
  F_gaps : Fun K "_gaps" "_gaps" s_gaps a_gaps d_gaps
  m_gaps : mg "_gaps" = some (.ref a_gaps)
  b_gaps : Binds K d_gaps ["kind", "own", "inner"] []
  a_counts : Addr
  d_counts : FuncData
  F_counts : Fun K "_counts" "_counts" s_counts a_counts d_counts
  m_counts : mg "_counts" = some (.ref a_counts)
  b_counts : Binds K d_counts ["kind", "own", "inner"] []
  a_is_settled : Addr
  d_is_settled : FuncData
  F_is_settled : Fun K "_is_settled" "_is_settled" s_is_settled a_is_settled d_is_settled
  m_is_settled : mg "_is_settled" = some (.ref a_is_settled)
  b_is_settled : Binds K d_is_settled ["kind", "flat", "inner"] []
  a_text : Addr
  d_text : FuncData
  F_text : FunD K "text" "text" (defArgs s_text) (defBody s_text) (defScope s_text) [(.str "")] [] a_text d_text
  b_text_0 : ∃ ds, Vals [(.str "")] ds ∧ Binds K d_text ["string"] ds
  m_text : mg "text" = some (.ref a_text)
  b_text : Binds K d_text ["string"] []
  a_line : Addr
  d_line : FuncData
  F_line : FunD K "line" "line" (defArgs s_line) (defBody s_line) (defScope s_line) [(.str " ")] [] a_line d_line
  b_line_0 : ∃ ds, Vals [(.str " ")] ds ∧ Binds K d_line ["flat"] ds
  m_line : mg "line" = some (.ref a_line)
  b_line : Binds K d_line ["flat"] []
  a_refuse_non_docs : Addr
  d_refuse_non_docs : FuncData
  F_refuse_non_docs : Fun K "refuse_non_docs" "refuse_non_docs" s_refuse_non_docs a_refuse_non_docs d_refuse_non_docs
  m_refuse_non_docs : mg "refuse_non_docs" = some (.ref a_refuse_non_docs)
  b_refuse_non_docs : Binds K d_refuse_non_docs ["things"] []
  a_refuse_holes : Addr
  d_refuse_holes : FuncData
  F_refuse_holes : Fun K "refuse_holes" "refuse_holes" s_refuse_holes a_refuse_holes d_refuse_holes
  m_refuse_holes : mg "refuse_holes" = some (.ref a_refuse_holes)
  b_refuse_holes : Binds K d_refuse_holes ["doc"] []
  a_joined : Addr
  d_joined : FuncData
  F_joined : FunD K "joined" "joined" (defArgs s_joined) (defBody s_joined) (defScope s_joined) [] [("between", .non)] a_joined d_joined
  m_joined : mg "joined" = some (.ref a_joined)
  a_best : Addr
  d_best : FuncData
  F_best : FunD K "best" "best" (defArgs s_best) (defBody s_best) (defScope s_best) [] [("column", .int 0), ("indent", .int 0)] a_best d_best
  m_best : mg "best" = some (.ref a_best)
  a_refuse_wrong_numbers : Addr
  d_refuse_wrong_numbers : FuncData
  F_refuse_wrong_numbers : Fun K "_refuse_wrong_numbers" "_refuse_wrong_numbers" s_refuse_wrong_numbers a_refuse_wrong_numbers d_refuse_wrong_numbers
  m_refuse_wrong_numbers : mg "_refuse_wrong_numbers" = some (.ref a_refuse_wrong_numbers)
  b_refuse_wrong_numbers : Binds K d_refuse_wrong_numbers ["width", "column", "indent"] []
  a_written : Addr
  d_written : FuncData
  F_written : Fun K "_written" "_written" s_written a_written d_written
  m_written : mg "_written" = some (.ref a_written)
  b_written : Binds K d_written ["states", "string", "width"] []
  a_broken : Addr
  d_broken : FuncData
  F_broken : Fun K "_broken" "_broken" s_broken a_broken d_broken
  m_broken : mg "_broken" = some (.ref a_broken)
  b_broken : Binds K d_broken ["states", "steps", "indent", "width"] []
  a_merged : Addr
  d_merged : FuncData
  F_merged : Fun K "_merged" "_merged" s_merged a_merged d_merged
  m_merged : mg "_merged" = some (.ref a_merged)
  b_merged : Binds K d_merged ["one", "other"] []
  a_pruned : Addr
  d_pruned : FuncData
  F_pruned : Fun K "_pruned" "_pruned" s_pruned a_pruned d_pruned
  m_pruned : mg "_pruned" = some (.ref a_pruned)
  b_pruned : Binds K d_pruned ["states"] []
  a_l_at : Addr
  d_l_at : FuncData
  F_l_at : Fun K "_law_at" "_law_at" s_l_at a_l_at d_l_at
  m_l_at : mg "_law_at" = some (.ref a_l_at)
  b_l_at : Binds K d_l_at ["_law_script", "_law_k"] []
  a_l_mixed : Addr
  d_l_mixed : FuncData
  F_l_mixed : Fun K "_law_mixed" "_law_mixed" s_l_mixed a_l_mixed d_l_mixed
  m_l_mixed : mg "_law_mixed" = some (.ref a_l_mixed)
  b_l_mixed : Binds K d_l_mixed ["_law_cell", "_law_k"] []
  a_l_purse : Addr
  d_l_purse : FuncData
  F_l_purse : Fun K "_law_purse" "_law_purse" s_l_purse a_l_purse d_l_purse
  m_l_purse : mg "_law_purse" = some (.ref a_l_purse)
  b_l_purse : Binds K d_l_purse ["_law_script", "_law_at_here"] []
  a_l_draw : Addr
  d_l_draw : FuncData
  F_l_draw : Fun K "_law_draw" "_law_draw" s_l_draw a_l_draw d_l_draw
  m_l_draw : mg "_law_draw" = some (.ref a_l_draw)
  b_l_draw : Binds K d_l_draw ["_law_purse_here", "_law_out_of"] []
  a_l_rows : Addr
  d_l_rows : FuncData
  F_l_rows : Fun K "_law_rows" "_law_rows" s_l_rows a_l_rows d_l_rows
  m_l_rows : mg "_law_rows" = some (.ref a_l_rows)
  b_l_rows : Binds K d_l_rows ["_law_words", "_law_flats", "_law_steps", "_law_wide", "_law_deep"] []
  a_l_least : Addr
  d_l_least : FuncData
  F_l_least : Fun K "_law_least" "_law_least" s_l_least a_l_least d_l_least
  m_l_least : mg "_law_least" = some (.ref a_l_least)
  b_l_least : Binds K d_l_least ["_law_words", "_law_flats", "_law_found", "_law_k", "_law_steps", "_law_wide", "_law_start"] []
  a_l_due : Addr
  d_l_due : FuncData
  F_l_due : Fun K "_law_due" "_law_due" s_l_due a_l_due d_l_due
  m_l_due : mg "_law_due" = some (.ref a_l_due)
  b_l_due : Binds K d_l_due ["_law_words", "_law_flats", "_law_steps", "_law_wide", "_law_first", "_law_deep"] []
  a_l_built : Addr
  d_l_built : FuncData
  F_l_built : Fun K "_law_built" "_law_built" s_l_built a_l_built d_l_built
  m_l_built : mg "_law_built" = some (.ref a_l_built)
  b_l_built : Binds K d_l_built ["_law_words", "_law_flats", "_law_way"] []
  a_law : Addr
  d_law : FuncData
  F_law : Fun K "law" "law" s_law a_law d_law
  m_law : mg "law" = some (.ref a_law)
  b_law : Binds K d_law ["_law_script"] []
  a_Node_init : Addr
  d_Node_init : FuncData
  F_Node_init : Fun K "__init__" "Node.__init__" s_Node_init a_Node_init d_Node_init
  b_Node_init : Binds K d_Node_init ["self", "kind", "own", "inner"] []
  a_Doc_init : Addr
  d_Doc_init : FuncData
  F_Doc_init : Fun K "__init__" "Doc.__init__" s_Doc_init a_Doc_init d_Doc_init
  b_Doc_init : Binds K d_Doc_init ["self", "node"] []
  a_Doc_add : Addr
  d_Doc_add : FuncData
  F_Doc_add : Fun K "__add__" "Doc.__add__" s_Doc_add a_Doc_add d_Doc_add
  b_Doc_add : Binds K d_Doc_add ["self", "other"] []
  a_Doc_nested : Addr
  d_Doc_nested : FuncData
  F_Doc_nested : Fun K "nested" "Doc.nested" s_Doc_nested a_Doc_nested d_Doc_nested
  b_Doc_nested : Binds K d_Doc_nested ["self", "steps"] []
  a_Doc_group : Addr
  d_Doc_group : FuncData
  F_Doc_group : Fun K "group" "Doc.group" s_Doc_group a_Doc_group d_Doc_group
  b_Doc_group : Binds K d_Doc_group ["self"] []
  a_Doc_holes : Addr
  d_Doc_holes : FuncData
  F_Doc_holes : Fun K "holes" "Doc.holes" s_Doc_holes a_Doc_holes d_Doc_holes
  b_Doc_holes : Binds K d_Doc_holes ["self"] []
  a_Doc_ways : Addr
  d_Doc_ways : FuncData
  F_Doc_ways : Fun K "ways" "Doc.ways" s_Doc_ways a_Doc_ways d_Doc_ways
  b_Doc_ways : Binds K d_Doc_ways ["self"] []
  a_Search_init : Addr
  d_Search_init : FuncData
  F_Search_init : Fun K "__init__" "Search.__init__" s_Search_init a_Search_init d_Search_init
  b_Search_init : Binds K d_Search_init ["self", "width", "column", "indent"] []
  a_Search_run : Addr
  d_Search_run : FuncData
  F_Search_run : Fun K "run" "Search.run" s_Search_run a_Search_run d_Search_run
  b_Search_run : Binds K d_Search_run ["self", "node"] []
  a_Search_enter : Addr
  d_Search_enter : FuncData
  F_Search_enter : Fun K "enter" "Search.enter" s_Search_enter a_Search_enter d_Search_enter
  b_Search_enter : Binds K d_Search_enter ["self", "node", "flat", "steps"] []
  a_Search_fork : Addr
  d_Search_fork : FuncData
  F_Search_fork : Fun K "fork" "Search.fork" s_Search_fork a_Search_fork d_Search_fork
  b_Search_fork : Binds K d_Search_fork ["self", "first", "second"] []
  a_Search_turn : Addr
  d_Search_turn : FuncData
  F_Search_turn : Fun K "turn" "Search.turn" s_Search_turn a_Search_turn d_Search_turn
  b_Search_turn : Binds K d_Search_turn ["self"] []
  z_all : mg "all" = none
  z_bool : mg "bool" = none
  z_int : mg "int" = none
  z_isinstance : mg "isinstance" = none
  z_len : mg "len" = none
  z_list : mg "list" = none
  z_max : mg "max" = none
  z_min : mg "min" = none
  z_range : mg "range" = none
  z_set : mg "set" = none
  z_sorted : mg "sorted" = none
  z_str : mg "str" = none
  z_tuple : mg "tuple" = none
  z_zip : mg "zip" = none
  u_MOST_STEPS : Value
  c_MOST_STEPS : mg "MOST_STEPS" = some u_MOST_STEPS
  r_MOST_STEPS : RelV (.int 40) u_MOST_STEPS
  u_ENTER : Value
  c_ENTER : mg "ENTER" = some u_ENTER
  r_ENTER : RelV (.int 0) u_ENTER
  u_TURN : Value
  c_TURN : mg "TURN" = some u_TURN
  r_TURN : RelV (.int 1) u_TURN
  u_MERGE : Value
  c_MERGE : mg "MERGE" = some u_MERGE
  r_MERGE : RelV (.int 2) u_MERGE
  u_PAGE : Value
  c_PAGE : mg "PAGE" = some u_PAGE
  r_PAGE : RelV (.int 50) u_PAGE
  C_Node : Addr
  mc_Node : mg "Node" = some (.ref C_Node)
  cls_Node : Cls K C_Node
  na_Node_kind : NoAttr K C_Node "kind"
  na_Node_own : NoAttr K C_Node "own"
  na_Node_inner : NoAttr K C_Node "inner"
  na_Node_gaps : NoAttr K C_Node "gaps"
  na_Node_size : NoAttr K C_Node "size"
  na_Node_most : NoAttr K C_Node "most"
  na_Node_settled : NoAttr K C_Node "settled"
  na_Node_broken : NoAttr K C_Node "broken"
  na_Node_flat : NoAttr K C_Node "flat"
  mk_Node : Mk K C_Node a_Node_init
  C_Doc : Addr
  mc_Doc : mg "Doc" = some (.ref C_Doc)
  cls_Doc : Cls K C_Doc
  na_Doc_node : NoAttr K C_Doc "node"
  mk_Doc : Mk K C_Doc a_Doc_init
  me_Doc_add : Meth K C_Doc "__add__" a_Doc_add
  me_Doc_nested : Meth K C_Doc "nested" a_Doc_nested
  me_Doc_group : Meth K C_Doc "group" a_Doc_group
  pp_Doc_holes : Addr
  pr_Doc_holes : PropOf K C_Doc "holes" pp_Doc_holes a_Doc_holes
  pp_Doc_ways : Addr
  pr_Doc_ways : PropOf K C_Doc "ways" pp_Doc_ways a_Doc_ways
  so_Doc : PySem.W.selfFirst K C_Doc = true
  C_Search : Addr
  mc_Search : mg "Search" = some (.ref C_Search)
  cls_Search : Cls K C_Search
  na_Search_limit : NoAttr K C_Search "limit"
  na_Search_left : NoAttr K C_Search "left"
  na_Search_states : NoAttr K C_Search "states"
  na_Search_kept : NoAttr K C_Search "kept"
  na_Search_todo : NoAttr K C_Search "todo"
  mk_Search : Mk K C_Search a_Search_init
  me_Search_run : Meth K C_Search "run" a_Search_run
  me_Search_enter : Meth K C_Search "enter" a_Search_enter
  me_Search_fork : Meth K C_Search "fork" a_Search_fork
  me_Search_turn : Meth K C_Search "turn" a_Search_turn
  ty_Doc : ∀ {H : Hp} {a dx : Addr} {fs : List (Str × V)}, H a = some (.ins C_Doc dx fs) → TyX K H (.ref a) (.ref C_Doc)
  ko_NoneType_Doc : PySem.W.kitOne K (.type "NoneType") (.ref C_Doc) = some false
  ko_bool_Doc : PySem.W.kitOne K (.type "bool") (.ref C_Doc) = some false
  ko_int_Doc : PySem.W.kitOne K (.type "int") (.ref C_Doc) = some false
  ko_str_Doc : PySem.W.kitOne K (.type "str") (.ref C_Doc) = some false
  ko_tuple_Doc : PySem.W.kitOne K (.type "tuple") (.ref C_Doc) = some false
  ko_list_Doc : PySem.W.kitOne K (.type "list") (.ref C_Doc) = some false
  kb_best_1_width_column_indent : ∃ mv : List Value, KBn K d_best ["doc", "width", "column", "indent"] 1 ["width", "column", "indent"] (fun us ws => seg us 0 ++ seg ws 0 ++ seg ws 1 ++ seg ws 2) (fun vs zs => seg vs 0 ++ seg zs 0 ++ seg zs 1 ++ seg zs 2)
end K33

namespace K33
open PySem PySem.Spec PyProof.Rows L2 Vk
/-! ### documents -/
/-- a statement that is never come to -/
theorem ps_dead {X : Cx} {st : Stmt} : PS X st (fun _ _ _ => False) := ⟨fun _ _ _ _ _ _ h => h.elim⟩
inductive Nd where
  | txt (s : Str)
  | brk (s : Option Str)
  | hol (s : Str)
  | jn (a b : Nd)
  | ch (a b : Nd)
  | ne (k : Int) (a : Nd)
  | gr (a : Nd)
  | fl (a : Nd)
def optD : Option Str → PyData
  | some s => .str s
  | none => .none
def Nd.kind : Nd → Str
  | .txt _ => "text" | .brk _ => "break" | .hol _ => "hole" | .jn _ _ => "join" | .ch _ _ => "choice" | .ne _ _ => "nested" | .gr _ => "group" | .fl _ => "flattened"
def Nd.ownD : Nd → List PyData
  | .txt s => [.str s] | .brk o => [optD o] | .hol s => [.str s] | .ne k _ => [.int k] | _ => []
def Nd.kids : Nd → List Nd
  | .jn a b => [a, b] | .ch a b => [a, b] | .ne _ a => [a] | .gr a => [a] | .fl a => [a] | _ => []
/-- broken and flat ways -/
def Nd.ways : Nd → Int × Int
  | .brk none => (1, 0)
  | .txt _ => (1, 1)
  | .brk (some _) => (1, 1)
  | .hol _ => (1, 1)
  | .jn a b => (a.ways.1 * b.ways.1, a.ways.2 * b.ways.2)
  | .ch a b => (a.ways.1 + b.ways.1, a.ways.2 + b.ways.2)
  | .ne _ a => (a.ways.1, a.ways.2)
  | .gr a => (a.ways.1 + a.ways.2, a.ways.2)
  | .fl a => (a.ways.2, a.ways.2)
theorem Nd.ways_pos : ∀ t : Nd, 0 ≤ t.ways.2 ∧ t.ways.2 ≤ t.ways.1
  | .brk none => by decide
  | .txt _ => by
    show (0 : Int) ≤ 1 ∧ (1 : Int) ≤ 1
    decide
  | .brk (some _) => by
    show (0 : Int) ≤ 1 ∧ (1 : Int) ≤ 1
    decide
  | .hol _ => by
    show (0 : Int) ≤ 1 ∧ (1 : Int) ≤ 1
    decide
  | .jn a b => by
    have h := a.ways_pos
    have g := b.ways_pos
    exact ⟨Int.mul_nonneg h.1 g.1, Int.mul_le_mul h.2 g.2 g.1 (by omega)⟩
  | .ch a b => by
    have h := a.ways_pos
    have g := b.ways_pos
    show 0 ≤ a.ways.2 + b.ways.2 ∧ a.ways.2 + b.ways.2 ≤ a.ways.1 + b.ways.1
    omega
  | .ne _ a => a.ways_pos
  | .gr a => by
    have h := a.ways_pos
    show 0 ≤ a.ways.2 ∧ a.ways.2 ≤ a.ways.1 + a.ways.2
    omega
  | .fl a => by
    have h := a.ways_pos
    show 0 ≤ a.ways.2 ∧ a.ways.2 ≤ a.ways.2
    omega
/-- each flat layout is surely a broken one -/
def stl : Nd → Bool
  | .gr _ => true
  | .fl _ => true
  | .brk o => decide ((Nd.brk o).ways.2 = 0)
  | .txt _ => true
  | .hol _ => true
  | .jn a b => decide ((Nd.jn a b).ways.2 = 0) || (stl a && stl b)
  | .ch a b => decide ((Nd.ch a b).ways.2 = 0) || (stl a && stl b)
  | .ne k a => decide ((Nd.ne k a).ways.2 = 0) || stl a
/-- a node's fields -/
def nf (kind : Str) (ow inn gp : Addr) (b f sz mo : Int) (se : Bool) : List (Str × V) := [("kind", .str kind), ("own", .ref ow), ("inner", .ref inn), ("gaps", .ref gp), ("broken", .int b), ("flat", .int f), ("size", .int sz), ("most", .int mo), ("settled", .bl se)]
mutual
/-- a node at p that is t, its holes' names gs -/
inductive NodeAt (K : PySem.W.Frag) (CN : Addr) (H : Hp) : Addr → Nd → List Str → Prop
  | mk {p dx ow inn gp : Addr} {sz mo : Int} {t : Nd} {ps : List Addr} {gs : List Str} {gss : List (List Str)} : H p = some (.ins CN dx (nf t.kind ow inn gp t.ways.1 t.ways.2 sz mo (stl t))) →
    Dp K H (.ref ow) (.tuple t.ownD) → SqT K H inn (ps.map V.ref) → SqT K H gp (gs.map V.str) → Kids K CN H ps t.kids gss → NodeAt K CN H p t gs
inductive Kids (K : PySem.W.Frag) (CN : Addr) (H : Hp) : List Addr → List Nd → List (List Str) → Prop
  | nil : Kids K CN H [] [] []
  | cons {p : Addr} {t : Nd} {gs : List Str} {ps : List Addr} {ts : List Nd} {gss : List (List Str)} : NodeAt K CN H p t gs → Kids K CN H ps ts gss → Kids K CN H (p :: ps) (t :: ts) (gs :: gss)
end
/-- what never changes: tuples, dicts that were handed out, nodes and documents -/
def fx (CN CD : Addr) : HO → Prop
  | .tup _ => True
  | .dK _ => True
  | .ins _ _ fs => (∃ (v : V) (r : List (Str × V)), fs = (("kind" : Str), v) :: r) ∨ ∃ (v : V) (r : List (Str × V)), fs = (("node" : Str), v) :: r
  | .frz _ u => ∃ xs, u = .tup xs
  | _ => False
def Fix (CN CD : Addr) (H H' : Hp) : Prop := ∀ b o, H b = some o → fx CN CD o → H' b = some o
section
variable {K : PySem.W.Frag} {CN CD : Addr} {H H' H1 H2 : Hp}
theorem Fix.of (s : Same H H') : Fix CN CD H H' := fun b o e _ => s b o e
theorem Fix.refl : Fix CN CD H H := fun _ _ e _ => e
theorem Fix.trans (a : Fix CN CD H H1) (b : Fix CN CD H1 H2) : Fix CN CD H H2 := fun c o e f => b c o (a c o e f) f
theorem Fix.seqT {a : Addr} {xs : List V} (e : Fix CN CD H H') (h : SqT K H a xs) : SqT K H' a xs := by
  rcases h with (h | ⟨o, h⟩) | h
  · exact .inl (.inl (e _ _ h trivial))
  · exact .inl (.inr ⟨o, e _ _ h ⟨_, rfl⟩⟩)
  · exact .inr h
theorem Fix.but {p C dx : Addr} (h : H p = some (.ins C dx [])) (e : ∀ b o, H b = some o → b ≠ p → H' b = some o) : Fix CN CD H H' := fun b o hb f => e b o hb fun z => by
  rw [z, h] at hb
  cases hb
  rcases f with ⟨_, _, f⟩ | ⟨_, _, f⟩ <;> cases f
theorem seqT_upd {p C dx a : Addr} {fs : List (Str × V)} {xs : List V} {o : HO} (h : H p = some (.ins C dx fs)) (q : SqT K H a xs) : SqT K (upd H p o) a xs := by
  rcases q with (q | ⟨u, q⟩) | q
  · exact .inl (.inl (by rw [upd_ne (fun z => by rw [z, h] at q; cases q)]; exact q))
  · exact .inl (.inr ⟨u, by rw [upd_ne (fun z => by rw [z, h] at q; cases q)]; exact q⟩)
  · exact .inr q
mutual
/-- no lists within -/
def noL : PyData → Bool
  | .list _ => false
  | .dict _ => false
  | .tuple ds => noLs ds
  | _ => true
def noLs : List PyData → Bool
  | [] => true
  | d :: ds => noL d && noLs ds
end
mutual
theorem Dp.fix (e : Fix CN CD H H') : ∀ {v : V} {d : PyData}, Dp K H v d → noL d = true → Dp K H' v d
  | _, _, .non, _ => .non
  | _, _, .bl b, _ => .bl b
  | _, _, .int i, _ => .int i
  | _, _, .str x, _ => .str x
  | _, _, .lst h a, z => by cases z
  | _, _, .tup h a, z => .tup (e.seqT h) (DpAll.fix e a z)
theorem DpAll.fix (e : Fix CN CD H H') : ∀ {vs : List V} {ds : List PyData}, DpAll K H vs ds → noLs ds = true → DpAll K H' vs ds
  | _, _, .nil, _ => .nil
  | _, _, .cons h t, z => by
    have z' : (noL _ && noLs _) = true := z
    rw [Bool.and_eq_true] at z'
    exact .cons (Dp.fix e h z'.1) (DpAll.fix e t z'.2)
end
theorem own_noL (t : Nd) : noL (.tuple t.ownD) = true := by
  cases t with
  | brk o => cases o <;> rfl
  | _ => rfl
mutual
theorem NodeAt.fix (e : Fix CN CD H H') : ∀ {p : Addr} {t : Nd} {gs : List Str}, NodeAt K CN H p t gs → NodeAt K CN H' p t gs
  | _, _, _, .mk h1 h2 h3 h4 h5 => .mk (e _ _ h1 (.inl ⟨_, _, rfl⟩)) (Dp.fix e h2 (own_noL _)) (e.seqT h3) (e.seqT h4) (Kids.fix e h5)
theorem Kids.fix (e : Fix CN CD H H') : ∀ {ps : List Addr} {ts : List Nd} {gss : List (List Str)}, Kids K CN H ps ts gss → Kids K CN H' ps ts gss
  | _, _, _, .nil => .nil
  | _, _, _, .cons h t => .cons (NodeAt.fix e h) (Kids.fix e t)
end
theorem Kids.len : ∀ {ps : List Addr} {ts : List Nd} {gss : List (List Str)}, Kids K CN H ps ts gss → ps.length = ts.length ∧ gss.length = ts.length
  | _, _, _, .nil => ⟨rfl, rfl⟩
  | _, _, _, .cons h t => by
    have := Kids.len t
    simp [this.1, this.2]
theorem Kids.get : ∀ {ps : List Addr} {ts : List Nd} {gss : List (List Str)} {i : Nat} {p : Addr}, Kids K CN H ps ts gss → ps[i]? = some p → ∃ t gs, ts[i]? = some t ∧ gss[i]? = some gs ∧ NodeAt K CN H p t gs
  | _, _, _, _, _, .nil, e => by simp at e
  | _, _, _, 0, _, .cons h _, e => by
    obtain rfl := Option.some.inj e
    exact ⟨_, _, rfl, rfl, h⟩
  | _, _, _, i + 1, _, .cons _ t, e => Kids.get (i := i) t (by simpa using e)
/-- a document at a, its node at p -/
def DocAt (CD : Addr) (H : Hp) (a p : Addr) : Prop := ∃ dx, H a = some (.ins CD dx [("node", .ref p)])
theorem DocAt.fix {a p : Addr} (e : Fix CN CD H H') (h : DocAt CD H a p) : DocAt CD H' a p := let ⟨dx, h⟩ := h; ⟨dx, e _ _ h (.inr ⟨_, _, rfl⟩)⟩
end
/-- the names that stand behind the parts, from acc on -/
inductive GS : List Str → List (List Str) → List Str → Prop
  | nil {acc : List Str} : GS acc [] acc
  | keep {acc g out : List Str} {r : List (List Str)} : (g = [] ∨ g = acc) → GS acc r out → GS acc (g :: r) out
  | put {acc g ys out : List Str} {r : List (List Str)} : g ≠ [] → g ≠ acc → ys.Perm (dedK (acc ++ g)) → sortedS ys = true → GS ys r out → GS acc (g :: r) out
def gsOf : Nd → List (List Str) → List Str → Prop
  | .hol s, _, out => out = [s]
  | _, gss, out => GS [] gss out
/-! ### the promises -/
def namesOk (g : List Str) : Prop := g.length ≤ 8 ∧ ∀ x ∈ g, PyData.strOk x = true
def spGaps (K : PySem.W.Frag) (CN : Addr) : Sp := fun vs H Q _ => ∃ (t : Nd) (ow inn : Addr) (ps : List Addr) (gss : List (List Str)), vs = [.str t.kind, .ref ow, .ref inn] ∧ Dp K H (.ref ow) (.tuple t.ownD) ∧ SqT K H inn (ps.map V.ref) ∧ Kids K CN H ps t.kids gss ∧ (∀ g ∈ gss, namesOk g) ∧
  ∀ (u : Addr) (out : List Str) (H' : Hp), Same H H' → SqT K H' u (out.map V.str) → gsOf t gss out → Q (.ref u) H'
def spCounts (K : PySem.W.Frag) (CN : Addr) : Sp := fun vs H Q _ => ∃ (t : Nd) (ow inn : Addr) (ps : List Addr) (gss : List (List Str)), vs = [.str t.kind, .ref ow, .ref inn] ∧ Dp K H (.ref ow) (.tuple t.ownD) ∧ SqT K H inn (ps.map V.ref) ∧ Kids K CN H ps t.kids gss ∧ (∀ q ∈ t.kids, q.ways.1 ≤ 2 ^ 40) ∧
  ∀ (u : Addr), H u = none → Q (.ref u) (upd H u (.tup [.int t.ways.1, .int t.ways.2]))
def spSettled (K : PySem.W.Frag) (CN : Addr) : Sp := fun vs H Q _ => ∃ (t : Nd) (inn : Addr) (ps : List Addr) (gss : List (List Str)), vs = [.str t.kind, .int t.ways.2, .ref inn] ∧ SqT K H inn (ps.map V.ref) ∧ Kids K CN H ps t.kids gss ∧
  ∀ (H' : Hp), Same H H' → Q (.bl (stl t)) H'
def spNode (K : PySem.W.Frag) (CN : Addr) : Sp := fun vs H Q _ => ∃ (t : Nd) (p dx ow inn : Addr) (ps : List Addr) (gss : List (List Str)), vs = [.ref p, .str t.kind, .ref ow, .ref inn] ∧ H p = some (.ins CN dx []) ∧ Dp K H (.ref ow) (.tuple t.ownD) ∧ SqT K H inn (ps.map V.ref) ∧ Kids K CN H ps t.kids gss ∧ (∀ q ∈ t.kids, q.ways.1 ≤ 2 ^ 40) ∧ (∀ g ∈ gss, namesOk g) ∧
  ∀ (out : List Str) (H' : Hp), (∀ b o, H b = some o → b ≠ p → H' b = some o) → NodeAt K CN H' p t out → gsOf t gss out → Q .non H'
/-! ### kinds -/
def kindOf : Nat → Str
  | 0 => "text" | 1 => "break" | 2 => "hole" | 3 => "join" | 4 => "choice" | 5 => "nested" | 6 => "group" | _ => "flattened"
theorem kk : ∀ i j : Fin 8, (kindOf i == kindOf j) = decide (i = j) := by decide +kernel
def Nd.kx : Nd → Fin 8
  | .txt _ => 0 | .brk _ => 1 | .hol _ => 2 | .jn _ _ => 3 | .ch _ _ => 4 | .ne _ _ => 5 | .gr _ => 6 | .fl _ => 7
theorem Nd.kind_is (t : Nd) : t.kind = kindOf t.kx := by cases t <;> rfl
theorem eqv_str (a b : Str) : PyData.eqv (.str a) (.str b) = (a == b) := by
  unfold PyData.eqv
  rfl
/-- kind == the j-th kind -/
theorem kq (t : Nd) (j : Fin 8) : PyData.eqv (.str t.kind) (.str (kindOf j)) = decide (t.kx = j) := by
  rw [eqv_str, Nd.kind_is, kk]
theorem kind_shaped : ∀ j : Fin 8, SeqAt.shaped (.str (kindOf j)) = true := by decide +kernel
theorem Nd.shaped (t : Nd) : SeqAt.shaped (.str t.kind) = true := by
  rw [Nd.kind_is]
  exact kind_shaped _
theorem lay_strs : ∀ {xs : List Str}, (∀ x ∈ xs, PyData.strOk x = true) → PyData.canLayAll0 (xs.map PyData.str) = true ∧ PyData.depthAll (xs.map PyData.str) = 0
  | [], _ => ⟨rfl, rfl⟩
  | x :: xs, h => by
    have ih := lay_strs fun y hy => h y (List.mem_cons_of_mem _ hy)
    have hx := h x (List.mem_cons_self ..)
    refine ⟨?_, ?_⟩
    · show (PyData.canLay0 (.str x) && PyData.canLayAll0 (xs.map PyData.str)) = true
      rw [ih.1]
      show (PyData.strOk x && true) = true
      rw [hx]
      rfl
    · show max (PyData.depth (.str x)) (PyData.depthAll (xs.map PyData.str)) = 0
      rw [ih.2]
      rfl
theorem strs_shaped {xs : List Str} (h : ∀ x ∈ xs, PyData.strOk x = true) : SeqAt.shaped (.tuple (xs.map PyData.str)) = true := by
  have := lay_strs h
  unfold SeqAt.shaped
  show (PyData.canLayAll0 (xs.map PyData.str) && decide (PyData.depth (.tuple (xs.map PyData.str)) ≤ 64)) = true
  rw [this.1]
  have e : PyData.depth (.tuple (xs.map PyData.str)) = PyData.depthAll (xs.map PyData.str) + 1 := by
    simp only [PyData.depth]
  rw [e, this.2]
  rfl
theorem eqv_strs : ∀ (xs ys : List Str), PyData.eqvAll (xs.map .str) (ys.map .str) = decide (xs = ys)
  | [], [] => by simp [PyData.eqvAll]
  | [], y :: ys => by simp [PyData.eqvAll]
  | x :: xs, [] => by simp [PyData.eqvAll]
  | x :: xs, y :: ys => by
    rw [List.map_cons, List.map_cons, PyData.eqvAll, eqv_str, eqv_strs xs ys]
    by_cases h : x = y <;> by_cases g : xs = ys <;> simp [h, g]
theorem eqv_tstrs (xs ys : List Str) : PyData.eqv (.tuple (xs.map .str)) (.tuple (ys.map .str)) = decide (xs = ys) := by
  rw [← eqv_strs, PyData.eqv]
/-! ### what the program answers of data -/
def signOk (c : Nat) : Bool := !decide (c < 32) && !decide (126 < c)
def wholeD : PyData → Bool
  | .int i => decide (0 ≤ i)
  | _ => false
def plainD : PyData → Bool
  | .str z => z.cps.toList.all signOk
  | _ => false
def lineD : PyData → Bool
  | .tuple [a, b] => wholeD a && plainD b
  | _ => false
theorem sp_cps : (" " : Str).cps.toList = [32] := by decide +kernel
theorem td_cps : ("~" : Str).cps.toList = [126] := by decide +kernel
theorem one_lt {a b : Nat} : decide (([a] : List Nat) < [b]) = decide (a < b) := by
  have e : (([a] : List Nat) < [b]) ↔ a < b := by
    rw [List.cons_lt_cons_iff]
    simp
  by_cases h : a < b
  · rw [decide_eq_true h, decide_eq_true (e.mpr h)]
  · rw [decide_eq_false h, decide_eq_false (fun q => h (e.mp q))]
theorem yesT {σ : L2.St} {H : Hp} {Q : Bool → Hp → Prop} (h : Q true H) : tYes σ H Q := h
theorem weight_mem {d : PyData} : ∀ {ds : List PyData}, d ∈ ds → d.weight ≤ PyData.weightAll ds
  | [], h => by cases h
  | e :: r, h => by
    show d.weight ≤ e.weight + 1 + PyData.weightAll r
    rcases List.mem_cons.mp h with rfl | h
    · omega
    · have := weight_mem h
      omega
def spWhole (K : PySem.W.Frag) : Sp := fun vs H Q _ => ∃ (v : V) (d : PyData), vs = [v] ∧ Dp K H v d ∧ Q (.bl (wholeD d)) H
def spPlain (K : PySem.W.Frag) : Sp := fun vs H Q _ => ∃ (v : V) (d : PyData), vs = [v] ∧ Dp K H v d ∧ d.weight ≤ 1000000 ∧ ∀ H', Same H H' → Q (.bl (plainD d)) H'
def spLine (K : PySem.W.Frag) : Sp := fun vs H Q _ => ∃ (v : V) (d : PyData), vs = [v] ∧ Dp K H v d ∧ d.weight ≤ 1000000 ∧ ∀ H', Same H H' → Q (.bl (lineD d)) H'
section
variable {P : Program} {w : World} {K : PySem.W.Frag} {mg : Str → Option Value} {base : Heap} {k : Nat}
theorem ok_whole (T : Tx K mg) : FnOk P w K mg base CX0 (k + 1) T.a_is_whole T.d_is_whole P_is_whole (spWhole K) := by
  refine T.F_is_whole.ok sc_is_whole (fun vs H Q E h => ?_) (fun cdv A outer s H vs Q E hr h => ?_)
  · obtain ⟨v, d, rfl, _⟩ := h
    rfl
  obtain ⟨v, d, rfl, hd, hq⟩ := h
  refine ⟨_, (pss_one (ps_ret (pe_and (pe_callB call_isi rfl T.z_isinstance (by decide +kernel) (pa_cons (pv 0) (pa_cons (pe_bltn (v := .ty "int") rfl T.z_int (by decide +kernel) rfl) pa_nil))) (pe_and (pe_not (pe_callB call_isi rfl T.z_isinstance (by decide +kernel) (pa_cons (pv 0) (pa_cons (pe_bltn (v := .ty "bool") rfl T.z_bool (by decide +kernel) rfl) pa_nil)))) (pe_one (pe_cmpR op_ge (pv 0) pe_int (nomark _))))))), ?_⟩
  refine ⟨_, rfl, _, _, _, _, _, rfl, .ty "int", dp_ty hd, kit_int d, _, rfl, ?_⟩
  cases hd with
  | bl b => exact iteT ⟨_, rfl, _, _, _, _, _, rfl, .ty "bool", dp_ty (.bl b), kit_bool (.bool b), _, rfl, _, rfl, iteF hq⟩
  | int i => exact iteT ⟨_, rfl, _, _, _, _, _, rfl, .ty "bool", dp_ty (.int i), kit_bool (.int i), _, rfl, _, rfl, iteT ⟨_, rfl, _, _, rfl, rfl, hq⟩⟩
  | non => exact iteF hq
  | str x => exact iteF hq
  | lst a b => exact iteF hq
  | tup a b => exact iteF hq
theorem ok_plain (T : Tx K mg) : FnOk P w K mg base CX0 (k + 1) T.a_is_plain T.d_is_plain P_is_plain (spPlain K) := by
  refine T.F_is_plain.ok sc_is_plain (fun vs H Q E h => ?_) (fun cdv A outer s H vs Q E hr h => ?_)
  · obtain ⟨v, d, rfl, _⟩ := h
    rfl
  obtain ⟨v, d, rfl, hd, hw, hq⟩ := h
  refine ⟨_, (pss_one (ps_ret (pe_and (pe_callB call_isi rfl T.z_isinstance (by decide +kernel) (pa_cons (pv 0) (pa_cons (pe_bltn (v := .ty "str") rfl T.z_str (by decide +kernel) rfl) pa_nil))) (pe_one (pe_callB (cr_all rfl) rfl T.z_all (by decide +kernel) (pa_cons (pe_lc (own := [("sign", 1)]) (g := (gName 1)) (tt := tYes) rfl sc_is_plain.nd (pi_str (pv 0)) (blkOk_by (own := [("sign", 1)]) (N := N_is_plain) (sc := defScope s_is_plain) (by decide +kernel)) (fun _ _ _ _ _ => (pg_name (i := 1) sc_is_plain.nd rfl (Or.inl rfl))) (fun _ _ _ _ _ => pts_nil) (fun _ _ _ _ _ => (pe_chain op_le_str op_le_str pe_str (pv 1) pe_str))) pa_nil)))))), ?_⟩
  refine ⟨_, rfl, _, _, _, _, _, rfl, .ty "str", dp_ty hd, kit_str d, _, rfl, ?_⟩
  cases hd with
  | str z =>
    refine iteT ⟨_, rfl, z, rfl, fun D hD => ?_⟩
    refine lc_it walk_str (fun i H' => H' = upd H D (.lst ((z.cps.toList.take i).map fun c => .bl (signOk c)))) ?_ (fun _ _ _ _ => trivial) ?_ ?_
    · rfl
    · rintro i x _ _ hi rfl ⟨rfl, c, hc, rfl⟩
      have hc' : z.cps.toList[i]? = some c := by simpa using hc
      refine ⟨rfl, yesT ?_⟩
      refine iteT ?_
      refine ⟨_, rfl, _, _, rfl, rfl, _, rfl, ?_⟩
      have hz : z.cps.size ≤ 1000000 := hw
      have go : ∀ b : Bool, b = signOk c → ∃ acc, upd H D (.lst ((z.cps.toList.take i).map fun c => V.bl (signOk c))) D = some (.lst acc) ∧ acc.length < sizeLine ∧
          upd (upd H D (.lst ((z.cps.toList.take i).map fun c => V.bl (signOk c)))) D (.lst (acc ++ [.bl b])) = upd H D (.lst ((z.cps.toList.take (i + 1)).map fun c => V.bl (signOk c))) := by
        rintro _ rfl
        refine ⟨_, upd_same, ?_, ?_⟩
        · refine Nat.lt_of_le_of_lt (m := 1000000) ?_ (by decide)
          rw [List.length_map, List.length_take]
          omega
        · rw [upd_upd, List.take_add_one, hc', List.map_append]
          rfl
      rw [sp_cps]
      show if (!decide ([c] < [32])) = true then _ else _
      rw [one_lt]
      refine ite2 (fun h1 => ?_) (fun h1 => ?_)
      · refine ⟨_, _, rfl, rfl, ?_⟩
        rw [td_cps]
        show ∃ acc, _
        refine go _ ?_
        show (!decide ([126] < [c])) = signOk c
        rw [one_lt]
        unfold signOk
        rw [h1]
        rfl
      · refine go _ ?_
        unfold signOk
        rw [Bool.eq_false_iff.mpr h1]
        rfl
    · rintro _ rfl
      have e : z.cps.toList.take z.cps.size = z.cps.toList := List.take_of_length_le (by simp)
      refine ⟨D, z.cps.toList.map signOk, rfl, .of (by rw [upd_same, e, List.map_map]; rfl), ?_⟩
      have e2 : ((z.cps.toList.map signOk).all id) = plainD (.str z) := by
        rw [List.all_map]
        rfl
      rw [e2]
      exact hq _ (same_new hD)
  | non => exact iteF (hq _ (.refl _))
  | bl b => exact iteF (hq _ (.refl _))
  | int i => exact iteF (hq _ (.refl _))
  | lst a b => exact iteF (hq _ (.refl _))
  | tup a b => exact iteF (hq _ (.refl _))
end
end K33

namespace K33
open PySem PySem.Spec PyProof.Rows L2 Vk
section
variable {P : Program} {w : World} {K : PySem.W.Frag} {mg : Str → Option Value} {base : Heap} {k : Nat}
theorem seqT_dp {H : Hp} {a : Addr} {xs : List Str} (h : SqT K H a (xs.map V.str)) : Dp K H (.ref a) (.tuple (xs.map PyData.str)) := by
  refine .tup h ?_
  clear h
  induction xs with
  | nil => exact .nil
  | cons x xs ih => exact .cons (.str x) ih
theorem dedK_len (ss : List Str) : (dedK ss).length ≤ ss.length := by
  have := foldK_len ss []
  simpa [dedK] using this
theorem sortset {w : World} {H2 : Hp} {u2 : Addr} {ss : List Str} {Q : VK} (hs : SqT K H2 u2 (ss.map V.str)) (hl : ss.length ≤ 40)
    (q : ∀ (ys : List Str) (u : Addr) (H' : Hp), Same H2 H' → ys.Perm (dedK ss) → sortedS ys = true → SqT K H' u (ys.map V.str) → Q (.ref u) H') :
    rSetS K w [.ref u2] H2 (fun x H3 => rSortedT w [x] H3 (fun x2 H4 => ∃ p ys, [x2] = [V.ref p] ∧ ((SqL K H4 p ys ∧ ∀ (l : Addr), H4 l = none → Q (V.ref l) (upd H4 l (HO.tup ys))) ∨ SqT K H4 p ys ∧ Q (V.ref p) H4))) := by
  refine ⟨u2, ss, rfl, .inr hs, by omega, fun p hp => ?_⟩
  have dl := dedK_len ss
  refine ⟨p, dedK ss, rfl, upd_same, by omega, fun ys r pm so _ hr => ?_⟩
  refine ⟨r, ys.map V.str, rfl, .inl ⟨.of upd_same, fun l hl2 => ?_⟩⟩
  exact q ys l _ ((same_new hp).trans ((same_new hr).trans (same_new hl2))) pm so (.of upd_same)
theorem ok_gaps (T : Tx K mg) : FnOk P w K mg base CX0 (k + 1) T.a_gaps T.d_gaps P_gaps (spGaps K T.C_Node) := by
  refine T.F_gaps.ok sc_gaps (fun vs H Q E h => ?_) (fun cdv A outer s H vs Q E hr h => ?_)
  · obtain ⟨t, ow, inn, ps, gss, rfl, _⟩ := h
    rfl
  obtain ⟨t, ow, inn, ps, gss, rfl, ho, hi, hk, hl, hq⟩ := h
  refine ⟨_, (pss_cons (ps_if (pt_cmpR (op_eqD hr.units) (pv 0) pe_str (nomark _))
(pss_one (ps_ret (pv 1)))
pss_nil)
(pss_cons (ps_set (i := 3) sc_gaps.nd rfl (Or.inl rfl) (pe_tup pa_nil))
(pss_cons (ps_for PassesOwn.never rfl (pi_tup (pv 2)) (pg_name (i := 4) sc_gaps.nd rfl (Or.inl rfl))
(pss_one (ps_if (PW.pt (pw_and (pt_truth (pe_fld (pv 4) rfl) (fun _ => rfl)) (pw_and1 (pt_cmpR (op_neD hr.units) (pe_fld (pv 4) rfl) (pv 3) (nomark _)))))
(pss_one (ps_set (i := 3) sc_gaps.nd rfl (Or.inl rfl) (pe_callTy call_tuple_of rfl T.z_tuple (by decide +kernel) (pa_cons (pe_callB (call_sortedT rfl) rfl T.z_sorted (by decide +kernel) (pa_cons (pe_callTy (call_setS rfl) rfl T.z_set (by decide +kernel) (pa_cons (pe_op op_catA (pv 3) (pe_fld (pv 4) rfl)) pa_nil)) pa_nil)) pa_nil))))
pss_nil)))
(pss_one (ps_ret (pv 3)))))), ?_⟩
  refine ⟨_, rfl, _, _, .str _, .str _, t.shaped, kind_shaped 2, _, rfl, ?_⟩
  rw [show PyData.eqv (.str t.kind) (.str "hole") = decide (t.kx = 2) from kq t 2]
  by_cases c : t.kx = 2
  · rw [decide_eq_true c]
    cases t with
    | hol s =>
      refine iteT ⟨_, rfl, hq ow [s] H (.refl _) ?_ rfl⟩
      obtain ⟨a, xs, e, hs, hx⟩ := Dp.ofTup ho
      cases e
      cases hx with
      | cons h1 h2 =>
        cases h1
        cases h2
        exact hs
    | _ => simp [Nd.kx] at c
  · rw [decide_eq_false c]
    refine iteF ⟨(by show 0 ≤ sizeLine; decide), fun g0 hg0 => ?_⟩
    have s0 := same_new (o := .tup []) hg0
    have gso : ∀ out, GS [] gss out → gsOf t gss out := fun out q => by
      cases t with
      | hol s => exact absurd rfl c
      | _ => exact q
    refine ⟨_, rfl, inn, rfl, ⟨_, Same.seqT s0 hi⟩, for_tup (a := inn) (xs := ps.map V.ref) (fun i σ H' => Same H H' ∧ ∃ (u : Addr) (acc : List Str) (v4 : Option V), σ = [some (.str t.kind), some (.ref ow), some (.ref inn), some (.ref u), v4] ∧ SqT K H' u (acc.map V.str) ∧ (acc.length ≤ 8 * i ∧ ∀ x ∈ acc, PyData.strOk x = true) ∧ ∀ out, GS acc (gss.drop i) out → GS [] gss out)
      ⟨s0, g0, [], none, rfl, .of upd_same, ⟨Nat.le_refl _, by simp⟩, fun out q => q⟩ (fun i σ H' _ q => Same.seqT q.1 hi) ?_ ?_⟩
    · rintro i x σ H1 hx ⟨s1, u, acc, v4, rfl, hu, la, hg⟩
      rw [List.getElem?_map] at hx
      obtain ⟨p, hp, rfl⟩ := Option.map_eq_some_iff.mp hx
      obtain ⟨a, gs, ha, hgs, N⟩ := Kids.get hk hp
      have N1 := NodeAt.fix (CD := T.C_Doc) (Fix.of s1) N
      obtain ⟨hig, eg⟩ := List.getElem?_eq_some_iff.mp hgs
      have lg : namesOk gs := hl gs (List.mem_of_getElem? hgs)
      have dr : gss.drop i = gs :: gss.drop (i + 1) := by rw [List.drop_eq_getElem_cons hig, eg]
      cases N1 with
      | mk n1 n2 n3 n4 n5 =>
        rename_i dx ow' inn' gp sz mo ps' gss'
        refine ⟨_, rfl, p, T.C_Node, dx, _, _, rfl, n1, T.cls_Node, T.na_Node_gaps, rfl, _, .inr (.inl ⟨_, n4, rfl⟩), ?_⟩
        by_cases c1 : gs = []
        · subst c1
          refine iteF ?_
          refine iteF ?_
          refine ⟨s1, u, acc, _, rfl, hu, ⟨by have := la.1; omega, la.2⟩, fun out q => hg out ?_⟩
          rw [dr]
          exact .keep (.inl rfl) q
        · have ne : (!(gs.map V.str).isEmpty) = true := by
            cases gs with
            | nil => exact absurd rfl c1
            | cons _ _ => rfl
          rw [ne]
          refine iteT ?_
          refine ⟨_, rfl, p, T.C_Node, dx, _, _, rfl, n1, T.cls_Node, T.na_Node_gaps, rfl, _, rfl, _, _, seqT_dp n4, seqT_dp hu, strs_shaped lg.2, strs_shaped la.2, _, rfl, ?_⟩
          rw [eqv_tstrs]
          by_cases c2 : gs = acc
          · rw [decide_eq_true c2]
            refine iteF ?_
            refine ⟨s1, u, acc, _, rfl, hu, ⟨by have := la.1; omega, la.2⟩, fun out q => hg out ?_⟩
            rw [dr]
            exact .keep (.inr c2) q
          · rw [decide_eq_false c2]
            refine iteT ?_
            have nea : gs.map V.str ≠ [] := fun z => c1 (List.map_eq_nil_iff.mp z)
            -- tuple(sorted(set(gaps + part.gaps)))
            have l2 : (acc ++ gs).length ≤ 8 * (i + 1) := by
              rw [List.length_append]
              have := la.1
              have := lg.1
              omega
            have i2 : i < 2 := by
              have := hk.len.2
              have k2 : t.kids.length ≤ 2 := by cases t <;> simp [Nd.kids]
              omega
            have ok2 : ∀ x ∈ acc ++ gs, PyData.strOk x = true := fun x hx => (List.mem_append.mp hx).elim (la.2 x) (lg.2 x)
            refine ⟨_, rfl, _, rfl, p, T.C_Node, dx, _, _, rfl, n1, T.cls_Node, T.na_Node_gaps, rfl, u, gp, _, _, rfl, rfl, hu, n4, ?_, fun e => ?_, fun _ e => absurd e nea, fun e _ q2 hq2 => ?_⟩
            · rw [List.length_map, List.length_map]
              have := la.1
              have := lg.1
              exact Nat.le_trans (m := 1000) (by omega) (by decide)
            · have e' : acc = [] := List.map_eq_nil_iff.mp e
              subst e'
              refine sortset (w := w) (K := K) (Q := fun v H' => Same H H' ∧ ∃ (u' : Addr) (acc : List Str) (v4' : Option V), [some (V.str t.kind), some (V.ref ow), some (V.ref inn), some v, some (V.ref p)] = [some (.str t.kind), some (.ref ow), some (.ref inn), some (.ref u'), v4'] ∧ SqT K H' u' (acc.map V.str) ∧ (acc.length ≤ 8 * (i + 1) ∧ ∀ x ∈ acc, PyData.strOk x = true) ∧ ∀ out, GS acc (gss.drop (i + 1)) out → GS [] gss out) (ss := gs) n4 (by have := lg.1; omega) fun ys u3 H3 s3 pm so h3 => ?_
              refine ⟨s1.trans s3, u3, ys, _, rfl, h3, ⟨?_, fun x hx => lg.2 x ((dedK_mem _ _).mp (pm.mem_iff.mp hx))⟩, fun out q => hg out ?_⟩
              · rw [pm.length_eq]
                have := dedK_len gs
                have := lg.1
                omega
              · rw [dr]
                exact .put c1 c2 pm so q
            · have s2 := same_new (o := .tup (acc.map V.str ++ gs.map V.str)) hq2
              refine sortset (w := w) (K := K) (Q := fun v H' => Same H H' ∧ ∃ (u' : Addr) (acc : List Str) (v4' : Option V), [some (V.str t.kind), some (V.ref ow), some (V.ref inn), some v, some (V.ref p)] = [some (.str t.kind), some (.ref ow), some (.ref inn), some (.ref u'), v4'] ∧ SqT K H' u' (acc.map V.str) ∧ (acc.length ≤ 8 * (i + 1) ∧ ∀ x ∈ acc, PyData.strOk x = true) ∧ ∀ out, GS acc (gss.drop (i + 1)) out → GS [] gss out) (ss := acc ++ gs) (by rw [List.map_append]; exact .of upd_same) (by omega) fun ys u3 H3 s3 pm so h3 => ?_
              refine ⟨s1.trans (s2.trans s3), u3, ys, _, rfl, h3, ⟨?_, fun x hx => ok2 x ((dedK_mem _ _).mp (pm.mem_iff.mp hx))⟩, fun out q => hg out ?_⟩
              · rw [pm.length_eq]
                have := dedK_len (acc ++ gs)
                omega
              · rw [dr]
                exact .put c1 c2 pm so q
    · rintro σ H1 ⟨s1, u, acc, v4, rfl, hu, la, hg⟩
      rw [List.length_map, hk.len.1, ← hk.len.2, List.drop_length] at hg
      exact ⟨_, rfl, hq u acc H1 s1 hu (gso acc (hg acc .nil))⟩
end
section
variable {P : Program} {w : World} {K : PySem.W.Frag} {mg : Str → Option Value} {base : Heap} {k : Nat}
theorem brk_own {H : Hp} {ow : Addr} {d : PyData} (h : Dp K H (.ref ow) (.tuple [d])) : ∃ v, SqT K H ow [v] ∧ Dp K H v d := by
  obtain ⟨a, xs, e, hs, hx⟩ := Dp.ofTup h
  cases e
  cases hx with
  | cons h1 h2 =>
    cases h2
    exact ⟨_, hs, h1⟩
theorem two_new {H : Hp} {Q : VK} {a b : V} (h : ∀ u, H u = none → Q (.ref u) (upd H u (.tup [a, b]))) : ([a, b] : List V).length ≤ sizeLine ∧ ∀ p, H p = none → Q (.ref p) (upd H p (.tup [a, b])) := ⟨by show 2 ≤ sizeLine; decide, h⟩
theorem ok_counts (T : Tx K mg) : FnOk P w K mg base CX0 (k + 1) T.a_counts T.d_counts P_counts (spCounts K T.C_Node) := by
  refine T.F_counts.ok sc_counts (fun vs H Q E h => ?_) (fun cdv A outer s H vs Q E hr h => ?_)
  · obtain ⟨t, ow, inn, ps, gss, rfl, _⟩ := h
    rfl
  obtain ⟨t, ow, inn, ps, gss, rfl, ho, hi, hk, hl, hq⟩ := h
  refine ⟨_, (pss_cons (ps_if (PW.pt (pw_and (pt_cmpR (op_eqD hr.units) (pv 0) pe_str (nomark _)) (pw_and1 (pt_cmpR op_isN (pe_ix ix_tup (pv 1) pe_int (fun _ _ => rfl)) pe_non (nomark _)))))
(pss_one (ps_ret (pe_tup (pa_cons pe_int (pa_cons pe_int pa_nil)))))
pss_nil)
(pss_cons (ps_if (pt_not (pt_truth (pv 2) (fun _ => rfl)))
(pss_one (ps_ret (pe_tup (pa_cons pe_int (pa_cons pe_int pa_nil)))))
pss_nil)
(pss_cons (ps_par (i := 3) (j := 4) rfl sc_counts.nd rfl rfl (by decide) rfl rfl (pa_cons (pe_ix ix_tup (pv 2) pe_int (fun _ _ => rfl)) (pa_cons (pe_ix ix_tup (pv 2) (pe_un un_neg pe_int) (fun _ _ => rfl)) pa_nil)) rfl)
(pss_cons (ps_if (pt_cmpR (op_eqD hr.units) (pv 0) pe_str (nomark _))
(pss_one (ps_ret (pe_tup (pa_cons (pe_op op_mul (pe_fld (pv 3) rfl) (pe_fld (pv 4) rfl)) (pa_cons (pe_op op_mul (pe_fld (pv 3) rfl) (pe_fld (pv 4) rfl)) pa_nil)))))
pss_nil)
(pss_cons (ps_if (pt_cmpR (op_eqD hr.units) (pv 0) pe_str (nomark _))
(pss_one (ps_ret (pe_tup (pa_cons (pe_op op_add (pe_fld (pv 3) rfl) (pe_fld (pv 4) rfl)) (pa_cons (pe_op op_add (pe_fld (pv 3) rfl) (pe_fld (pv 4) rfl)) pa_nil)))))
pss_nil)
(pss_cons (ps_if (pt_cmpR (op_eqD hr.units) (pv 0) pe_str (nomark _))
(pss_one (ps_ret (pe_tup (pa_cons (pe_op op_add (pe_fld (pv 3) rfl) (pe_fld (pv 3) rfl)) (pa_cons (pe_fld (pv 3) rfl) pa_nil)))))
pss_nil)
(pss_cons (ps_if (pt_cmpR (op_eqD hr.units) (pv 0) pe_str (nomark _))
(pss_one (ps_ret (pe_tup (pa_cons (pe_fld (pv 3) rfl) (pa_cons (pe_fld (pv 3) rfl) pa_nil)))))
pss_nil)
(pss_one (ps_ret (pe_tup (pa_cons (pe_fld (pv 3) rfl) (pa_cons (pe_fld (pv 3) rfl) pa_nil)))))))))))), ?_⟩
  refine ⟨_, rfl, _, _, .str _, .str _, t.shaped, kind_shaped 1, _, rfl, ?_⟩
  rw [show PyData.eqv (.str t.kind) (.str "break") = decide (t.kx = 1) from kq t 1]
  cases t with
  | txt z =>
    cases hk
    refine iteF (iteF ?_)
    refine ⟨_, rfl, _, .inr (.inl ⟨_, hi, rfl⟩), iteT ?_⟩
    exact two_new hq
  | hol z =>
    cases hk
    refine iteF (iteF ?_)
    refine ⟨_, rfl, _, .inr (.inl ⟨_, hi, rfl⟩), iteT ?_⟩
    exact two_new hq
  | brk o =>
    cases hk
    obtain ⟨v, hs, hv⟩ := brk_own (d := optD o) ho
    refine iteT ?_
    refine ⟨_, rfl, ow, _, 0, v, rfl, rfl, hs, rfl, rfl, ?_⟩
    cases o with
    | none =>
      cases hv
      exact ⟨_, rfl, iteT (two_new hq)⟩
    | some z =>
      cases hv
      refine ⟨_, rfl, iteF ?_⟩
      refine ⟨_, rfl, _, .inr (.inl ⟨_, hi, rfl⟩), iteT ?_⟩
      exact two_new hq
  | jn a b =>
    cases hk with
    | cons h1 h2 =>
    cases h2 with
    | cons h2 h3 =>
    cases h3
    have w1 := hl a (by simp [Nd.kids])
    have w2 := hl b (by simp [Nd.kids])
    have p1 := a.ways_pos
    have p2 := b.ways_pos
    cases h1 with
    | mk m1 m2 m3 m4 m5 =>
    cases h2 with
    | mk n1 n2 n3 n4 n5 =>
    refine iteF (iteF ?_)
    refine ⟨_, rfl, _, .inr (.inl ⟨_, hi, rfl⟩), iteF ?_⟩
    refine ⟨_, rfl, inn, _, 0, _, rfl, rfl, hi, rfl, _, rfl, _, rfl, inn, _, -1, _, rfl, rfl, hi, rfl, _, _, rfl, ?_⟩
    refine ⟨_, rfl, _, _, .str _, .str _, Nd.shaped (.jn a b), kind_shaped 3, true, congrArg V.bl (kq (.jn a b) 3), iteT ?_⟩
    refine ⟨_, rfl, _, T.C_Node, _, _, _, rfl, m1, T.cls_Node, T.na_Node_broken, rfl, _, rfl, _, T.C_Node, _, _, _, rfl, n1, T.cls_Node, T.na_Node_broken, rfl, _, _, rfl, rfl, .inl ⟨by omega, by omega⟩, _, rfl, _, T.C_Node, _, _, _, rfl, m1, T.cls_Node, T.na_Node_flat, rfl, _, rfl, _, T.C_Node, _, _, _, rfl, n1, T.cls_Node, T.na_Node_flat, rfl, _, _, rfl, rfl, .inl ⟨by omega, by omega⟩, two_new hq⟩
  | ch a b =>
    cases hk with
    | cons h1 h2 =>
    cases h2 with
    | cons h2 h3 =>
    cases h3
    have w1 := hl a (by simp [Nd.kids])
    have w2 := hl b (by simp [Nd.kids])
    have p1 := a.ways_pos
    have p2 := b.ways_pos
    cases h1 with
    | mk m1 m2 m3 m4 m5 =>
    cases h2 with
    | mk n1 n2 n3 n4 n5 =>
    refine iteF (iteF ?_)
    refine ⟨_, rfl, _, .inr (.inl ⟨_, hi, rfl⟩), iteF ?_⟩
    refine ⟨_, rfl, inn, _, 0, _, rfl, rfl, hi, rfl, _, rfl, _, rfl, inn, _, -1, _, rfl, rfl, hi, rfl, _, _, rfl, ?_⟩
    refine ⟨_, rfl, _, _, .str _, .str _, Nd.shaped (.ch a b), kind_shaped 3, false, congrArg V.bl (kq (.ch a b) 3), iteF ?_⟩
    refine ⟨_, rfl, _, _, .str _, .str _, Nd.shaped (.ch a b), kind_shaped 4, true, congrArg V.bl (kq (.ch a b) 4), iteT ?_⟩
    refine ⟨_, rfl, _, T.C_Node, _, _, _, rfl, m1, T.cls_Node, T.na_Node_broken, rfl, _, rfl, _, T.C_Node, _, _, _, rfl, n1, T.cls_Node, T.na_Node_broken, rfl, _, _, rfl, rfl, _, rfl, _, T.C_Node, _, _, _, rfl, m1, T.cls_Node, T.na_Node_flat, rfl, _, rfl, _, T.C_Node, _, _, _, rfl, n1, T.cls_Node, T.na_Node_flat, rfl, _, _, rfl, rfl, two_new hq⟩
  | gr a =>
    cases hk with
    | cons h1 h2 =>
    cases h2
    cases h1 with
    | mk m1 m2 m3 m4 m5 =>
    refine iteF (iteF ?_)
    refine ⟨_, rfl, _, .inr (.inl ⟨_, hi, rfl⟩), iteF ?_⟩
    refine ⟨_, rfl, inn, _, 0, _, rfl, rfl, hi, rfl, _, rfl, _, rfl, inn, _, -1, _, rfl, rfl, hi, rfl, _, _, rfl, ?_⟩
    refine ⟨_, rfl, _, _, .str _, .str _, Nd.shaped (.gr a), kind_shaped 3, false, congrArg V.bl (kq (.gr a) 3), iteF ?_⟩
    refine ⟨_, rfl, _, _, .str _, .str _, Nd.shaped (.gr a), kind_shaped 4, false, congrArg V.bl (kq (.gr a) 4), iteF ?_⟩
    refine ⟨_, rfl, _, _, .str _, .str _, Nd.shaped (.gr a), kind_shaped 6, true, congrArg V.bl (kq (.gr a) 6), iteT ?_⟩
    exact ⟨_, rfl, _, T.C_Node, _, _, _, rfl, m1, T.cls_Node, T.na_Node_broken, rfl, _, rfl, _, T.C_Node, _, _, _, rfl, m1, T.cls_Node, T.na_Node_flat, rfl, _, _, rfl, rfl, _, rfl, _, T.C_Node, _, _, _, rfl, m1, T.cls_Node, T.na_Node_flat, rfl, two_new hq⟩
  | fl a =>
    cases hk with
    | cons h1 h2 =>
    cases h2
    cases h1 with
    | mk m1 m2 m3 m4 m5 =>
    refine iteF (iteF ?_)
    refine ⟨_, rfl, _, .inr (.inl ⟨_, hi, rfl⟩), iteF ?_⟩
    refine ⟨_, rfl, inn, _, 0, _, rfl, rfl, hi, rfl, _, rfl, _, rfl, inn, _, -1, _, rfl, rfl, hi, rfl, _, _, rfl, ?_⟩
    refine ⟨_, rfl, _, _, .str _, .str _, Nd.shaped (.fl a), kind_shaped 3, false, congrArg V.bl (kq (.fl a) 3), iteF ?_⟩
    refine ⟨_, rfl, _, _, .str _, .str _, Nd.shaped (.fl a), kind_shaped 4, false, congrArg V.bl (kq (.fl a) 4), iteF ?_⟩
    refine ⟨_, rfl, _, _, .str _, .str _, Nd.shaped (.fl a), kind_shaped 6, false, congrArg V.bl (kq (.fl a) 6), iteF ?_⟩
    refine ⟨_, rfl, _, _, .str _, .str _, Nd.shaped (.fl a), kind_shaped 7, true, congrArg V.bl (kq (.fl a) 7), iteT ?_⟩
    exact ⟨_, rfl, _, T.C_Node, _, _, _, rfl, m1, T.cls_Node, T.na_Node_flat, rfl, _, rfl, _, T.C_Node, _, _, _, rfl, m1, T.cls_Node, T.na_Node_flat, rfl, two_new hq⟩
  | ne i a =>
    cases hk with
    | cons h1 h2 =>
    cases h2
    cases h1 with
    | mk m1 m2 m3 m4 m5 =>
    refine iteF (iteF ?_)
    refine ⟨_, rfl, _, .inr (.inl ⟨_, hi, rfl⟩), iteF ?_⟩
    refine ⟨_, rfl, inn, _, 0, _, rfl, rfl, hi, rfl, _, rfl, _, rfl, inn, _, -1, _, rfl, rfl, hi, rfl, _, _, rfl, ?_⟩
    refine ⟨_, rfl, _, _, .str _, .str _, Nd.shaped (.ne i a), kind_shaped 3, false, congrArg V.bl (kq (.ne i a) 3), iteF ?_⟩
    refine ⟨_, rfl, _, _, .str _, .str _, Nd.shaped (.ne i a), kind_shaped 4, false, congrArg V.bl (kq (.ne i a) 4), iteF ?_⟩
    refine ⟨_, rfl, _, _, .str _, .str _, Nd.shaped (.ne i a), kind_shaped 6, false, congrArg V.bl (kq (.ne i a) 6), iteF ?_⟩
    refine ⟨_, rfl, _, _, .str _, .str _, Nd.shaped (.ne i a), kind_shaped 7, false, congrArg V.bl (kq (.ne i a) 7), iteF ?_⟩
    exact ⟨_, rfl, _, T.C_Node, _, _, _, rfl, m1, T.cls_Node, T.na_Node_broken, rfl, _, rfl, _, T.C_Node, _, _, _, rfl, m1, T.cls_Node, T.na_Node_flat, rfl, two_new hq⟩
end
end K33

namespace K33
open PySem PySem.Spec PyProof.Rows L2 Vk
section
variable {P : Program} {w : World} {K : PySem.W.Frag} {mg : Str → Option Value} {base : Heap} {k : Nat}
theorem ok_settled (T : Tx K mg) : FnOk P w K mg base CX0 (k + 1) T.a_is_settled T.d_is_settled P_is_settled (spSettled K T.C_Node) := by
  refine T.F_is_settled.ok sc_is_settled (fun vs H Q E h => ?_) (fun cdv A outer s H vs Q E hr h => ?_)
  · obtain ⟨t, inn, ps, gss, rfl, _⟩ := h
    rfl
  obtain ⟨t, inn, ps, gss, rfl, hi, hk, hq⟩ := h
  refine ⟨_, (pss_cons (ps_if (PW.pt (pw_or (pt_cmpR op_in_seq (pv 0) (pe_tup (pa_cons pe_str (pa_cons pe_str pa_nil))) rfl) (pw_or1 (pt_cmpR (op_eqD hr.units) (pv 1) pe_int (nomark _)))))
(pss_one (ps_ret pe_bl))
pss_nil)
(pss_one (ps_ret (pe_and (pe_cmpR (op_neD hr.units) (pv 0) pe_str (nomark _)) (pe_one (pe_callB (cr_all rfl) rfl T.z_all (by decide +kernel) (pa_cons (pe_lc (own := [("part", 3)]) (g := (gName 3)) (tt := tYes) rfl sc_is_settled.nd (pi_tup (pv 2)) (blkOk_by (own := [("part", 3)]) (N := N_is_settled) (sc := defScope s_is_settled) (by decide +kernel)) (fun _ _ _ _ _ => (pg_name (i := 3) sc_is_settled.nd rfl (Or.inl rfl))) (fun _ _ _ _ _ => pts_nil) (fun _ _ _ _ _ => (show PE _ _ (tFld K (tVar 3) "settled") from (pe_fld (pv 3) rfl)))) pa_nil))))))), ?_⟩
  have st1 : t.kx = 6 ∨ t.kx = 7 → stl t = true := fun h => by
    cases t with
    | brk o => exact absurd h (show ¬ ((1 : Fin 8) = 6 ∨ (1 : Fin 8) = 7) by decide)
    | jn a b => exact absurd h (show ¬ ((3 : Fin 8) = 6 ∨ (3 : Fin 8) = 7) by decide)
    | ch a b => exact absurd h (show ¬ ((4 : Fin 8) = 6 ∨ (4 : Fin 8) = 7) by decide)
    | ne k a => exact absurd h (show ¬ ((5 : Fin 8) = 6 ∨ (5 : Fin 8) = 7) by decide)
    | _ => rfl
  have ei : ∀ a b : Int, PyData.eqv (.int a) (.int b) = decide (a = b) := fun a b => by
    by_cases h : a = b
    · subst h
      simp [PyData.eqv]
    · simp [PyData.eqv, h]
  have kin : ∀ j : Fin 8, inV (V.str (kindOf j)) [V.str "group", V.str "flattened"] = decide (j = 6 ∨ j = 7) := by decide +kernel
  have st2 : t.ways.2 = 0 → stl t = true := fun h => by
    cases t with
    | brk o => exact decide_eq_true h
    | jn a b =>
      show (decide _ || _) = true
      rw [decide_eq_true h]
      rfl
    | ch a b =>
      show (decide _ || _) = true
      rw [decide_eq_true h]
      rfl
    | ne k a =>
      show (decide _ || _) = true
      rw [decide_eq_true h]
      rfl
    | _ => rfl
  have st3 : t.ways.2 ≠ 0 → t.kx ≠ 6 → t.kx ≠ 7 → t.kx ≠ 1 → stl t = (t.kids.map stl).all id := fun h n1 n2 n3 => by
    cases t with
    | jn a b =>
      show (decide _ || _) = _
      rw [decide_eq_false h]
      simp [Nd.kids]
    | ch a b =>
      show (decide _ || _) = _
      rw [decide_eq_false h]
      simp [Nd.kids]
    | ne k a =>
      show (decide _ || _) = _
      rw [decide_eq_false h]
      simp [Nd.kids]
    | brk o => exact absurd rfl n3
    | gr a => exact absurd rfl n1
    | fl a => exact absurd rfl n2
    | txt z => rfl
    | hol z => rfl
  refine ⟨_, rfl, (by show 2 ≤ sizeLine; decide), fun p1 hp1 => ⟨p1, _, rfl, .inr (.of upd_same), rfl, rfl, _, rfl, ite2 (fun k1 => ?_) (fun k1 => ?_)⟩⟩
  · rw [Nd.kind_is] at k1
    have q := (kin t.kx).symm.trans k1
    have hq' := hq _ (same_new (o := .tup [.str "group", .str "flattened"]) hp1)
    rw [st1 (of_decide_eq_true q)] at hq'
    exact iteT hq'
  have nk : ¬ (t.kx = 6 ∨ t.kx = 7) := fun z => k1 (by
    rw [Nd.kind_is]
    exact (kin t.kx).trans (decide_eq_true z))
  have s0 := same_new (o := .tup [.str "group", .str "flattened"]) hp1
  generalize upd H p1 _ = H0 at s0 ⊢
  refine ⟨_, rfl, _, _, .int _, .int _, rfl, rfl, _, rfl, ite2 (fun k2 => ?_) (fun k2 => ?_)⟩
  · rw [ei] at k2
    have hq' := hq _ s0
    rw [st2 (of_decide_eq_true k2)] at hq'
    exact hq'
  rw [ei] at k2
  have z2 : t.ways.2 ≠ 0 := fun z => k2 (decide_eq_true z)
  refine ⟨_, rfl, _, _, .str _, .str _, t.shaped, kind_shaped 1, _, rfl, ite2 (fun k3 => ?_) (fun k3 => ?_)⟩
  · have n1 : t.kx ≠ 1 := fun z => by
      have q := kq t 1
      rw [decide_eq_true z] at q
      have q' : PyData.eqv (.str t.kind) (.str "break") = true := q
      have k3' : (!PyData.eqv (.str t.kind) (.str "break")) = true := k3
      rw [q'] at k3'
      cases k3'
    refine ⟨_, rfl, inn, rfl, ⟨_, Same.seqT s0 hi⟩, fun D hD => ?_⟩
    refine lc_tup (a := inn) (xs := ps.map V.ref) (fun i H' => ∃ bs : List Bool, bs = (t.kids.map stl).take i ∧ H' = upd H0 D (.lst (bs.map V.bl))) ⟨[], rfl, rfl⟩ (fun i H' _ e => by obtain ⟨bs, _, rfl⟩ := e; exact Same.seqT (s0.trans (same_new hD)) hi) ?_ ?_
    · rintro i x _ hx ⟨bs, lb, rfl⟩
      rw [List.getElem?_map] at hx
      obtain ⟨p, hp, rfl⟩ := Option.map_eq_some_iff.mp hx
      obtain ⟨a, gs, ha, hgs, N⟩ := Kids.get hk hp
      have N1 := NodeAt.fix (CD := T.C_Doc) (Fix.of (s0.trans (same_new (o := .lst (bs.map V.bl)) hD))) N
      have li : i < 2 := by
        have k2 : t.kids.length ≤ 2 := by cases t <;> simp [Nd.kids]
        have := (List.getElem?_eq_some_iff.mp ha).1
        omega
      cases N1 with
      | mk n1 n2 n3 n4 n5 =>
        rename_i dx ow' inn' gp sz mo ps' gss'
        refine ⟨rfl, yesT (iteT ?_)⟩
        refine ⟨_, rfl, p, T.C_Node, dx, _, _, rfl, n1, T.cls_Node, T.na_Node_settled, rfl, _, upd_same, ?_, bs ++ [stl a], by rw [lb, List.take_add_one, List.getElem?_map, ha]; rfl, ?_⟩
        · rw [List.length_map, lb, List.length_take]
          exact Nat.lt_of_le_of_lt (m := 10) (by omega) (by decide)
        · rw [upd_upd, List.map_append]
          rfl
    · rintro _ ⟨bs, lb, rfl⟩
      have lk : ps.length = t.kids.length := (Kids.len hk).1
      have lb' : bs = t.kids.map stl := by
        rw [lb, List.take_of_length_le]
        rw [List.length_map, List.length_map]
        omega
      have hq' := hq _ (s0.trans (same_new (o := .lst (bs.map V.bl)) hD))
      rw [st3 z2 (fun z => nk (.inl z)) (fun z => nk (.inr z)) n1, ← lb'] at hq'
      exact ⟨D, bs, rfl, .of upd_same, hq'⟩
  · have e1 : t.kx = 1 := Classical.byContradiction fun z => k3 (by
      have q := kq t 1
      rw [decide_eq_false z] at q
      have q' : PyData.eqv (.str t.kind) (.str "break") = false := q
      show (!PyData.eqv (.str t.kind) (.str "break")) = true
      rw [q']
      rfl)
    have e2 : stl t = false := by
      cases t with
      | brk o => exact decide_eq_false z2
      | txt _ => cases (show (0 : Fin 8) = 1 from e1)
      | hol _ => cases (show (2 : Fin 8) = 1 from e1)
      | jn _ _ => cases (show (3 : Fin 8) = 1 from e1)
      | ch _ _ => cases (show (4 : Fin 8) = 1 from e1)
      | ne _ _ => cases (show (5 : Fin 8) = 1 from e1)
      | gr _ => cases (show (6 : Fin 8) = 1 from e1)
      | fl _ => cases (show (7 : Fin 8) = 1 from e1)
    have hq' := hq _ s0
    rw [e2] at hq'
    exact hq'
theorem ok_node (T : Tx K mg) (G_gaps : FnOk P w K mg base CX0 k T.a_gaps T.d_gaps P_gaps (spGaps K T.C_Node)) (G_counts : FnOk P w K mg base CX0 k T.a_counts T.d_counts P_counts (spCounts K T.C_Node)) (G_is_settled : FnOk P w K mg base CX0 k T.a_is_settled T.d_is_settled P_is_settled (spSettled K T.C_Node)) :
    FnOk P w K mg base CX0 (k + 1) T.a_Node_init T.d_Node_init P_Node_init (spNode K T.C_Node) := by
  refine T.F_Node_init.ok sc_Node_init (fun vs H Q E h => ?_) (fun cdv A outer s H vs Q E hr h => ?_)
  · obtain ⟨t, p, dx, ow, inn, ps, gss, rfl, _⟩ := h
    rfl
  obtain ⟨t, p, dx, ow, inn, ps, gss, rfl, hp, ho, hi, hk, hl, hg, hq⟩ := h
  refine ⟨_, (pss_cons (ps_fld (pv 0) (pv 1) rfl)
(pss_cons (ps_fld (pv 0) (pv 2) rfl)
(pss_cons (ps_fld (pv 0) (pv 3) rfl)
(pss_cons (ps_fld (pv 0) (pe_call G_gaps hr rfl T.m_gaps T.F_gaps.kp T.b_gaps .nil pass0 (pa_cons (pv 1) (pa_cons (pv 2) (pa_cons (pv 3) pa_nil)))) rfl)
(pss_cons (ps_asg (pe_call G_counts hr rfl T.m_counts T.F_counts.kp T.b_counts .nil pass0 (pa_cons (pv 1) (pa_cons (pv 2) (pa_cons (pv 3) pa_nil)))) (pg_tup rfl (pgs_cons (pg_fld (pv 0)) (pgs_cons (pg_fld (pv 0)) pgs_nil))))
(pss_cons (ps_par (i := 4) (j := 5) rfl sc_Node_init.nd rfl rfl (by decide) rfl rfl (pa_cons pe_int (pa_cons (pe_fld (pv 0) rfl) pa_nil)) rfl)
(pss_cons (ps_for PassesOwn.never rfl (pi_tup (pv 3)) (pg_name (i := 6) sc_Node_init.nd rfl (Or.inl rfl))
(pss_cons (ps_set (i := 4) sc_Node_init.nd rfl (Or.inl rfl) (pe_op op_add (pv 4) (pe_fld (pv 6) rfl)))
(pss_one (ps_if (pt_cmpR op_gt (pe_fld (pv 6) rfl) (pv 5) (nomark _))
(pss_one (ps_set (i := 5) sc_Node_init.nd rfl (Or.inl rfl) (pe_fld (pv 6) rfl)))
pss_nil))))
(pss_cons (ps_fld (pv 0) (pv 4) rfl)
(pss_cons (ps_fld (pv 0) (pv 5) rfl)
(pss_one (ps_fld (pv 0) (pe_call G_is_settled hr rfl T.m_is_settled T.F_is_settled.kp T.b_is_settled .nil pass0 (pa_cons (pv 1) (pa_cons (pe_fld (pv 0) rfl) (pa_cons (pv 3) pa_nil)))) rfl))))))))))), ?_⟩
  have R0 : ∀ {H' : Hp} {o : HO}, (∀ b o, H b = some o → b ≠ p → H' b = some o) → ∀ b u, H b = some u → b ≠ p → upd H' p o b = some u := fun r b u e n => by
    rw [upd_ne n]
    exact r b u e n
  -- self.kind, self.own, self.inner
  refine ⟨_, rfl, _, rfl, p, T.C_Node, dx, _, rfl, hp, T.cls_Node, T.na_Node_kind, (by show 0 < 1000; decide), ?_⟩
  refine ⟨_, rfl, _, rfl, p, T.C_Node, dx, _, rfl, upd_same, T.cls_Node, T.na_Node_own, (by show 1 < 1000; decide), ?_⟩
  refine ⟨_, rfl, _, rfl, p, T.C_Node, dx, _, rfl, upd_same, T.cls_Node, T.na_Node_inner, (by show 2 < 1000; decide), ?_⟩
  rw [upd_upd, upd_upd]
  have r3 : ∀ b u, H b = some u → b ≠ p → upd H p (.ins T.C_Node dx (putF "inner" (.ref inn) (putF "own" (.ref ow) (putF "kind" (.str t.kind) [])))) b = some u := R0 fun _ _ e _ => e
  have k3 : upd H p (.ins T.C_Node dx (putF "inner" (.ref inn) (putF "own" (.ref ow) (putF "kind" (.str t.kind) [])))) p = some (.ins T.C_Node dx (putF "inner" (.ref inn) (putF "own" (.ref ow) (putF "kind" (.str t.kind) [])))) := upd_same
  generalize upd H p _ = H3 at r3 k3 ⊢
  have f3 : Fix T.C_Node T.C_Doc H H3 := .but hp r3
  -- self.gaps
  refine ⟨_, rfl, _, rfl, _, rfl, t, ow, inn, ps, gss, rfl, Dp.fix f3 ho (own_noL t), f3.seqT hi, Kids.fix f3 hk, hg, fun gp gs H4 s4 g4 hgs => ?_⟩
  refine ⟨_, rfl, p, T.C_Node, dx, _, rfl, s4 _ _ k3, T.cls_Node, T.na_Node_gaps, (by show 3 < 1000; decide), ?_⟩
  have r4 := R0 (o := .ins T.C_Node dx (putF "gaps" (.ref gp) (putF "inner" (.ref inn) (putF "own" (.ref ow) (putF "kind" (.str t.kind) []))))) (fun b u e n => s4 b u (r3 b u e n))
  have k4 : upd H4 p (.ins T.C_Node dx (putF "gaps" (.ref gp) (putF "inner" (.ref inn) (putF "own" (.ref ow) (putF "kind" (.str t.kind) []))))) p = some (.ins T.C_Node dx (putF "gaps" (.ref gp) (putF "inner" (.ref inn) (putF "own" (.ref ow) (putF "kind" (.str t.kind) []))))) := upd_same
  have g5 := seqT_upd (o := .ins T.C_Node dx (putF "gaps" (.ref gp) (putF "inner" (.ref inn) (putF "own" (.ref ow) (putF "kind" (.str t.kind) []))))) (s4 _ _ k3) g4
  generalize upd H4 p _ = H5 at r4 k4 g5 ⊢
  have f5 : Fix T.C_Node T.C_Doc H H5 := .but hp r4
  -- self.broken, self.flat
  refine ⟨_, rfl, _, rfl, _, rfl, t, ow, inn, ps, gss, rfl, Dp.fix f5 ho (own_noL t), f5.seqT hi, Kids.fix f5 hk, hl, fun u hu => ?_⟩
  have su := same_new (o := .tup [.int t.ways.1, .int t.ways.2]) hu
  refine ⟨u, _, rfl, .of upd_same, rfl, _, _, rfl, _, rfl, p, T.C_Node, dx, _, rfl, su _ _ k4, T.cls_Node, T.na_Node_broken, (by show 4 < 1000; decide), _, _, rfl, _, rfl, p, T.C_Node, dx, _, rfl, upd_same, T.cls_Node, T.na_Node_flat, (by show 5 < 1000; decide), rfl, ?_⟩
  rw [upd_upd]
  have r6 := R0 (o := .ins T.C_Node dx (putF "flat" (.int t.ways.2) (putF "broken" (.int t.ways.1) (putF "gaps" (.ref gp) (putF "inner" (.ref inn) (putF "own" (.ref ow) (putF "kind" (.str t.kind) []))))))) (fun b w e n => su b w (r4 b w e n))
  have k6 : upd (upd H5 u (.tup [.int t.ways.1, .int t.ways.2])) p (.ins T.C_Node dx (putF "flat" (.int t.ways.2) (putF "broken" (.int t.ways.1) (putF "gaps" (.ref gp) (putF "inner" (.ref inn) (putF "own" (.ref ow) (putF "kind" (.str t.kind) []))))))) p = some (.ins T.C_Node dx (putF "flat" (.int t.ways.2) (putF "broken" (.int t.ways.1) (putF "gaps" (.ref gp) (putF "inner" (.ref inn) (putF "own" (.ref ow) (putF "kind" (.str t.kind) []))))))) := upd_same
  have g6 := seqT_upd (o := .ins T.C_Node dx (putF "flat" (.int t.ways.2) (putF "broken" (.int t.ways.1) (putF "gaps" (.ref gp) (putF "inner" (.ref inn) (putF "own" (.ref ow) (putF "kind" (.str t.kind) []))))))) (su _ _ k4) (Same.seqT su g5)
  generalize upd (upd H5 u _) p _ = H6 at r6 k6 g6 ⊢
  have f6 : Fix T.C_Node T.C_Doc H H6 := .but hp r6
  -- size, most
  refine ⟨_, rfl, p, T.C_Node, dx, _, _, rfl, k6, T.cls_Node, T.na_Node_broken, rfl, _, _, rfl, ?_⟩
  refine ⟨_, rfl, inn, rfl, ⟨_, f6.seqT hi⟩, for_tup (a := inn) (xs := ps.map V.ref) (fun i σ H' => H' = H6 ∧ ∃ (sz mo : Int) (v6 : Option V), σ = [some (.ref p), some (.str t.kind), some (.ref ow), some (.ref inn), some (.int sz), some (.int mo), v6]) ⟨rfl, _, _, none, rfl⟩ (fun i σ H' _ q => by rw [q.1]; exact f6.seqT hi) ?_ ?_⟩
  · rintro i x σ _ hx ⟨rfl, sz, mo, v6, rfl⟩
    rw [List.getElem?_map] at hx
    obtain ⟨q, hq', rfl⟩ := Option.map_eq_some_iff.mp hx
    obtain ⟨a, gs', ha, hgs', N⟩ := Kids.get hk hq'
    have N1 := NodeAt.fix f6 N
    cases N1 with
    | mk n1 n2 n3 n4 n5 =>
      rename_i dx' ow' inn' gp' sz' mo' ps' gss'
      refine ⟨_, rfl, _, rfl, q, T.C_Node, dx', _, _, rfl, n1, T.cls_Node, T.na_Node_size, rfl, _, _, rfl, rfl, ?_⟩
      refine ⟨_, rfl, q, T.C_Node, dx', _, _, rfl, n1, T.cls_Node, T.na_Node_most, rfl, _, rfl, _, _, rfl, rfl, _, rfl, ite2 (fun _ => ?_) (fun _ => ?_)⟩
      · exact ⟨_, rfl, q, T.C_Node, dx', _, _, rfl, n1, T.cls_Node, T.na_Node_most, rfl, rfl, _, _, _, rfl⟩
      · exact ⟨rfl, _, _, _, rfl⟩
  · rintro σ H' ⟨rfl, sz, mo, v6, rfl⟩
    refine ⟨_, rfl, _, rfl, p, T.C_Node, dx, _, rfl, k6, T.cls_Node, T.na_Node_size, (by show 6 < 1000; decide), ?_⟩
    refine ⟨_, rfl, _, rfl, p, T.C_Node, dx, _, rfl, upd_same, T.cls_Node, T.na_Node_most, (by show 7 < 1000; decide), ?_⟩
    rw [upd_upd]
    have r7 := R0 (o := .ins T.C_Node dx (putF "most" (.int mo) (putF "size" (.int sz) (putF "flat" (.int t.ways.2) (putF "broken" (.int t.ways.1) (putF "gaps" (.ref gp) (putF "inner" (.ref inn) (putF "own" (.ref ow) (putF "kind" (.str t.kind) []))))))))) r6
    have k7 : upd H' p (.ins T.C_Node dx (putF "most" (.int mo) (putF "size" (.int sz) (putF "flat" (.int t.ways.2) (putF "broken" (.int t.ways.1) (putF "gaps" (.ref gp) (putF "inner" (.ref inn) (putF "own" (.ref ow) (putF "kind" (.str t.kind) []))))))))) p = some (.ins T.C_Node dx (putF "most" (.int mo) (putF "size" (.int sz) (putF "flat" (.int t.ways.2) (putF "broken" (.int t.ways.1) (putF "gaps" (.ref gp) (putF "inner" (.ref inn) (putF "own" (.ref ow) (putF "kind" (.str t.kind) []))))))))) := upd_same
    have g7 := seqT_upd (o := .ins T.C_Node dx (putF "most" (.int mo) (putF "size" (.int sz) (putF "flat" (.int t.ways.2) (putF "broken" (.int t.ways.1) (putF "gaps" (.ref gp) (putF "inner" (.ref inn) (putF "own" (.ref ow) (putF "kind" (.str t.kind) []))))))))) k6 g6
    generalize upd H' p _ = H7 at r7 k7 g7 ⊢
    have f7 : Fix T.C_Node T.C_Doc H H7 := .but hp r7
    refine ⟨_, rfl, _, rfl, p, T.C_Node, dx, _, _, rfl, k7, T.cls_Node, T.na_Node_flat, rfl, _, rfl, t, inn, ps, gss, rfl, f7.seqT hi, Kids.fix f7 hk, fun H8 s8 => ?_⟩
    refine ⟨_, rfl, p, T.C_Node, dx, _, rfl, s8 _ _ k7, T.cls_Node, T.na_Node_settled, (by show 8 < 1000; decide), ?_⟩
    have r9 := R0 (o := .ins T.C_Node dx (putF "settled" (.bl (stl t)) (putF "most" (.int mo) (putF "size" (.int sz) (putF "flat" (.int t.ways.2) (putF "broken" (.int t.ways.1) (putF "gaps" (.ref gp) (putF "inner" (.ref inn) (putF "own" (.ref ow) (putF "kind" (.str t.kind) [])))))))))) (fun b w e n => s8 b w (r7 b w e n))
    have f9 : Fix T.C_Node T.C_Doc H _ := .but hp r9
    exact hq gs _ r9 (.mk upd_same (Dp.fix f9 ho (own_noL t)) (f9.seqT hi) (seqT_upd (s8 _ _ k7) (Same.seqT s8 g7)) (Kids.fix f9 hk)) hgs
end
end K33

namespace K33
open PySem PySem.Spec PyProof.Rows L2 Vk
def spDocI (CD : Addr) : Sp := fun vs H Q _ => ∃ (a p dx : Addr), vs = [.ref a, .ref p] ∧ H a = some (.ins CD dx []) ∧ Q .non (upd H a (.ins CD dx [("node", .ref p)]))
/-- a document: its object, its node, what it is, its holes' names -/
structure DocIs (K : PySem.W.Frag) (CN CD : Addr) (H : Hp) (a : Addr) (t : Nd) (gs : List Str) : Prop where
  ex : ∃ p, DocAt CD H a p ∧ NodeAt K CN H p t gs
def Fit (t : Nd) (gs : List Str) : Prop := t.ways.1 ≤ 2 ^ 40 ∧ namesOk gs
def spTwo (K : PySem.W.Frag) (CN CD : Addr) (f : Nd → Nd → Nd) : Sp := fun vs H Q _ => ∃ (a b : Addr) (s t : Nd) (gs hs : List Str), vs = [.ref a, .ref b] ∧ DocIs K CN CD H a s gs ∧ DocIs K CN CD H b t hs ∧ Fit s gs ∧ Fit t hs ∧
  ∀ (c : Addr) (out : List Str) (H' : Hp), Same H H' → DocIs K CN CD H' c (f s t) out → GS [] [gs, hs] out → Q (.ref c) H'
def spOne (K : PySem.W.Frag) (CN CD : Addr) (f : Nd → Nd) : Sp := fun vs H Q _ => ∃ (a : Addr) (s : Nd) (gs : List Str), vs = [.ref a] ∧ DocIs K CN CD H a s gs ∧ Fit s gs ∧
  ∀ (c : Addr) (out : List Str) (H' : Hp), Same H H' → DocIs K CN CD H' c (f s) out → GS [] [gs] out → Q (.ref c) H'
section
variable {K : PySem.W.Frag} {CN CD : Addr} {H H' : Hp}
theorem DocIs.fix {a : Addr} {t : Nd} {gs : List Str} (e : Fix CN CD H H') (h : DocIs K CN CD H a t gs) : DocIs K CN CD H' a t gs := let ⟨⟨p, h1, h2⟩⟩ := h; ⟨⟨p, h1.fix e, h2.fix e⟩⟩
theorem made_same {x dx C : Addr} (hx : H x = none) (hd : H dx = none) (ne : dx ≠ x) : Same H (upd (upd H dx (.own x)) x (.ins C dx [])) := fun b o e => by
  rw [upd_ne (ne_of_none e hx), upd_ne (ne_of_none e hd)]
  exact e
theorem node_fin {x dx ow inn : Addr} {t : Nd} {ps : List Addr} {gss : List (List Str)} {R : Addr → Hp → Prop} {E : XK} (hx : H x = none) (hd : H dx = none) (ne : dx ≠ x) (ho : Dp K H (.ref ow) (.tuple t.ownD)) (hi : SqT K H inn (ps.map V.ref)) (hk : Kids K CN H ps t.kids gss)
    (hl : ∀ q ∈ t.kids, q.ways.1 ≤ 2 ^ 40) (hg : ∀ g ∈ gss, namesOk g) (q : ∀ out H', Same H H' → NodeAt K CN H' x t out → gsOf t gss out → R x H') :
    spNode K CN [.ref x, .str t.kind, .ref ow, .ref inn] (upd (upd H dx (.own x)) x (.ins CN dx [])) (fun v H2 => v = .non ∧ R x H2) E := by
  have s := made_same (C := CN) hx hd ne
  have f : Fix CN CN H _ := .of s
  exact ⟨t, x, dx, ow, inn, ps, gss, rfl, upd_same, Dp.fix f ho (own_noL t), f.seqT hi, Kids.fix f hk, hl, hg, fun out H' r n g => ⟨rfl, q out H' (fun b o e => r b o (s b o e) (ne_of_none e hx)) n g⟩⟩
theorem doc_fin {x dx p : Addr} {R : Addr → Hp → Prop} {E : XK} (hx : H x = none) (hd : H dx = none) (ne : dx ≠ x) (q : ∀ H', Same H H' → DocAt CD H' x p → R x H') :
    spDocI CD [.ref x, .ref p] (upd (upd H dx (.own x)) x (.ins CD dx [])) (fun v H2 => v = .non ∧ R x H2) E :=
  ⟨x, p, dx, rfl, upd_same, rfl, q _ (fun b o e => by
    rw [upd_ne (ne_of_none e hx)]
    exact made_same (C := CD) hx hd ne b o e) ⟨dx, upd_same⟩⟩
/-- Doc(Node(kind, own, inner)) -/
theorem made2 {ow inn : Addr} {t : Nd} {ps : List Addr} {gss : List (List Str)} {Q : VK} {E E' : XK} (ho : Dp K H (.ref ow) (.tuple t.ownD)) (hi : SqT K H inn (ps.map V.ref)) (hk : Kids K CN H ps t.kids gss)
    (hl : ∀ q ∈ t.kids, q.ways.1 ≤ 2 ^ 40) (hg : ∀ g ∈ gss, namesOk g) (q : ∀ y out H', Same H H' → DocIs K CN CD H' y t out → gsOf t gss out → Q (.ref y) H') :
    ∀ x dx, H x = none → H dx = none → dx ≠ x → spNode K CN [.ref x, .str t.kind, .ref ow, .ref inn] (upd (upd H dx (.own x)) x (.ins CN dx [])) (fun v H2 => v = .non ∧ ∀ y dy, H2 y = none → H2 dy = none → dy ≠ y →
      spDocI CD [.ref y, .ref x] (upd (upd H2 dy (.own y)) y (.ins CD dy [])) (fun v H3 => v = .non ∧ Q (.ref y) H3) E') E := fun x dx hx hd ne =>
  node_fin (R := fun x H2 => ∀ y dy, H2 y = none → H2 dy = none → dy ≠ y → spDocI CD [.ref y, .ref x] (upd (upd H2 dy (.own y)) y (.ins CD dy [])) (fun v H3 => v = .non ∧ Q (.ref y) H3) E') hx hd ne ho hi hk hl hg fun out H3 s3 n3 g3 y dy hy hdy ney =>
    doc_fin (R := fun y H3 => Q (.ref y) H3) hy hdy ney fun H4 s4 d4 => q y out H4 (s3.trans s4) ⟨⟨x, d4, n3.fix (CD := CD) (.of s4)⟩⟩ g3
theorem dp_nil {p : Addr} (h : SqT K H p []) : Dp K H (.ref p) (.tuple []) := .tup h .nil
end
section
variable {P : Program} {w : World} {K : PySem.W.Frag} {mg : Str → Option Value} {base : Heap} {k : Nat}
theorem ok_docI (T : Tx K mg) : FnOk P w K mg base CX0 (k + 1) T.a_Doc_init T.d_Doc_init P_Doc_init (spDocI T.C_Doc) := by
  refine T.F_Doc_init.ok sc_Doc_init (fun vs H Q E h => ?_) (fun cdv A outer s H vs Q E hr h => ?_)
  · obtain ⟨a, p, dx, rfl, _⟩ := h
    rfl
  obtain ⟨a, p, dx, rfl, ha, hq⟩ := h
  refine ⟨_, (pss_one (ps_fld (pv 0) (pv 1) rfl)), ?_⟩
  exact ⟨_, rfl, _, rfl, a, T.C_Doc, dx, _, rfl, ha, T.cls_Doc, T.na_Doc_node, (by show 0 < 1000; decide), hq⟩
theorem ok_add (T : Tx K mg) (G_Doc_init : FnOk P w K mg base CX0 k T.a_Doc_init T.d_Doc_init P_Doc_init (spDocI T.C_Doc)) (G_Node_init : FnOk P w K mg base CX0 k T.a_Node_init T.d_Node_init P_Node_init (spNode K T.C_Node)) :
    FnOk P w K mg base CX0 (k + 2) T.a_Doc_add T.d_Doc_add P_Doc_add (spTwo K T.C_Node T.C_Doc .jn) := by
  refine T.F_Doc_add.ok sc_Doc_add (fun vs H Q E h => ?_) (fun cdv A outer s H vs Q E hr h => ?_)
  · obtain ⟨a, b, s, t, gs, hs, rfl, _⟩ := h
    rfl
  obtain ⟨a, b, s, t, gs, hs, rfl, ⟨⟨p, ⟨da, ha⟩, np⟩⟩, ⟨⟨q, ⟨db, hb⟩, nq⟩⟩, fs, ft, hq⟩ := h
  have hr1 := hr.mono (Nat.le_succ k)
  refine ⟨_, (pss_cons (ps_if (pt_not (pt_val (pe_callB call_isi rfl T.z_isinstance (by decide +kernel) (pa_cons (pv 1) (pa_cons (pe_glob (v := .ref T.C_Doc) rfl T.mc_Doc rfl) pa_nil)))))
(pss_one ps_dead)
pss_nil)
(pss_one (ps_ret (pe_make T.mk_Doc G_Doc_init hr rfl T.mc_Doc T.b_Doc_init .nil pass0 (pa_cons (pe_make T.mk_Node G_Node_init hr rfl T.mc_Node T.b_Node_init .nil pass0 (pa_cons pe_str (pa_cons (pe_tup pa_nil) (pa_cons (pe_tup (pa_cons (pe_fld (pv 0) rfl) (pa_cons (pe_fld (pv 1) rfl) pa_nil))) pa_nil)))) pa_nil))))), ?_⟩
  refine ⟨_, rfl, _, _, _, _, _, rfl, .own _, T.ty_Doc hb, kit_self, _, rfl, ?_⟩
  refine iteF ?_
  refine ⟨(by show 0 ≤ sizeLine; decide), fun e0 he0 => ?_⟩
  have s1 := same_new (o := .tup []) he0
  refine ⟨_, rfl, a, T.C_Doc, da, _, _, rfl, s1 _ _ ha, T.cls_Doc, T.na_Doc_node, rfl, _, rfl, b, T.C_Doc, db, _, _, rfl, s1 _ _ hb, T.cls_Doc, T.na_Doc_node, rfl, (by show 2 ≤ sizeLine; decide), fun e1 he1 => ?_⟩
  have s2 := s1.trans (same_new (o := .tup [.ref p, .ref q]) he1)
  have f2 : Fix T.C_Node T.C_Doc H _ := .of s2
  refine made2 (t := .jn s t) (ps := [p, q]) (gss := [gs, hs]) (dp_nil (Same.seqT (same_new he1) (.of upd_same))) (.of upd_same) (.cons (np.fix f2) (.cons (nq.fix f2) .nil)) ?_ ?_ fun y out H4 s4 d4 g4 => hq y out H4 (s2.trans s4) d4 g4
  · intro q hq
    rcases List.mem_cons.mp hq with rfl | hq
    · exact fs.1
    · rw [List.mem_singleton.mp hq]
      exact ft.1
  · intro q hq
    rcases List.mem_cons.mp hq with rfl | hq
    · exact fs.2
    · rw [List.mem_singleton.mp hq]
      exact ft.2
theorem ok_group (T : Tx K mg) (G_Doc_init : FnOk P w K mg base CX0 k T.a_Doc_init T.d_Doc_init P_Doc_init (spDocI T.C_Doc)) (G_Node_init : FnOk P w K mg base CX0 k T.a_Node_init T.d_Node_init P_Node_init (spNode K T.C_Node)) :
    FnOk P w K mg base CX0 (k + 2) T.a_Doc_group T.d_Doc_group P_Doc_group (spOne K T.C_Node T.C_Doc .gr) := by
  refine T.F_Doc_group.ok sc_Doc_group (fun vs H Q E h => ?_) (fun cdv A outer s H vs Q E hr h => ?_)
  · obtain ⟨a, s, gs, rfl, _⟩ := h
    rfl
  obtain ⟨a, s, gs, rfl, ⟨⟨p, ⟨da, ha⟩, np⟩⟩, fs, hq⟩ := h
  have hr1 := hr.mono (Nat.le_succ k)
  refine ⟨_, (pss_one (ps_ret (pe_make T.mk_Doc G_Doc_init hr rfl T.mc_Doc T.b_Doc_init .nil pass0 (pa_cons (pe_make T.mk_Node G_Node_init hr rfl T.mc_Node T.b_Node_init .nil pass0 (pa_cons pe_str (pa_cons (pe_tup pa_nil) (pa_cons (pe_tup (pa_cons (pe_fld (pv 0) rfl) pa_nil)) pa_nil)))) pa_nil)))), ?_⟩
  refine ⟨(by show 0 ≤ sizeLine; decide), fun e0 he0 => ?_⟩
  have s1 := same_new (o := .tup []) he0
  refine ⟨_, rfl, a, T.C_Doc, da, _, _, rfl, s1 _ _ ha, T.cls_Doc, T.na_Doc_node, rfl, (by show 1 ≤ sizeLine; decide), fun e1 he1 => ?_⟩
  have s2 := s1.trans (same_new (o := .tup [.ref p]) he1)
  have f2 : Fix T.C_Node T.C_Doc H _ := .of s2
  refine made2 (t := .gr s) (ps := [p]) (gss := [gs]) (dp_nil (Same.seqT (same_new he1) (.of upd_same))) (.of upd_same) (.cons (np.fix f2) .nil) ?_ ?_ fun y out H4 s4 d4 g4 => hq y out H4 (s2.trans s4) d4 g4
  · intro q hq
    rw [List.mem_singleton.mp hq]
    exact fs.1
  · intro q hq
    rw [List.mem_singleton.mp hq]
    exact fs.2
def spSteps : Sp := fun vs H Q _ => ∃ i : Int, vs = [.int i] ∧ 0 ≤ i ∧ i ≤ 40 ∧ Q (.bl true) H
theorem ok_steps (T : Tx K mg) (G_is_whole : FnOk P w K mg base CX0 k T.a_is_whole T.d_is_whole P_is_whole (spWhole K)) : FnOk P w K mg base CX0 (k + 1) T.a_is_steps T.d_is_steps P_is_steps spSteps := by
  refine T.F_is_steps.ok sc_is_steps (fun vs H Q E h => ?_) (fun cdv A outer s H vs Q E hr h => ?_)
  · obtain ⟨i, rfl, _⟩ := h
    rfl
  obtain ⟨i, rfl, i0, i1, hq⟩ := h
  refine ⟨_, (pss_one (ps_ret (pe_and (pe_call G_is_whole hr rfl T.m_is_whole T.F_is_whole.kp T.b_is_whole .nil pass0 (pa_cons (pv 0) pa_nil)) (pe_one (pe_cmpR op_le (pv 0) (pe_glob (v := .int 40) rfl T.c_MOST_STEPS T.r_MOST_STEPS) (nomark _)))))), ?_⟩
  refine ⟨_, rfl, _, .int i, rfl, .int i, _, rfl, ?_⟩
  rw [show wholeD (.int i) = true from decide_eq_true i0]
  refine iteT ⟨_, rfl, _, _, rfl, rfl, ?_⟩
  have hq' : Q (.bl (decide (i ≤ 40))) H := by
    rw [decide_eq_true i1]
    exact hq
  exact hq'
def spNest (K : PySem.W.Frag) (CN CD : Addr) : Sp := fun vs H Q _ => ∃ (a : Addr) (i : Int) (s : Nd) (gs : List Str), vs = [.ref a, .int i] ∧ 0 ≤ i ∧ i ≤ 40 ∧ DocIs K CN CD H a s gs ∧ Fit s gs ∧
  ∀ (c : Addr) (out : List Str) (H' : Hp), Same H H' → DocIs K CN CD H' c (.ne i s) out → GS [] [gs] out → Q (.ref c) H'
theorem ok_nested (T : Tx K mg) (G_is_steps : FnOk P w K mg base CX0 k T.a_is_steps T.d_is_steps P_is_steps spSteps) (G_Doc_init : FnOk P w K mg base CX0 k T.a_Doc_init T.d_Doc_init P_Doc_init (spDocI T.C_Doc)) (G_Node_init : FnOk P w K mg base CX0 k T.a_Node_init T.d_Node_init P_Node_init (spNode K T.C_Node)) :
    FnOk P w K mg base CX0 (k + 2) T.a_Doc_nested T.d_Doc_nested P_Doc_nested (spNest K T.C_Node T.C_Doc) := by
  refine T.F_Doc_nested.ok sc_Doc_nested (fun vs H Q E h => ?_) (fun cdv A outer s H vs Q E hr h => ?_)
  · obtain ⟨a, i, s, gs, rfl, _⟩ := h
    rfl
  obtain ⟨a, i, s, gs, rfl, i0, i1, ⟨⟨p, ⟨da, ha⟩, np⟩⟩, fs, hq⟩ := h
  have hr1 := hr.mono (Nat.le_succ k)
  refine ⟨_, (pss_cons (ps_if (pt_not (pt_val (pe_call G_is_steps hr1 rfl T.m_is_steps T.F_is_steps.kp T.b_is_steps .nil pass0 (pa_cons (pv 1) pa_nil))))
(pss_one ps_dead)
pss_nil)
(pss_one (ps_ret (pe_make T.mk_Doc G_Doc_init hr rfl T.mc_Doc T.b_Doc_init .nil pass0 (pa_cons (pe_make T.mk_Node G_Node_init hr rfl T.mc_Node T.b_Node_init .nil pass0 (pa_cons pe_str (pa_cons (pe_tup (pa_cons (pv 1) pa_nil)) (pa_cons (pe_tup (pa_cons (pe_fld (pv 0) rfl) pa_nil)) pa_nil)))) pa_nil))))), ?_⟩
  refine ⟨_, rfl, i, rfl, i0, i1, _, rfl, iteF ?_⟩
  refine ⟨_, rfl, (by show 1 ≤ sizeLine; decide), fun e0 he0 => ?_⟩
  have s1 := same_new (o := .tup [.int i]) he0
  refine ⟨_, rfl, a, T.C_Doc, da, _, _, rfl, s1 _ _ ha, T.cls_Doc, T.na_Doc_node, rfl, (by show 1 ≤ sizeLine; decide), fun e1 he1 => ?_⟩
  have s2 := s1.trans (same_new (o := .tup [.ref p]) he1)
  have f2 : Fix T.C_Node T.C_Doc H _ := .of s2
  refine made2 (t := .ne i s) (ps := [p]) (gss := [gs]) (.tup (Same.seqT (same_new he1) (.of upd_same)) (.cons (.int i) .nil)) (.of upd_same) (.cons (np.fix f2) .nil) ?_ ?_ fun y out H4 s4 d4 g4 => hq y out H4 (s2.trans s4) d4 g4
  · intro q hq
    rw [List.mem_singleton.mp hq]
    exact fs.1
  · intro q hq
    rw [List.mem_singleton.mp hq]
    exact fs.2
/-- text(z), line(z or None), hole(z) -/
def spLeaf (K : PySem.W.Frag) (CN CD : Addr) (f : V → Nd → Prop) : Sp := fun vs H Q _ => ∃ (v : V) (t : Nd), vs = [v] ∧ f v t ∧
  ∀ (c : Addr) (out : List Str) (H' : Hp), Same H H' → DocIs K CN CD H' c t out → gsOf t [] out → Q (.ref c) H'
def isTxt (v : V) (t : Nd) : Prop := ∃ z : Str, v = .str z ∧ t = .txt z ∧ plainD (.str z) = true ∧ z.length ≤ 1000
def isBrk (v : V) (t : Nd) : Prop := (v = .non ∧ t = .brk none) ∨ ∃ z : Str, v = .str z ∧ t = .brk (some z) ∧ plainD (.str z) = true ∧ z.length ≤ 1000
def isHol (v : V) (t : Nd) : Prop := ∃ z : Str, v = .str z ∧ t = .hol z ∧ 1 ≤ z.length ∧ z.length ≤ 8 ∧ ∀ c ∈ z.cps.toList, 97 ≤ c ∧ c ≤ 122
theorem ok_text (T : Tx K mg) (G_is_plain : FnOk P w K mg base CX0 k T.a_is_plain T.d_is_plain P_is_plain (spPlain K)) (G_Doc_init : FnOk P w K mg base CX0 k T.a_Doc_init T.d_Doc_init P_Doc_init (spDocI T.C_Doc)) (G_Node_init : FnOk P w K mg base CX0 k T.a_Node_init T.d_Node_init P_Node_init (spNode K T.C_Node)) :
    FnOk P w K mg base CX0 (k + 2) T.a_text T.d_text P_text (spLeaf K T.C_Node T.C_Doc isTxt) := by
  refine T.F_text.ok sc_text (fun vs H Q E h => ?_) (fun cdv A outer s H vs Q E hr h => ?_)
  · obtain ⟨v, t, rfl, _⟩ := h
    rfl
  obtain ⟨v, t, rfl, ⟨z, rfl, rfl, hz, lz⟩, hq⟩ := h
  have hr1 := hr.mono (Nat.le_succ k)
  refine ⟨_, (pss_cons (ps_if (pt_not (pt_val (pe_call G_is_plain hr1 rfl T.m_is_plain T.F_is_plain.kp T.b_is_plain .nil pass0 (pa_cons (pv 0) pa_nil))))
(pss_one ps_dead)
pss_nil)
(pss_one (ps_ret (pe_make T.mk_Doc G_Doc_init hr rfl T.mc_Doc T.b_Doc_init .nil pass0 (pa_cons (pe_make T.mk_Node G_Node_init hr rfl T.mc_Node T.b_Node_init .nil pass0 (pa_cons pe_str (pa_cons (pe_tup (pa_cons (pv 0) pa_nil)) (pa_cons (pe_tup pa_nil) pa_nil)))) pa_nil))))), ?_⟩
  refine ⟨_, rfl, _, .str z, rfl, .str z, Nat.le_trans (show PyData.weight (.str z) ≤ 1000 from lz) (by decide), fun H1 s1 => ?_⟩
  rw [hz]
  refine ⟨_, rfl, iteF ?_⟩
  refine ⟨_, rfl, (by show 1 ≤ sizeLine; decide), fun e0 he0 => ?_⟩
  have s2 := s1.trans (same_new (o := .tup [.str z]) he0)
  refine ⟨(by show 0 ≤ sizeLine; decide), fun e1 he1 => ?_⟩
  have s3 := s2.trans (same_new (o := .tup []) he1)
  exact made2 (t := .txt z) (ps := []) (gss := []) (.tup (Same.seqT (same_new he1) (.of upd_same)) (.cons (.str z) .nil)) (.of upd_same) .nil (by intro q hq; cases hq) (by intro q hq; cases hq) fun y out H4 s4 d4 g4 => hq y out H4 (s3.trans s4) d4 g4
theorem ok_line (T : Tx K mg) (G_is_plain : FnOk P w K mg base CX0 k T.a_is_plain T.d_is_plain P_is_plain (spPlain K)) (G_Doc_init : FnOk P w K mg base CX0 k T.a_Doc_init T.d_Doc_init P_Doc_init (spDocI T.C_Doc)) (G_Node_init : FnOk P w K mg base CX0 k T.a_Node_init T.d_Node_init P_Node_init (spNode K T.C_Node)) :
    FnOk P w K mg base CX0 (k + 2) T.a_line T.d_line P_line (spLeaf K T.C_Node T.C_Doc isBrk) := by
  refine T.F_line.ok sc_line (fun vs H Q E h => ?_) (fun cdv A outer s H vs Q E hr h => ?_)
  · obtain ⟨v, t, rfl, _⟩ := h
    rfl
  obtain ⟨v, t, rfl, hv, hq⟩ := h
  have hr1 := hr.mono (Nat.le_succ k)
  refine ⟨_, (pss_cons (ps_if (PW.pt (pw_and (pt_cmpR op_notN (pv 0) pe_non (nomark _)) (pw_and1 (pt_not (pt_val (pe_call G_is_plain hr1 rfl T.m_is_plain T.F_is_plain.kp T.b_is_plain .nil pass0 (pa_cons (pv 0) pa_nil)))))))
(pss_one ps_dead)
pss_nil)
(pss_one (ps_ret (pe_make T.mk_Doc G_Doc_init hr rfl T.mc_Doc T.b_Doc_init .nil pass0 (pa_cons (pe_make T.mk_Node G_Node_init hr rfl T.mc_Node T.b_Node_init .nil pass0 (pa_cons pe_str (pa_cons (pe_tup (pa_cons (pv 0) pa_nil)) (pa_cons (pe_tup pa_nil) pa_nil)))) pa_nil))))), ?_⟩
  rcases hv with ⟨rfl, rfl⟩ | ⟨z, rfl, rfl, hz, lz⟩
  · refine ⟨_, rfl, rfl, _, rfl, iteF (iteF ?_)⟩
    refine ⟨_, rfl, (by show 1 ≤ sizeLine; decide), fun e0 he0 => ?_⟩
    have s2 := same_new (o := .tup [.non]) he0
    refine ⟨(by show 0 ≤ sizeLine; decide), fun e1 he1 => ?_⟩
    have s3 := s2.trans (same_new (o := .tup []) he1)
    exact made2 (t := .brk none) (ps := []) (gss := []) (.tup (Same.seqT (same_new he1) (.of upd_same)) (.cons .non .nil)) (.of upd_same) .nil (by intro q hq; cases hq) (by intro q hq; cases hq) fun y out H4 s4 d4 g4 => hq y out H4 (s3.trans s4) d4 g4
  · refine ⟨_, rfl, rfl, _, rfl, iteT ?_⟩
    refine ⟨_, rfl, _, .str z, rfl, .str z, Nat.le_trans (show PyData.weight (.str z) ≤ 1000 from lz) (by decide), fun H1 s1 => ?_⟩
    rw [hz]
    refine ⟨_, rfl, iteF ?_⟩
    refine ⟨_, rfl, (by show 1 ≤ sizeLine; decide), fun e0 he0 => ?_⟩
    have s2 := s1.trans (same_new (o := .tup [.str z]) he0)
    refine ⟨(by show 0 ≤ sizeLine; decide), fun e1 he1 => ?_⟩
    have s3 := s2.trans (same_new (o := .tup []) he1)
    exact made2 (t := .brk (some z)) (ps := []) (gss := []) (.tup (Same.seqT (same_new he1) (.of upd_same)) (.cons (.str z) .nil)) (.of upd_same) .nil (by intro q hq; cases hq) (by intro q hq; cases hq) fun y out H4 s4 d4 g4 => hq y out H4 (s3.trans s4) d4 g4
end
end K33

namespace K33
open PySem PySem.Spec PyProof.Rows L2 Vk
theorem a_cps : ("a" : Str).cps.toList = [97] := by decide +kernel
theorem z_cps : ("z" : Str).cps.toList = [122] := by decide +kernel
def spName : Sp := fun vs H Q _ => ∃ z : Str, vs = [.str z] ∧ 1 ≤ z.length ∧ z.length ≤ 8 ∧ (∀ c ∈ z.cps.toList, 97 ≤ c ∧ c ≤ 122) ∧ ∀ H', Same H H' → Q (.bl true) H'
def spGet (K : PySem.W.Frag) (CN CD : Addr) (f : Nd → List Str → V → Hp → Prop) : Sp := fun vs H Q _ => ∃ (a : Addr) (t : Nd) (gs : List Str), vs = [.ref a] ∧ DocIs K CN CD H a t gs ∧ ∀ v, f t gs v H → Q v H
theorem iteS {c : Bool} {A B : Prop} (h : c = true) (a : A) : if c = true then A else B := by rw [if_pos h]; exact a
theorem iteN {c : Bool} {A B : Prop} (h : c = true) (b : B) : if (!c) = true then A else B := by rw [if_neg (by rw [h]; decide)]; exact b
section
variable {P : Program} {w : World} {K : PySem.W.Frag} {mg : Str → Option Value} {base : Heap} {k : Nat}
def isHoles (K : PySem.W.Frag) (_ : Nd) (gs : List Str) (v : V) (H : Hp) : Prop := ∃ g : Addr, v = .ref g ∧ SqT K H g (gs.map V.str)
def isWays (t : Nd) (_ : List Str) (v : V) (_ : Hp) : Prop := v = .int t.ways.1
theorem ok_holes (T : Tx K mg) : FnOk P w K mg base CX0 (k + 1) T.a_Doc_holes T.d_Doc_holes P_Doc_holes (spGet K T.C_Node T.C_Doc (isHoles K)) := by
  refine T.F_Doc_holes.ok sc_Doc_holes (fun vs H Q E h => ?_) (fun cdv A outer s H vs Q E hr h => ?_)
  · obtain ⟨a, t, gs, rfl, _⟩ := h
    rfl
  obtain ⟨a, t, gs, rfl, ⟨⟨p, ⟨da, ha⟩, np⟩⟩, hq⟩ := h
  refine ⟨_, (pss_one (ps_ret (pe_fld (pe_fld (pv 0) rfl) rfl))), ?_⟩
  cases np with
  | mk n1 n2 n3 n4 n5 => exact ⟨_, rfl, a, T.C_Doc, da, _, _, rfl, ha, T.cls_Doc, T.na_Doc_node, rfl, p, T.C_Node, _, _, _, rfl, n1, T.cls_Node, T.na_Node_gaps, rfl, hq _ ⟨_, rfl, n4⟩⟩
theorem ok_ways (T : Tx K mg) : FnOk P w K mg base CX0 (k + 1) T.a_Doc_ways T.d_Doc_ways P_Doc_ways (spGet K T.C_Node T.C_Doc isWays) := by
  refine T.F_Doc_ways.ok sc_Doc_ways (fun vs H Q E h => ?_) (fun cdv A outer s H vs Q E hr h => ?_)
  · obtain ⟨a, t, gs, rfl, _⟩ := h
    rfl
  obtain ⟨a, t, gs, rfl, ⟨⟨p, ⟨da, ha⟩, np⟩⟩, hq⟩ := h
  refine ⟨_, (pss_one (ps_ret (pe_fld (pe_fld (pv 0) rfl) rfl))), ?_⟩
  cases np with
  | mk n1 n2 n3 n4 n5 => exact ⟨_, rfl, a, T.C_Doc, da, _, _, rfl, ha, T.cls_Doc, T.na_Doc_node, rfl, p, T.C_Node, _, _, _, rfl, n1, T.cls_Node, T.na_Node_broken, rfl, hq _ rfl⟩
end
end K33

namespace K33
open PySem PySem.Spec PyProof.Rows L2 Vk
/-! ### states -/
abbrev Row := Int × Str
def rowD (r : Row) : PyData := .tuple [.int r.1, .str r.2]
def pgD (p : List Row) : PyData := .tuple (p.map rowD)
def stD (e l : Int) (fs : List (List Row)) (rs : List Row) (o : Int) (z : Str) : PyData := .tuple [.int e, .int l, .tuple (fs.map pgD), .tuple (rs.map rowD), .int o, .str z]
/-- sizes and strings of a state -/
structure Fin4 (B : Nat) (fs : List (List Row)) (rs : List Row) (z : Str) : Prop where
  sz : z.length + rs.length + fs.flatten.length ≤ B
  ne : ∀ p ∈ fs, p ≠ []
  zk : PyData.strOk z = true
  rk : ∀ r ∈ fs.flatten ++ rs, PyData.strOk r.2 = true
def StV (K : PySem.W.Frag) (H : Hp) (v : V) (B : Nat) : Prop := ∃ (e l : Int) (fs : List (List Row)) (rs : List Row) (o : Int) (z : Str), Dp K H v (stD e l fs rs o z) ∧ Fin4 B fs rs z
theorem flat_len : ∀ {fs : List (List Row)}, (∀ p ∈ fs, p ≠ []) → fs.length ≤ fs.flatten.length
  | [], _ => Nat.le_refl _
  | p :: fs, h => by
    have h1 := h p (List.mem_cons_self ..)
    have h2 := flat_len (fs := fs) fun q hq => h q (List.mem_cons_of_mem _ hq)
    have h3 := List.length_pos_iff.mpr h1
    rw [List.flatten_cons, List.length_append, List.length_cons]
    omega
/-- the pairs of a dict of states: columns from 0 to W, each once -/
structure Sts (K : PySem.W.Frag) (H : Hp) (kvs : List (Key × V)) (B : Nat) (W : Int) : Prop where
  ks : ∃ cs : List Int, kvs.map (·.1) = cs.map Sum.inl ∧ cs.Nodup ∧ ∀ c ∈ cs, 0 ≤ c ∧ c ≤ W
  vs : ∀ p ∈ kvs, StV K H p.2 B
def StsAt (K : PySem.W.Frag) (H : Hp) (d : Addr) (B : Nat) (W : Int) (c : Bool) : Prop := ∃ kvs, H d = some (.dK kvs) ∧ Sts K H kvs B W ∧ (!kvs.isEmpty) = c
def spPruned (K : PySem.W.Frag) : Sp := fun vs H Q _ => ∃ (d : Addr) (B : Nat) (W : Int) (c : Bool), vs = [.ref d] ∧ StsAt K H d B W c ∧ 0 ≤ W ∧ W ≤ 60 ∧ ∀ u H', Same H H' → StsAt K H' u B W c → Q (.ref u) H'
def spMerged (K : PySem.W.Frag) : Sp := fun vs H Q _ => ∃ (d1 d2 : Addr) (B : Nat) (W : Int) (c1 c2 : Bool), vs = [.ref d1, .ref d2] ∧ StsAt K H d1 B W c1 ∧ StsAt K H d2 B W c2 ∧ 0 ≤ W ∧ W ≤ 60 ∧ ∀ u H', Same H H' → StsAt K H' u B W (c1 || c2) → Q (.ref u) H'
def spBroken (K : PySem.W.Frag) : Sp := fun vs H Q _ => ∃ (d : Addr) (st L W : Int) (B : Nat), vs = [.ref d, .int st, .int L, .int W] ∧ StsAt K H d B W true ∧ 0 ≤ st ∧ 0 ≤ L ∧ 0 ≤ W ∧ W ≤ 60 ∧ B ≤ 1000000 ∧ ∀ u H', Same H H' → StsAt K H' u (B + 1) W true → Q (.ref u) H'
def spWritten (K : PySem.W.Frag) : Sp := fun vs H Q _ => ∃ (d : Addr) (z : Str) (W : Int) (B : Nat), vs = [.ref d, .str z, .int W] ∧ StsAt K H d B W true ∧ 0 ≤ W ∧ W ≤ 60 ∧ B + z.length ≤ 1000000 ∧ PyData.strOk z = true ∧ ∀ u H', Same H H' → StsAt K H' u (B + z.length) W true → Q (.ref u) H'
theorem seq_cut {A B : TS} {D : Ends} {σ : L2.St} {H : Hp} (R : L2.St → Hp → Prop) (h : ∀ σ' H', R σ' H' → B D σ' H') (g : (∀ σ' H', R σ' H' → B D σ' H') → A { D with nx := fun σ' H' => B D σ' H' } σ H) : tSeq A B D σ H := g h
theorem gn {i : Nat} {v : V} {σ : L2.St} {H : Hp} {X rb rc : L2.St → Hp → Prop} {rt : VK} (h : X (σ.set i (some v)) H) : gName i v σ H (Ends.nx { nx := X, rt := rt, bk := rb, ct := rc }) := h
theorem nxI {σ : L2.St} {H : Hp} {X rb rc : L2.St → Hp → Prop} {rt : VK} (h : X σ H) : Ends.nx { nx := X, rt := rt, bk := rb, ct := rc } σ H := h
theorem few_ints : ∀ (n : Nat) (cs : List Int), cs.Nodup → (∀ c ∈ cs, 0 ≤ c ∧ c < (n : Int)) → cs.length ≤ n
  | 0, cs, _, h => by
    cases cs with
    | nil => exact Nat.le_refl _
    | cons c r =>
      have := h c (List.mem_cons_self ..)
      omega
  | n + 1, cs, nd, h => by
    have ih := few_ints n (cs.erase (n : Int)) (nd.erase _) fun c hc => by
      have h1 := (nd.mem_erase_iff).mp hc
      have h2 := h c h1.2
      have h3 : c ≠ (n : Int) := h1.1
      omega
    have := List.length_erase (a := (n : Int)) (l := cs)
    split at this <;> omega
section
variable {K : PySem.W.Frag} {H H' : Hp} {kvs : List (Key × V)} {B : Nat} {W : Int}
theorem rows_alike : ∀ (xs ys : List Row), PySem.W.alikeAll (xs.map rowD) (ys.map rowD) = true
  | [], _ => by simp [PySem.W.alikeAll]
  | x :: xs, [] => by simp [PySem.W.alikeAll]
  | x :: xs, y :: ys => by
    simp only [List.map_cons, PySem.W.alikeAll, rows_alike xs ys, Bool.and_true]
    rfl
theorem pages_alike : ∀ (xs ys : List (List Row)), PySem.W.alikeAll (xs.map pgD) (ys.map pgD) = true
  | [], _ => by simp [PySem.W.alikeAll]
  | x :: xs, [] => by simp [PySem.W.alikeAll]
  | x :: xs, y :: ys => by
    simp only [List.map_cons, PySem.W.alikeAll, pages_alike xs ys, Bool.and_true]
    unfold pgD
    simp only [PySem.W.alike]
    exact rows_alike x y
/-- no tuple stands there -/
def NT (H : Hp) (p : Addr) : Prop := (∀ xs, H p ≠ some (.tup xs)) ∧ ∀ u xs, H p ≠ some (.frz u (.tup xs))
theorem NT.dK {p : Addr} {k : List (Key × V)} (h : H p = some (.dK k)) : NT H p := ⟨fun _ z => (by rw [h] at z; cases z), fun _ _ z => (by rw [h] at z; cases z)⟩
theorem NT.fz {p : Addr} {u : Obj} {k : List (Key × V)} (h : H p = some (.frz u (.dK k))) : NT H p := ⟨fun _ z => (by rw [h] at z; cases z), fun _ _ z => (by rw [h] at z; cases z)⟩
theorem NT.lst {p : Addr} {k : List V} (h : H p = some (.lst k)) : NT H p := ⟨fun _ z => (by rw [h] at z; cases z), fun _ _ z => (by rw [h] at z; cases z)⟩
theorem NT.ins {p C dx : Addr} {k : List (Str × V)} (h : H p = some (.ins C dx k)) : NT H p := ⟨fun _ z => (by rw [h] at z; cases z), fun _ _ z => (by rw [h] at z; cases z)⟩
theorem NT.new {p : Addr} (h : H p = none) : NT H p := ⟨fun _ z => (by rw [h] at z; cases z), fun _ _ z => (by rw [h] at z; cases z)⟩
theorem seqT_updD {p a : Addr} {xs : List V} {o : HO} (h : NT H p) (q : SqT K H a xs) : SqT K (upd H p o) a xs := by
  rcases q with (q | ⟨u, q⟩) | q
  · exact .inl (.inl (by rw [upd_ne (fun (z : a = p) => h.1 xs (by rw [← z]; exact q))]; exact q))
  · exact .inl (.inr ⟨u, by rw [upd_ne (fun (z : a = p) => h.2 u xs (by rw [← z]; exact q))]; exact q⟩)
  · exact .inr q
theorem unlock {d D : Addr} {u o : HO} {od : Obj} (h : H d = some u) (ne : D ≠ d) : upd (upd (upd H d (.frz od u)) D o) d u = upd H D o := by
  funext b
  by_cases h1 : b = d
  · rw [h1, upd_same, upd_ne ne.symm, h]
  · rw [upd_ne h1]
    by_cases h2 : b = D
    · rw [h2, upd_same, upd_same]
    · rw [upd_ne h2, upd_ne h2, upd_ne h1]
theorem same_updD {p : Addr} {o : HO} {G : Hp} (h : G p = none) (s : Same G H) : Same G (upd H p o) := fun b u e => by
  rw [upd_ne (ne_of_none e h)]
  exact s b u e
theorem st_alike (e l : Int) (fs : List (List Row)) (rs : List Row) (o : Int) (z : Str) (e' l' : Int) (fs' : List (List Row)) (rs' : List Row) (o' : Int) (z' : Str) : PySem.W.alike (stD e l fs rs o z) (stD e' l' fs' rs' o' z') = true := by
  unfold stD
  simp only [PySem.W.alike, PySem.W.alikeAll, pages_alike fs fs', rows_alike rs rs', Bool.and_true, Bool.true_and]
theorem rows_depth : ∀ rs : List Row, PyData.depthAll (rs.map rowD) ≤ 1
  | [] => by decide
  | r :: rs => by
    have := rows_depth rs
    show max (PyData.depth (rowD r)) (PyData.depthAll (rs.map rowD)) ≤ 1
    have e : PyData.depth (rowD r) = 1 := rfl
    omega
theorem pages_depth : ∀ fs : List (List Row), PyData.depthAll (fs.map pgD) ≤ 2
  | [] => by decide
  | p :: fs => by
    have h1 := pages_depth fs
    have h2 := rows_depth p
    show max (PyData.depthAll (p.map rowD) + 1) (PyData.depthAll (fs.map pgD)) ≤ 2
    omega
theorem st_depth (e l : Int) (fs : List (List Row)) (rs : List Row) (o : Int) (z : Str) : (stD e l fs rs o z).depth ≤ 4 := by
  have h1 := rows_depth rs
  have h2 := pages_depth fs
  show max 0 (max 0 (max (PyData.depthAll (fs.map pgD) + 1) (max (PyData.depthAll (rs.map rowD) + 1) (max 0 (max 0 0))))) + 1 ≤ 4
  omega
theorem rows_lay : ∀ {rs : List Row}, (∀ r ∈ rs, PyData.strOk r.2 = true) → PyData.canLayAll0 (rs.map rowD) = true
  | [], _ => rfl
  | r :: rs, h => by
    have h1 := h r (List.mem_cons_self ..)
    have ih := rows_lay fun q hq => h q (List.mem_cons_of_mem _ hq)
    show (PyData.canLay0 (rowD r) && PyData.canLayAll0 (rs.map rowD)) = true
    rw [ih]
    show ((true && (PyData.strOk r.2 && true)) && true) = true
    rw [h1]
    rfl
theorem pages_lay : ∀ {fs : List (List Row)}, (∀ r ∈ fs.flatten, PyData.strOk r.2 = true) → PyData.canLayAll0 (fs.map pgD) = true
  | [], _ => rfl
  | p :: fs, h => by
    have h1 := rows_lay (rs := p) fun r hr => h r (by rw [List.flatten_cons]; exact List.mem_append_left _ hr)
    have ih := pages_lay (fs := fs) fun q hq => h q (by rw [List.flatten_cons]; exact List.mem_append_right _ hq)
    show (PyData.canLay0 (pgD p) && PyData.canLayAll0 (fs.map pgD)) = true
    rw [ih]
    show (PyData.canLayAll0 (p.map rowD) && true) = true
    rw [h1]
    rfl
theorem five_shaped {e l : Int} {fs : List (List Row)} {rs : List Row} {o : Int} (h : ∀ r ∈ fs.flatten ++ rs, PyData.strOk r.2 = true) : SeqAt.shaped (.tuple [.int e, .int l, .tuple (fs.map pgD), .tuple (rs.map rowD), .int o]) = true := by
  have h1 := rows_lay fun r hr => h r (List.mem_append_right _ hr)
  have h1' := pages_lay fun r hr => h r (List.mem_append_left _ hr)
  have h2 := rows_depth rs
  have h3 := pages_depth fs
  unfold SeqAt.shaped
  rw [Bool.and_eq_true]
  constructor
  · show (true && (true && (PyData.canLayAll0 (fs.map pgD) && (PyData.canLayAll0 (rs.map rowD) && (true && true))))) = true
    rw [h1, h1']
    rfl
  · refine decide_eq_true ?_
    show max 0 (max 0 (max (PyData.depthAll (fs.map pgD) + 1) (max (PyData.depthAll (rs.map rowD) + 1) (max 0 0)))) + 1 ≤ 64
    omega
theorem rows_noL : ∀ rs : List Row, noLs (rs.map rowD) = true
  | [] => rfl
  | r :: rs => by
    show (noL (rowD r) && noLs (rs.map rowD)) = true
    rw [rows_noL rs]
    rfl
theorem pages_noL : ∀ fs : List (List Row), noLs (fs.map pgD) = true
  | [] => rfl
  | p :: fs => by
    show (noLs (p.map rowD) && noLs (fs.map pgD)) = true
    rw [pages_noL fs, rows_noL p]
    rfl
theorem st_noL (e l : Int) (fs : List (List Row)) (rs : List Row) (o : Int) (z : Str) : noL (stD e l fs rs o z) = true := by
  show (true && (true && (noLs (fs.map pgD) && (noLs (rs.map rowD) && (true && (true && true)))))) = true
  rw [rows_noL, pages_noL]
  rfl
theorem st_at {v : V} {e l : Int} {fs : List (List Row)} {rs : List Row} {o : Int} {z : Str} (h : Dp K H v (stD e l fs rs o z)) : ∃ (a : Addr) (f r : V), v = .ref a ∧ SqT K H a [.int e, .int l, f, r, .int o, .str z] ∧ Dp K H f (.tuple (fs.map pgD)) ∧ Dp K H r (.tuple (rs.map rowD)) := by
  obtain ⟨a, xs, rfl, hs, hx⟩ := Dp.ofTup h
  cases hx with
  | cons h1 t1 =>
  cases t1 with
  | cons h2 t2 =>
  cases t2 with
  | cons h3 t3 =>
  cases t3 with
  | cons h4 t4 =>
  cases t4 with
  | cons h5 t5 =>
  cases t5 with
  | cons h6 t6 =>
  cases t6
  cases h1
  cases h2
  cases h5
  cases h6
  exact ⟨a, _, _, rfl, hs, h3, h4⟩
/-- x[:5] of a state -/
theorem st_five {v : V} {e l : Int} {fs : List (List Row)} {rs : List Row} {o : Int} {z : Str} {Q : VK} (h : Dp K H v (stD e l fs rs o z)) (q : ∀ p, H p = none → ∀ f r, Dp K (upd H p (.tup [.int e, .int l, f, r, .int o])) (.ref p) (.tuple [.int e, .int l, .tuple (fs.map pgD), .tuple (rs.map rowD), .int o]) → Q (.ref p) (upd H p (.tup [.int e, .int l, f, r, .int o]))) :
    rSlA K v none (some 5) H Q := by
  obtain ⟨a, f, r, rfl, hs, hf, hr⟩ := st_at h
  refine ⟨a, _, rfl, hs, fun y => absurd y.2 (by show ¬ (HT.sIx 6 6 (some ((5 : Nat) : Int)) = 6); rw [HT.sIx_nat]; decide), fun _ p hp => ?_⟩
  exact q p hp f r (.tup (.of upd_same) (.cons (.int e) (.cons (.int l) (.cons (Dp.same (same_new hp) hf) (.cons (Dp.same (same_new hp) hr) (.cons (.int o) .nil))))))
theorem StV.same {v : V} (s : Same H H') (h : StV K H v B) : StV K H' v B := let ⟨e, l, fs, rs, o, z, d, q⟩ := h; ⟨e, l, fs, rs, o, z, Dp.same s d, q⟩
theorem StV.le {v : V} {B' : Nat} (hb : B ≤ B') (h : StV K H v B) : StV K H v B' := let ⟨e, l, fs, rs, o, z, d, q⟩ := h; ⟨e, l, fs, rs, o, z, d, ⟨Nat.le_trans q.sz hb, q.ne, q.zk, q.rk⟩⟩
theorem Sts.same (s : Same H H') (h : Sts K H kvs B W) : Sts K H' kvs B W := ⟨h.ks, fun p hp => (h.vs p hp).same s⟩
theorem Sts.le {B' : Nat} (hb : B ≤ B') (h : Sts K H kvs B W) : Sts K H kvs B' W := ⟨h.ks, fun p hp => (h.vs p hp).le hb⟩
theorem Sts.len (h : Sts K H kvs B W) (w0 : 0 ≤ W) (w1 : W ≤ 60) : kvs.length ≤ 61 := by
  obtain ⟨cs, e, nd, hc⟩ := h.ks
  have l : kvs.length = cs.length := by simpa using congrArg List.length e
  have := few_ints (W.toNat + 1) cs nd fun c hm => by
    have := hc c hm
    omega
  omega
mutual
theorem Dp.updD {p : Addr} {o : HO} (hp : NT H p) : ∀ {v : V} {d : PyData}, Dp K H v d → noL d = true → Dp K (upd H p o) v d
  | _, _, .non, _ => .non
  | _, _, .bl b, _ => .bl b
  | _, _, .int i, _ => .int i
  | _, _, .str x, _ => .str x
  | _, _, .lst h a, z => by cases z
  | _, _, .tup h a, z => .tup (seqT_updD hp h) (DpAll.updD hp a z)
theorem DpAll.updD {p : Addr} {o : HO} (hp : NT H p) : ∀ {vs : List V} {ds : List PyData}, DpAll K H vs ds → noLs ds = true → DpAll K (upd H p o) vs ds
  | _, _, .nil, _ => .nil
  | _, _, .cons h t, z => by
    have z' : (noL _ && noLs _) = true := z
    rw [Bool.and_eq_true] at z'
    exact .cons (Dp.updD hp h z'.1) (DpAll.updD hp t z'.2)
end
theorem StV.updD {p : Addr} {o : HO} {v : V} (hp : NT H p) (h : StV K H v B) : StV K (upd H p o) v B := let ⟨e, l, fs, rs, a, z, d, q⟩ := h; ⟨e, l, fs, rs, a, z, Dp.updD hp d (st_noL ..), q⟩
theorem Sts.updD {p : Addr} {o : HO} (hp : NT H p) (h : Sts K H kvs B W) : Sts K (upd H p o) kvs B W := ⟨h.ks, fun q hq => (h.vs q hq).updD hp⟩
theorem Sts.nil : Sts K H [] B W := ⟨⟨[], rfl, List.nodup_nil, by simp⟩, by simp⟩
theorem put_any {kvs : List (Key × V)} {cs : List Int} {c : Int} (e : kvs.map (·.1) = cs.map Sum.inl) : (kvs.any fun kv => decide (kv.1 = Sum.inl c)) = decide (c ∈ cs) := by
  induction kvs generalizing cs with
  | nil =>
    cases cs with
    | nil => rfl
    | cons _ _ => cases e
  | cons p kvs ih =>
    cases cs with
    | nil => cases e
    | cons d cs =>
      have e1 : p.1 = Sum.inl d := (List.cons.inj e).1
      have e2 := ih (List.cons.inj e).2
      rw [List.any_cons, e2, e1]
      by_cases h1 : d = c
      · subst h1
        simp
      · have h2 : ¬ c = d := fun z => h1 z.symm
        simp [h1, h2]
theorem Sts.put {c : Int} {v : V} (h : Sts K H kvs B W) (c0 : 0 ≤ c) (c1 : c ≤ W) (hv : StV K H v B) : Sts K H (putK kvs (Sum.inl c) v) B W ∧ (putK kvs (Sum.inl c) v) ≠ [] := by
  obtain ⟨cs, e, nd, hc⟩ := h.ks
  unfold putK
  rw [put_any e]
  by_cases m : c ∈ cs
  · rw [if_pos (decide_eq_true m)]
    have e3 : (kvs.map fun kv => if kv.1 = Sum.inl c then (kv.1, v) else kv).map (·.1) = cs.map Sum.inl := by
      rw [← e, List.map_map]
      refine List.map_congr_left fun p _ => ?_
      show (if p.1 = Sum.inl c then (p.1, v) else p).1 = p.1
      split <;> rfl
    refine ⟨⟨⟨cs, e3, nd, hc⟩, fun p hp => ?_⟩, fun z => ?_⟩
    · obtain ⟨q, hq, rfl⟩ := List.mem_map.mp hp
      split
      · exact hv
      · exact h.vs q hq
    · rw [z] at e3
      cases cs with
      | nil => cases m
      | cons _ _ => cases e3
  · rw [if_neg (by simpa using m)]
    refine ⟨⟨⟨cs ++ [c], by rw [List.map_append, e, List.map_append]; rfl, ?_, fun d hd => ?_⟩, fun p hp => ?_⟩, by simp⟩
    · exact List.nodup_append.mpr ⟨nd, by simp, fun a ha b hb => by
        rw [List.mem_singleton.mp hb]
        exact fun z => m (z ▸ ha)⟩
    · rcases List.mem_append.mp hd with hd | hd
      · exact hc d hd
      · rw [List.mem_singleton.mp hd]
        exact ⟨c0, c1⟩
    · rcases List.mem_append.mp hp with hp | hp
      · exact h.vs p hp
      · rw [List.mem_singleton.mp hp]
        exact hv
theorem Sts.val {k : Key} {v : V} (h : Sts K H kvs B W) (hv : valV kvs k = some v) : StV K H v B := by
  unfold valV at hv
  obtain ⟨p, hp, rfl⟩ := Option.map_eq_some_iff.mp hv
  exact h.vs p (List.mem_of_find?_eq_some hp)
theorem Sts.get {cs : List Int} {c : Int} (h : Sts K H kvs B W) (e : kvs.map (·.1) = cs.map Sum.inl) (m : c ∈ cs) : ∃ v, valV kvs (Sum.inl c) = some v ∧ StV K H v B := by
  have a := put_any (c := c) e
  rw [decide_eq_true m, valV_any] at a
  obtain ⟨v, hv⟩ := Option.isSome_iff_exists.mp a
  refine ⟨v, hv, ?_⟩
  unfold valV at hv
  obtain ⟨p, hp, rfl⟩ := Option.map_eq_some_iff.mp hv
  exact h.vs p (List.mem_of_find?_eq_some hp)
theorem sts_data : ∀ {kvs : List (Key × V)}, (∀ p ∈ kvs, StV K H p.2 B) → ∃ ds : List PyData, DpAll K H (kvs.map Prod.snd) ds ∧ ∀ x ∈ ds, ∃ e l fs rs o z, x = stD e l fs rs o z
  | [], _ => ⟨[], .nil, by simp⟩
  | p :: kvs, h => by
    obtain ⟨e, l, fs, rs, o, z, d, _⟩ := h p (List.mem_cons_self ..)
    obtain ⟨ds, hd, hx⟩ := sts_data fun q hq => h q (List.mem_cons_of_mem _ hq)
    refine ⟨stD e l fs rs o z :: ds, .cons d hd, fun x hx' => ?_⟩
    rcases List.mem_cons.mp hx' with rfl | hx'
    · exact ⟨e, l, fs, rs, o, z, rfl⟩
    · exact hx x hx'
theorem data_depth : ∀ {ds : List PyData}, (∀ x ∈ ds, ∃ e l fs rs o z, x = stD e l fs rs o z) → PyData.depthAll ds ≤ 4
  | [], _ => by decide
  | d :: ds, h => by
    obtain ⟨e, l, fs, rs, o, z, rfl⟩ := h d (List.mem_cons_self ..)
    have h1 := st_depth e l fs rs o z
    have h2 := data_depth fun x hx => h x (List.mem_cons_of_mem _ hx)
    show max (stD e l fs rs o z).depth (PyData.depthAll ds) ≤ 4
    omega
/-- min(list(d.values())) -/
theorem sts_min {r : Addr} (hr : H r = none) (S : Sts K H kvs B W) (ne : kvs ≠ []) : ∃ (d : PyData) (ds : List PyData), DpAll K (upd H r (.lst (kvs.map Prod.snd))) (kvs.map Prod.snd) (d :: ds) ∧ PySem.W.AlikeAll (d :: ds) ∧ PyData.depthAll (d :: ds) ≤ 60 ∧
    ∀ y ∈ kvs.map Prod.snd, StV K (upd H r (.lst (kvs.map Prod.snd))) y B := by
  have s := same_new (o := .lst (kvs.map Prod.snd)) hr
  obtain ⟨ds, dd, dx⟩ := sts_data (S.same s).vs
  have dp := data_depth dx
  cases kvs with
  | nil => exact absurd rfl ne
  | cons p kvs =>
    cases ds with
    | nil => cases dd
    | cons d0 ds =>
      refine ⟨d0, ds, dd, ⟨fun x hx y hy => ?_, fun x hx => ?_⟩, by omega, fun y hy => ?_⟩
      · obtain ⟨e, l, fs, rs, o, z, rfl⟩ := dx x hx
        obtain ⟨e', l', fs', rs', o', z', rfl⟩ := dx y hy
        exact st_alike ..
      · obtain ⟨e, l, fs, rs, o, z, rfl⟩ := dx x hx
        intro z
        cases z
      · obtain ⟨pq, hpq, rfl⟩ := List.mem_map.mp hy
        exact (S.same s).vs pq hpq
end
end K33

namespace K33
open PySem PySem.Spec PyProof.Rows L2 Vk
/-! ### the search -/
/-- what is to be done: a document entered (flat or not, with steps); turn; merge -/
inductive Tk where
  | enter (t : Nd) (flat : Bool) (st : Int)
  | turn
  | merge
def Nd.w2 (t : Nd) (flat : Bool) : Int := if flat = true then t.ways.2 else t.ways.1
def Nd.wt : Nd → Nat
  | .txt s => s.length + 1 | .brk (some s) => s.length + 2 | .brk none => 2 | .hol s => s.length + 1
  | .jn a b => a.wt + b.wt + 1 | .ch a b => a.wt + b.wt + 4 | .ne _ a => a.wt + 1 | .gr a => 2 * a.wt + 4 | .fl a => a.wt + 1
def Tk.wt : Tk → Nat
  | .enter t _ _ => t.wt
  | _ => 1
def wts (ts : List Tk) : Nat := (ts.map Tk.wt).sum
/-- no holes, all strings in order, steps from 0 on -/
def Nd.ok : Nd → Prop
  | .txt s => PyData.strOk s = true | .brk (some s) => PyData.strOk s = true | .brk none => True | .hol _ => False
  | .jn a b => a.ok ∧ b.ok | .ch a b => a.ok ∧ b.ok | .ne k a => 0 ≤ k ∧ a.ok | .gr a => a.ok | .fl a => a.ok
def Tk.ok : Tk → Prop
  | .enter t _ st => t.ok ∧ 0 ≤ st
  | _ => True
/-- whether the states that are kept, and those that are on, are none, goes well to the end -/
def safe : List Tk → List Bool → Bool → Prop
  | [], k, c => k = [] ∧ c = true
  | .enter t f _ :: r, k, c => c = true ∧ safe r k (decide (t.w2 f ≠ 0))
  | .turn :: r, k0 :: k, c => safe r (c :: k) k0
  | .merge :: r, k0 :: k, c => safe r k (k0 || c)
  | _, _, _ => False
def TkAt (K : PySem.W.Frag) (CN : Addr) (H : Hp) (q : Addr) : Tk → Prop
  | .enter t f st => ∃ p gs, SqT K H q [.int 0, .ref p, .bl f, .int st] ∧ NodeAt K CN H p t gs
  | .turn => SqT K H q [.int 1, .non, .bl false, .int 0]
  | .merge => SqT K H q [.int 2, .non, .bl false, .int 0]
inductive TksAt (K : PySem.W.Frag) (CN : Addr) (H : Hp) : List Addr → List Tk → Prop
  | nil : TksAt K CN H [] []
  | cons {q : Addr} {t : Tk} {qs : List Addr} {ts : List Tk} : TkAt K CN H q t → TksAt K CN H qs ts → TksAt K CN H (q :: qs) (t :: ts)
inductive KepAt (K : PySem.W.Frag) (H : Hp) (B : Nat) (W : Int) : List Addr → List Bool → Prop
  | nil : KepAt K H B W [] []
  | cons {d : Addr} {c : Bool} {ds : List Addr} {cs : List Bool} : StsAt K H d B W c → KepAt K H B W ds cs → KepAt K H B W (d :: ds) (c :: cs)
/-- the object of a search -/
def sf (W L : Int) (st kp td : Addr) : List (Str × V) := [("limit", .int W), ("left", .int L), ("states", .ref st), ("kept", .ref kp), ("todo", .ref td)]
structure SAt (K : PySem.W.Frag) (CN CS : Addr) (H : Hp) (s : Addr) (W L : Int) (kp td : Addr) (B : Nat) (c : Bool) (kb : List Bool) (ts : List Tk) : Prop where
  ob : ∃ dx st, H s = some (.ins CS dx (sf W L st kp td)) ∧ StsAt K H st B W c
  ke : ∃ ks, H kp = some (.lst (ks.reverse.map V.ref)) ∧ KepAt K H B W ks kb
  ne : kp ≠ td
  w0 : 0 ≤ W ∧ W ≤ 60 ∧ 0 ≤ L
  to : ∃ qs, H td = some (.lst (qs.reverse.map V.ref)) ∧ TksAt K CN H qs ts
section
variable {K : PySem.W.Frag} {CN CD : Addr} {H H' : Hp} {B B' : Nat} {W : Int}
theorem StsAt.fix {d : Addr} {c : Bool} (e : Fix CN CD H H') (h : StsAt K H d B W c) : StsAt K H' d B W c := by
  obtain ⟨kvs, h1, h2, h3⟩ := h
  refine ⟨kvs, e _ _ h1 trivial, ⟨h2.ks, fun p hp => ?_⟩, h3⟩
  obtain ⟨e1, l, fs, rs, o, z, d, q⟩ := h2.vs p hp
  exact ⟨e1, l, fs, rs, o, z, Dp.fix e d (st_noL ..), q⟩
theorem StsAt.le {d : Addr} {c : Bool} (hb : B ≤ B') (h : StsAt K H d B W c) : StsAt K H d B' W c := let ⟨kvs, h1, h2, h3⟩ := h; ⟨kvs, h1, h2.le hb, h3⟩
theorem TkAt.fix {q : Addr} {t : Tk} (e : Fix CN CD H H') (h : TkAt K CN H q t) : TkAt K CN H' q t := by
  cases t with
  | enter t f st =>
    obtain ⟨p, gs, h1, h2⟩ := h
    exact ⟨p, gs, e.seqT h1, h2.fix e⟩
  | turn => exact e.seqT h
  | merge => exact e.seqT h
theorem TksAt.fix (e : Fix CN CD H H') : ∀ {qs : List Addr} {ts : List Tk}, TksAt K CN H qs ts → TksAt K CN H' qs ts
  | _, _, .nil => .nil
  | _, _, .cons h t => .cons (h.fix e) (TksAt.fix e t)
theorem KepAt.fix (e : Fix CN CD H H') : ∀ {ds : List Addr} {cs : List Bool}, KepAt K H B W ds cs → KepAt K H' B W ds cs
  | _, _, .nil => .nil
  | _, _, .cons h t => .cons (h.fix e) (KepAt.fix e t)
theorem KepAt.le (hb : B ≤ B') : ∀ {ds : List Addr} {cs : List Bool}, KepAt K H B W ds cs → KepAt K H B' W ds cs
  | _, _, .nil => .nil
  | _, _, .cons h t => .cons (h.le hb) (KepAt.le hb t)
def But (s kp td : Addr) (H H' : Hp) : Prop := ∀ b o, H b = some o → b ≠ s → b ≠ kp → b ≠ td → H' b = some o
theorem But.trans {s kp td : Addr} {H1 : Hp} (a : But s kp td H H1) (b : But s kp td H1 H') : But s kp td H H' := fun c o e n1 n2 n3 => b c o (a c o e n1 n2 n3) n1 n2 n3
theorem But.of {s kp td : Addr} (e : Same H H') : But s kp td H H' := fun c o q _ _ _ => e c o q
theorem ne_kind : ¬ (("limit" : Str) = "kind") ∧ ¬ (("limit" : Str) = "node") := by decide +kernel
theorem fix_of {CS s kp td dx : Addr} {L : Int} {st : Addr} {xs ys : List V} (h1 : H s = some (.ins CS dx (sf W L st kp td))) (h2 : H kp = some (.lst xs)) (h3 : H td = some (.lst ys)) (e : But s kp td H H') : Fix CN CD H H' := fun b o hb f => by
  refine e b o hb (fun z => ?_) (fun z => ?_) fun z => ?_
  · rw [z, h1] at hb
    cases hb
    rcases f with ⟨_, _, f⟩ | ⟨_, _, f⟩
    · exact ne_kind.1 (congrArg (·.1) (List.cons.inj f).1)
    · exact ne_kind.2 (congrArg (·.1) (List.cons.inj f).1)
  · rw [z, h2] at hb
    cases hb
    exact f
  · rw [z, h3] at hb
    cases hb
    exact f
theorem KepAt.len {ds : List Addr} {cs : List Bool} (h : KepAt K H B W ds cs) : ds.length = cs.length := by
  induction h with
  | nil => rfl
  | cons _ _ ih => exact congrArg Nat.succ ih
theorem TksAt.len {qs : List Addr} {ts : List Tk} (h : TksAt K CN H qs ts) : qs.length = ts.length := by
  induction h with
  | nil => rfl
  | cons _ _ ih => exact congrArg Nat.succ ih
section
variable {CS s kp td : Addr} {L : Int} {c : Bool} {kb : List Bool} {ts : List Tk}
theorem SAt.same (e : Same H H') (S : SAt K CN CS H s W L kp td B c kb ts) : SAt K CN CS H' s W L kp td B c kb ts := by
  obtain ⟨⟨dx, st, o1, o2⟩, ⟨ks, e1, e2⟩, ne, w0, ⟨qs, g1, g2⟩⟩ := S
  have f : Fix CN CN H H' := .of e
  exact ⟨⟨dx, st, e _ _ o1, o2.fix f⟩, ⟨ks, e _ _ e1, e2.fix f⟩, ne, w0, ⟨qs, e _ _ g1, g2.fix f⟩⟩
theorem SAt.push {q : Addr} {t : Tk} (S : SAt K CN CS H s W L kp td B c kb ts) (ht : TkAt K CN H q t) :
    ∃ xs, H td = some (.lst xs) ∧ xs.length = ts.length ∧ SAt K CN CS (upd H td (.lst (xs ++ [.ref q]))) s W L kp td B c kb (t :: ts) ∧ But s kp td H (upd H td (.lst (xs ++ [.ref q]))) := by
  obtain ⟨⟨dx, st, o1, o2⟩, ⟨ks, e1, e2⟩, ne, w0, ⟨qs, g1, g2⟩⟩ := S
  have nst : s ≠ td := fun z => by rw [z, g1] at o1; cases o1
  have bt : But s kp td H (upd H td (.lst (qs.reverse.map V.ref ++ [.ref q]))) := fun b o e n1 n2 n3 => by
    rw [upd_ne n3]
    exact e
  have fx := fix_of (CN := CN) (CD := CN) o1 e1 g1 bt
  refine ⟨_, g1, by rw [List.length_map, List.length_reverse, g2.len], ⟨⟨dx, st, by rw [upd_ne nst]; exact o1, o2.fix fx⟩, ⟨ks, by rw [upd_ne ne]; exact e1, e2.fix fx⟩, ne, w0, ⟨q :: qs, by rw [upd_same]; simp, .cons (ht.fix fx) (g2.fix fx)⟩⟩, bt⟩
theorem SAt.keep (S : SAt K CN CS H s W L kp td B c kb ts) :
    ∃ dx st xs, H s = some (.ins CS dx (sf W L st kp td)) ∧ H kp = some (.lst xs) ∧ xs.length = kb.length ∧ SAt K CN CS (upd H kp (.lst (xs ++ [.ref st]))) s W L kp td B c (c :: kb) ts ∧ But s kp td H (upd H kp (.lst (xs ++ [.ref st]))) := by
  obtain ⟨⟨dx, st, o1, o2⟩, ⟨ks, e1, e2⟩, ne, w0, ⟨qs, g1, g2⟩⟩ := S
  have nsk : s ≠ kp := fun z => by rw [z, e1] at o1; cases o1
  have bt : But s kp td H (upd H kp (.lst (ks.reverse.map V.ref ++ [.ref st]))) := fun b o e n1 n2 n3 => by
    rw [upd_ne n2]
    exact e
  have fx := fix_of (CN := CN) (CD := CN) o1 e1 g1 bt
  refine ⟨dx, st, _, o1, e1, by rw [List.length_map, List.length_reverse, e2.len], ⟨⟨dx, st, by rw [upd_ne nsk]; exact o1, o2.fix fx⟩, ⟨st :: ks, by rw [upd_same]; simp, .cons (o2.fix fx) (e2.fix fx)⟩, ne, w0, ⟨qs, by rw [upd_ne ne.symm]; exact g1, g2.fix fx⟩⟩, bt⟩
theorem SAt.obj (S : SAt K CN CS H s W L kp td B c kb ts) : ∃ dx st, H s = some (.ins CS dx (sf W L st kp td)) := let ⟨dx, st, o1, _⟩ := S.ob; ⟨dx, st, o1⟩
theorem SAt.fixs (S : SAt K CN CS H s W L kp td B c kb ts) (e : But s kp td H H') : Fix CN CD H H' := by
  obtain ⟨⟨dx, st, o1, o2⟩, ⟨ks, e1, e2⟩, ne, w0, ⟨qs, g1, g2⟩⟩ := S
  exact fix_of o1 e1 g1 e
/-- self.states = .. -/
theorem SAt.put {u : Addr} {c' : Bool} (S : SAt K CN CS H s W L kp td B c kb ts) (hb : B ≤ B') (hu : StsAt K H u B' W c') :
    ∃ dx st, H s = some (.ins CS dx (sf W L st kp td)) ∧ SAt K CN CS (upd H s (.ins CS dx (putF "states" (.ref u) (sf W L st kp td)))) s W L kp td B' c' kb ts ∧ But s kp td H (upd H s (.ins CS dx (putF "states" (.ref u) (sf W L st kp td)))) := by
  obtain ⟨⟨dx, st, o1, o2⟩, ⟨ks, e1, e2⟩, ne, w0, ⟨qs, g1, g2⟩⟩ := S
  have nsk : s ≠ kp := fun z => by rw [z, e1] at o1; cases o1
  have nst : s ≠ td := fun z => by rw [z, g1] at o1; cases o1
  have bt : But s kp td H (upd H s (.ins CS dx (putF "states" (.ref u) (sf W L st kp td)))) := fun b o e n1 n2 n3 => by
    rw [upd_ne n1]
    exact e
  have fx := fix_of (CN := CN) (CD := CN) o1 e1 g1 bt
  exact ⟨dx, st, o1, ⟨⟨dx, u, upd_same, hu.fix fx⟩, ⟨ks, by rw [upd_ne nsk.symm]; exact e1, (e2.le hb).fix fx⟩, ne, w0, ⟨qs, by rw [upd_ne nst.symm]; exact g1, g2.fix fx⟩⟩, bt⟩
end
end
theorem Nd.wt_pos : ∀ t : Nd, 1 ≤ t.wt
  | .txt s => by show 1 ≤ s.length + 1; omega
  | .brk (some s) => by show 1 ≤ s.length + 2; omega
  | .brk none => by decide
  | .hol s => by show 1 ≤ s.length + 1; omega
  | .jn a b => by show 1 ≤ a.wt + b.wt + 1; omega
  | .ch a b => by show 1 ≤ a.wt + b.wt + 4; omega
  | .ne _ a => by show 1 ≤ a.wt + 1; omega
  | .gr a => by show 1 ≤ 2 * a.wt + 4; omega
  | .fl a => by show 1 ≤ a.wt + 1; omega
theorem Tk.wt_pos (t : Tk) : 1 ≤ t.wt := by
  cases t with
  | enter t _ _ => exact t.wt_pos
  | turn => exact Nat.le_refl _
  | merge => exact Nat.le_refl _
theorem wts_cons (t : Tk) (ts : List Tk) : wts (t :: ts) = t.wt + wts ts := by
  unfold wts
  rw [List.map_cons, List.sum_cons]
theorem wts_len : ∀ ts : List Tk, ts.length ≤ wts ts
  | [] => Nat.zero_le _
  | t :: ts => by
    have := wts_len ts
    have := t.wt_pos
    rw [wts_cons, List.length_cons]
    omega
theorem safe_len : ∀ {ts : List Tk} {kb : List Bool} {c : Bool}, safe ts kb c → kb.length ≤ ts.length
  | [], kb, c, h => by
    have h' : kb = [] ∧ c = true := h
    rw [h'.1]
    exact Nat.le_refl _
  | .enter t f st :: r, kb, c, h => by
    have h' : c = true ∧ safe r kb (decide (t.w2 f ≠ 0)) := h
    have := safe_len h'.2
    rw [List.length_cons]
    omega
  | .turn :: r, k0 :: kb, c, h => by
    have h' : safe r (c :: kb) k0 := h
    have := safe_len h'
    rw [List.length_cons] at this ⊢
    rw [List.length_cons]
    omega
  | .turn :: r, [], c, h => Nat.zero_le _
  | .merge :: r, k0 :: kb, c, h => by
    have h' : safe r kb (k0 || c) := h
    have := safe_len h'
    rw [List.length_cons, List.length_cons]
    omega
  | .merge :: r, [], c, h => Nat.zero_le _
def spTurn (K : PySem.W.Frag) (CN CS : Addr) : Sp := fun vs H Q _ => ∃ (s kp td : Addr) (W L : Int) (B : Nat) (c k0 : Bool) (kb : List Bool) (ts : List Tk), vs = [.ref s] ∧ SAt K CN CS H s W L kp td B c (k0 :: kb) ts ∧ kb.length ≤ 1000000 ∧
  ∀ H', But s kp td H H' → SAt K CN CS H' s W L kp td B k0 (c :: kb) ts → Q .non H'
def spFork (K : PySem.W.Frag) (CN CS : Addr) : Sp := fun vs H Q _ => ∃ (s kp td q1 q2 : Addr) (W L : Int) (B : Nat) (c : Bool) (kb : List Bool) (ts : List Tk) (t1 t2 : Tk), vs = [.ref s, .ref q1, .ref q2] ∧ SAt K CN CS H s W L kp td B c kb ts ∧ kb.length ≤ 1000000 ∧ ts.length ≤ 1000000 ∧ TkAt K CN H q1 t1 ∧ TkAt K CN H q2 t2 ∧
  ∀ H', But s kp td H H' → SAt K CN CS H' s W L kp td B c (c :: kb) (t1 :: .turn :: t2 :: .merge :: ts) → Q .non H'
def spEnter (K : PySem.W.Frag) (CN CS : Addr) : Sp := fun vs H Q _ => ∃ (s kp td p : Addr) (f : Bool) (st W L : Int) (B : Nat) (kb : List Bool) (ts : List Tk) (t : Nd) (gs : List Str), vs = [.ref s, .ref p, .bl f, .int st] ∧ SAt K CN CS H s W L kp td B true kb ts ∧ NodeAt K CN H p t gs ∧ t.ok ∧ 0 ≤ st ∧ t.wt + wts ts + B ≤ 1000000 ∧ kb.length ≤ 1000000 ∧
  ∀ H' c' kb' ts' B', But s kp td H H' → SAt K CN CS H' s W L kp td B' c' kb' (ts' ++ ts) → (safe (.enter t f st :: ts) kb true → safe (ts' ++ ts) kb' c') → wts ts' + B' < t.wt + B → (∀ x ∈ ts', x.ok) → Q .non H'
section
variable {P : Program} {w : World} {K : PySem.W.Frag} {mg : Str → Option Value} {base : Heap} {k : Nat}
theorem ok_turn (T : Tx K mg) : FnOk P w K mg base CX0 (k + 1) T.a_Search_turn T.d_Search_turn P_Search_turn (spTurn K T.C_Node T.C_Search) := by
  refine T.F_Search_turn.ok sc_Search_turn (fun vs H Q E h => ?_) (fun cdv A outer s H vs Q E hr h => ?_)
  · obtain ⟨s, kp, td, W, L, B, c, k0, kb, ts, rfl, _⟩ := h
    rfl
  obtain ⟨s, kp, td, W, L, B, c, k0, kb, ts, rfl, ⟨⟨dx, st, o1, o2⟩, ⟨ks, e1, e2⟩, ne, w0, ⟨qs, g1, g2⟩⟩, lk, hq⟩ := h
  refine ⟨_, (pss_cons (ps_set (i := 1) sc_Search_turn.nd rfl (Or.inl rfl) (pe_fld (pv 0) rfl))
(pss_cons (ps_fld (pv 0) (pe_bm0 PySem.F.plainAttrs_list PySem.F.slot_list_pop PySem.F.type_list_pop mt_pop (pe_fld (pv 0) rfl)) rfl)
(pss_one (ps_expr (pe_bm PySem.F.plainAttrs_list PySem.F.slot_list_append PySem.F.type_list_append mt_append (pe_fld (pv 0) rfl) (pa_cons (pv 1) pa_nil)))))), ?_⟩
  cases e2 with
  | @cons d0 _ ds _ m1 m2 =>
  have nsk : s ≠ kp := fun z => by rw [z, e1] at o1; cases o1
  have nst : s ≠ td := fun z => by rw [z, g1] at o1; cases o1
  have er : ((d0 :: ds).reverse.map V.ref) = ds.reverse.map V.ref ++ [.ref d0] := by simp
  rw [er] at e1
  refine ⟨_, rfl, s, T.C_Search, dx, _, _, rfl, o1, T.cls_Search, T.na_Search_states, rfl, ?_⟩
  refine ⟨_, rfl, s, T.C_Search, dx, _, _, rfl, o1, T.cls_Search, T.na_Search_kept, rfl, .inl ⟨rfl, _, .of e1⟩, kp, _, .ref d0, rfl, rfl, e1, by simp, ?_⟩
  refine ⟨_, rfl, s, T.C_Search, dx, _, rfl, (by rw [upd_ne nsk]; exact o1), T.cls_Search, T.na_Search_states, (by show 5 < 1000; decide), ?_⟩
  refine ⟨_, rfl, s, T.C_Search, dx, _, _, rfl, upd_same, T.cls_Search, T.na_Search_kept, rfl, ?_⟩
  rw [List.dropLast_concat]
  have k2 : upd (upd H kp (.lst (ds.reverse.map V.ref))) s (.ins T.C_Search dx (putF "states" (.ref d0) (sf W L st kp td))) kp = some (.lst (ds.reverse.map V.ref)) := by rw [upd_ne nsk.symm, upd_same]
  have ll : (ds.reverse.map V.ref).length < sizeLine := by
    rw [List.length_map, List.length_reverse, m2.len]
    exact Nat.lt_of_le_of_lt lk (by decide)
  refine ⟨.inl ⟨rfl, _, .of k2⟩, _, rfl, kp, _, .ref st, rfl, rfl, k2, ll, ?_⟩
  have bt : But s kp td H (upd (upd (upd H kp (.lst (ds.reverse.map V.ref))) s (.ins T.C_Search dx (putF "states" (.ref d0) (sf W L st kp td)))) kp (.lst (ds.reverse.map V.ref ++ [.ref st]))) := fun b o e n1 n2 n3 => by
    rw [upd_ne n2, upd_ne n1, upd_ne n2]
    exact e
  have fx := fix_of (CN := T.C_Node) (CD := T.C_Doc) o1 e1 g1 bt
  refine hq _ bt ⟨⟨dx, d0, by rw [upd_ne nsk, upd_same]; rfl, m1.fix fx⟩, ⟨st :: ds, by rw [upd_same]; simp, .cons (o2.fix fx) (m2.fix fx)⟩, ne, w0, ⟨qs, by rw [upd_ne ne.symm, upd_ne nst.symm, upd_ne ne.symm]; exact g1, g2.fix fx⟩⟩
theorem ok_fork (T : Tx K mg) : FnOk P w K mg base CX0 (k + 1) T.a_Search_fork T.d_Search_fork P_Search_fork (spFork K T.C_Node T.C_Search) := by
  refine T.F_Search_fork.ok sc_Search_fork (fun vs H Q E h => ?_) (fun cdv A outer s H vs Q E hr h => ?_)
  · obtain ⟨s, kp, td, q1, q2, W, L, B, c, kb, ts, t1, t2, rfl, _⟩ := h
    rfl
  obtain ⟨s, kp, td, q1, q2, W, L, B, c, kb, ts, t1, t2, rfl, S, lk, lt, h1, h2, hq⟩ := h
  refine ⟨_, (pss_cons (ps_expr (pe_bm PySem.F.plainAttrs_list PySem.F.slot_list_append PySem.F.type_list_append mt_append (pe_fld (pv 0) rfl) (pa_cons (pe_fld (pv 0) rfl) pa_nil)))
(pss_cons (ps_expr (pe_bm PySem.F.plainAttrs_list PySem.F.slot_list_append PySem.F.type_list_append mt_append (pe_fld (pv 0) rfl) (pa_cons (pe_tup (pa_cons (pe_glob (v := .int 2) rfl T.c_MERGE T.r_MERGE) (pa_cons pe_non (pa_cons pe_bl (pa_cons pe_int pa_nil))))) pa_nil)))
(pss_cons (ps_expr (pe_bm PySem.F.plainAttrs_list PySem.F.slot_list_append PySem.F.type_list_append mt_append (pe_fld (pv 0) rfl) (pa_cons (pv 2) pa_nil)))
(pss_cons (ps_expr (pe_bm PySem.F.plainAttrs_list PySem.F.slot_list_append PySem.F.type_list_append mt_append (pe_fld (pv 0) rfl) (pa_cons (pe_tup (pa_cons (pe_glob (v := .int 1) rfl T.c_TURN T.r_TURN) (pa_cons pe_non (pa_cons pe_bl (pa_cons pe_int pa_nil))))) pa_nil)))
(pss_one (ps_expr (pe_bm PySem.F.plainAttrs_list PySem.F.slot_list_append PySem.F.type_list_append mt_append (pe_fld (pv 0) rfl) (pa_cons (pv 1) pa_nil)))))))), ?_⟩
  have lim : ∀ n m : Nat, n = m → m ≤ 1000010 → n < sizeLine := fun n m e h => Nat.lt_of_le_of_lt (m := 1000010) (by omega) (by decide)
  -- self.kept.append(self.states)
  obtain ⟨dx, st, xs, o1, e1, l1, S1, b1⟩ := S.keep
  refine ⟨_, rfl, s, T.C_Search, dx, _, _, rfl, o1, T.cls_Search, T.na_Search_kept, rfl, .inl ⟨rfl, _, .of e1⟩, _, rfl, s, T.C_Search, dx, _, _, rfl, o1, T.cls_Search, T.na_Search_states, rfl, kp, _, .ref st, rfl, rfl, e1, lim _ _ l1 (by omega), ?_⟩
  have h1' := h1.fix (S.fixs (CD := T.C_Doc) b1)
  have h2' := h2.fix (S.fixs (CD := T.C_Doc) b1)
  generalize upd H kp _ = H1 at S1 b1 h1' h2' ⊢
  -- (MERGE, None, False, 0)
  obtain ⟨dx1, st1, p1⟩ := S1.obj
  obtain ⟨ks, e2, _⟩ := S1.to
  refine ⟨_, rfl, s, T.C_Search, dx1, _, _, rfl, p1, T.cls_Search, T.na_Search_todo, rfl, .inl ⟨rfl, _, .of e2⟩, (by show 4 ≤ sizeLine; decide), fun n1 hn1 => ?_⟩
  have s1 := same_new (o := .tup [.int 2, .non, .bl false, .int 0]) hn1
  have S1' := S1.same s1
  have tm : TkAt K T.C_Node (upd H1 n1 (.tup [.int 2, .non, .bl false, .int 0])) n1 .merge := .of upd_same
  have h1'' := h1'.fix (CD := T.C_Doc) (.of s1)
  have h2'' := h2'.fix (CD := T.C_Doc) (.of s1)
  have b1' := b1.trans (.of s1)
  generalize upd H1 n1 _ = H2 at S1' tm h1'' h2'' b1' ⊢
  obtain ⟨xs2, f2, l2, S2, b2⟩ := S1'.push tm
  refine ⟨td, _, .ref n1, rfl, rfl, f2, lim _ _ l2 (by omega), ?_⟩
  have h1a := h1''.fix (S1'.fixs (CD := T.C_Doc) b2)
  have h2a := h2''.fix (S1'.fixs (CD := T.C_Doc) b2)
  have b2' := b1'.trans b2
  generalize upd H2 td _ = H3 at S2 h1a h2a b2' ⊢
  -- second
  obtain ⟨dx3, st3, p3⟩ := S2.obj
  obtain ⟨xs3, f3, l3, S3, b3⟩ := S2.push h2a
  refine ⟨_, rfl, s, T.C_Search, dx3, _, _, rfl, p3, T.cls_Search, T.na_Search_todo, rfl, .inl ⟨rfl, _, .of f3⟩, _, rfl, td, _, .ref q2, rfl, rfl, f3, lim _ _ l3 (by rw [List.length_cons]; omega), ?_⟩
  have h1b := h1a.fix (S2.fixs (CD := T.C_Doc) b3)
  have b3' := b2'.trans b3
  generalize upd H3 td _ = H4 at S3 h1b b3' ⊢
  -- (TURN, None, False, 0)
  obtain ⟨dx4, st4, p4⟩ := S3.obj
  obtain ⟨ks4, e4, _⟩ := S3.to
  refine ⟨_, rfl, s, T.C_Search, dx4, _, _, rfl, p4, T.cls_Search, T.na_Search_todo, rfl, .inl ⟨rfl, _, .of e4⟩, (by show 4 ≤ sizeLine; decide), fun n2 hn2 => ?_⟩
  have s4 := same_new (o := .tup [.int 1, .non, .bl false, .int 0]) hn2
  have S3' := S3.same s4
  have tt : TkAt K T.C_Node (upd H4 n2 (.tup [.int 1, .non, .bl false, .int 0])) n2 .turn := .of upd_same
  have h1c := h1b.fix (CD := T.C_Doc) (.of s4)
  have b4 := b3'.trans (.of s4)
  generalize upd H4 n2 _ = H5 at S3' tt h1c b4 ⊢
  obtain ⟨xs5, f5, l5, S5, b5⟩ := S3'.push tt
  refine ⟨td, _, .ref n2, rfl, rfl, f5, lim _ _ l5 (by simp only [List.length_cons]; omega), ?_⟩
  have h1d := h1c.fix (S3'.fixs (CD := T.C_Doc) b5)
  have b5' := b4.trans b5
  generalize upd H5 td _ = H6 at S5 h1d b5' ⊢
  -- first
  obtain ⟨dx6, st6, p6⟩ := S5.obj
  obtain ⟨xs6, f6, l6, S6, b6⟩ := S5.push h1d
  refine ⟨_, rfl, s, T.C_Search, dx6, _, _, rfl, p6, T.cls_Search, T.na_Search_todo, rfl, .inl ⟨rfl, _, .of f6⟩, _, rfl, td, _, .ref q1, rfl, rfl, f6, lim _ _ l6 (by simp only [List.length_cons]; omega), ?_⟩
  exact hq _ (b5'.trans b6) S6
end
end K33

namespace M32
open PySem
/-! ### states in order: pure, nothing of the model -/
/-- the order of code points, from the left -/
def cmpL : List Nat → List Nat → Ordering
  | [], [] => .eq
  | [], _ :: _ => .lt
  | _ :: _, [] => .gt
  | a :: as, b :: bs => if a < b then .lt else if b < a then .gt else cmpL as bs
theorem cmpL_self : ∀ a : List Nat, cmpL a a = .eq
  | [] => rfl
  | a :: as => by
    unfold cmpL
    rw [if_neg (Nat.lt_irrefl a), if_neg (Nat.lt_irrefl a)]
    exact cmpL_self as
theorem cmpL_eq : ∀ {a b : List Nat}, cmpL a b = .eq → a = b
  | [], [], _ => rfl
  | [], _ :: _, h => by cases h
  | _ :: _, [], h => by cases h
  | a :: as, b :: bs, h => by
    unfold cmpL at h
    split at h
    · cases h
    · split at h
      · cases h
      · rw [cmpL_eq h, show a = b by omega]
/-- a is less by a sign of its own: whatever is written behind the two, it stays so -/
def ltF : List Nat → List Nat → Prop
  | a :: as, b :: bs => a < b ∨ (a = b ∧ ltF as bs)
  | _, _ => False
theorem ltF_lt : ∀ {a b : List Nat}, ltF a b → cmpL a b = .lt
  | [], [], h => h.elim
  | [], _ :: _, h => h.elim
  | _ :: _, [], h => h.elim
  | a :: as, b :: bs, h => by
    unfold cmpL
    rcases h with h | ⟨rfl, h⟩
    · rw [if_pos h]
    · rw [if_neg (Nat.lt_irrefl a), if_neg (Nat.lt_irrefl a)]
      exact ltF_lt h
theorem ltF_app : ∀ {a b : List Nat} (c d : List Nat), ltF a b → ltF (a ++ c) (b ++ d)
  | [], [], _, _, h => h.elim
  | [], _ :: _, _, _, h => h.elim
  | _ :: _, [], _, _, h => h.elim
  | a :: as, b :: bs, c, d, h => by
    rcases h with h | ⟨rfl, h⟩
    · exact .inl h
    · exact .inr ⟨rfl, ltF_app c d h⟩
/-- less, and not a beginning of the other: less by a sign -/
theorem ltF_of : ∀ {a b : List Nat}, cmpL a b = .lt → ¬ a <+: b → ltF a b
  | [], [], h, _ => by cases h
  | [], b :: bs, _, n => absurd (List.nil_prefix) n
  | _ :: _, [], h, _ => by cases h
  | a :: as, b :: bs, h, n => by
    unfold cmpL at h
    split at h
    · rename_i l
      exact .inl l
    · split at h
      · cases h
      · obtain rfl : a = b := by omega
        exact .inr ⟨rfl, ltF_of h fun p => n (by
          obtain ⟨t, rfl⟩ := p
          exact ⟨t, rfl⟩)⟩
theorem ltF_len {a b : List Nat} (h : cmpL a b = .lt) (l : a.length = b.length) : ltF a b :=
  ltF_of h fun p => by
    have := p.eq_of_length l
    rw [this, cmpL_self] at h
    cases h
theorem ltF_trans : ∀ {a b c : List Nat}, ltF a b → ltF b c → ltF a c
  | [], [], _, h, _ => h.elim
  | [], _ :: _, _, h, _ => h.elim
  | _ :: _, [], _, h, _ => h.elim
  | _ :: _, _ :: _, [], _, h => h.elim
  | a :: as, b :: bs, c :: cs, h, g => by
    rcases h with h | ⟨rfl, h⟩ <;> rcases g with g | ⟨rfl, g⟩
    · exact .inl (by omega)
    · exact .inl h
    · exact .inl g
    · exact .inr ⟨rfl, ltF_trans h g⟩
abbrev Rw := Int × List Nat
/-- the order of a line: its indent, then its string -/
def ltR (a b : Rw) : Prop := a.1 < b.1 ∨ (a.1 = b.1 ∧ cmpL a.2 b.2 = .lt)
/-- the order of as many finished lines -/
def ltRs : List Rw → List Rw → Prop
  | a :: as, b :: bs => ltR a b ∨ (a = b ∧ ltRs as bs)
  | _, _ => False
theorem ltRs_app : ∀ {a b : List Rw} (c d : List Rw), ltRs a b → ltRs (a ++ c) (b ++ d)
  | [], [], _, _, h => h.elim
  | [], _ :: _, _, _, h => h.elim
  | _ :: _, [], _, _, h => h.elim
  | a :: as, b :: bs, c, d, h => by
    rcases h with h | ⟨rfl, h⟩
    · exact .inl h
    · exact .inr ⟨rfl, ltRs_app c d h⟩
theorem ltRs_last : ∀ (p : List Rw) {a b : Rw}, ltR a b → ltRs (p ++ [a]) (p ++ [b])
  | [], _, _, h => .inl h
  | x :: p, _, _, h => .inr ⟨rfl, ltRs_last p h⟩
/-- a state: excess, lines, finished lines, and the line that is begun -/
structure St where
  ex : Int
  ln : Int
  rs : List Rw
  ow : Int
  z : List Nat
/-- less at once, and for good: by something that no writing changes -/
inductive LtS : St → St → Prop
  | ex {a b : St} : a.ex < b.ex → LtS a b
  | ln {a b : St} : a.ex = b.ex → a.ln < b.ln → LtS a b
  | rs {a b : St} : a.ex = b.ex → a.ln = b.ln → ltRs a.rs b.rs → LtS a b
  | ow {a b : St} : a.ex = b.ex → a.ln = b.ln → a.rs = b.rs → a.ow < b.ow → LtS a b
  | z {a b : St} : a.ex = b.ex → a.ln = b.ln → a.rs = b.rs → a.ow = b.ow → ltF a.z b.z → LtS a b
/-- not worse for good -/
def LeS (a b : St) : Prop := a = b ∨ LtS a b
/-! ### writing and breaking -/
def write (W c : Int) (w : List Nat) (a : St) : St := { a with ex := a.ex + max 0 (c + w.length - W), z := a.z ++ w }
def wCol (W c : Int) (w : List Nat) : Int := min (c + w.length) W
def brk (W left : Int) (st : Int) (a : St) : St := ⟨a.ex + max 0 (left + st - W), a.ln + 1, a.rs ++ [(a.ow, a.z)], st, []⟩
/-- one that is not worse, further left, stays so: when a string is written -/
theorem write_le {W c d : Int} {w : List Nat} {a b : St} (h : LeS a b) (l : c ≤ d) : LeS (write W c w a) (write W d w b) := by
  have m : max 0 (c + w.length - W) ≤ max 0 (d + w.length - W) := by omega
  rcases h with rfl | h
  · by_cases e : max 0 (c + (w.length : Int) - W) = max 0 (d + (w.length : Int) - W)
    · left
      unfold write
      rw [e]
    · exact .inr (.ex (by show _ + _ < _ + _; omega))
  · right
    by_cases e : a.ex + max 0 (c + (w.length : Int) - W) < b.ex + max 0 (d + (w.length : Int) - W)
    · exact .ex e
    cases h with
    | ex h => exact absurd (show a.ex + _ < b.ex + _ by omega) e
    | ln h1 h2 => exact .ln (by show _ + _ = _ + _; omega) h2
    | rs h1 h2 h3 => exact .rs (by show _ + _ = _ + _; omega) h2 h3
    | ow h1 h2 h3 h4 => exact .ow (by show _ + _ = _ + _; omega) h2 h3 h4
    | z h1 h2 h3 h4 h5 => exact .z (by show _ + _ = _ + _; omega) h2 h3 h4 (ltF_app _ _ h5)
/-- when a line is begun, wherever the two stood: less is enough, beginning or not -/
inductive LtA : St → St → Prop
  | ex {a b : St} : a.ex < b.ex → LtA a b
  | ln {a b : St} : a.ex = b.ex → a.ln < b.ln → LtA a b
  | rs {a b : St} : a.ex = b.ex → a.ln = b.ln → ltRs a.rs b.rs → LtA a b
  | ow {a b : St} : a.ex = b.ex → a.ln = b.ln → a.rs = b.rs → a.ow < b.ow → LtA a b
  | z {a b : St} : a.ex = b.ex → a.ln = b.ln → a.rs = b.rs → a.ow = b.ow → cmpL a.z b.z = .lt → LtA a b
def LeA (a b : St) : Prop := a = b ∨ LtA a b
theorem LtS.any {a b : St} (h : LtS a b) : LtA a b := by
  cases h with
  | ex h => exact .ex h
  | ln h1 h2 => exact .ln h1 h2
  | rs h1 h2 h3 => exact .rs h1 h2 h3
  | ow h1 h2 h3 h4 => exact .ow h1 h2 h3 h4
  | z h1 h2 h3 h4 h5 => exact .z h1 h2 h3 h4 (ltF_lt h5)
theorem LeS.any {a b : St} (h : LeS a b) : LeA a b := h.elim .inl fun h => .inr h.any
theorem brk_le {W left st : Int} {a b : St} (h : LeA a b) : LeS (brk W left st a) (brk W left st b) := by
  rcases h with rfl | h
  · exact .inl rfl
  · right
    cases h with
    | ex h => exact .ex (by show _ + _ < _ + _; omega)
    | ln h1 h2 => exact .ln (by show _ + _ = _ + _; omega) (by show _ + _ < _ + _; omega)
    | rs h1 h2 h3 => exact .rs (by show _ + _ = _ + _; omega) (by show _ + _ = _ + _; omega) (ltRs_app _ _ h3)
    | ow h1 h2 h3 h4 =>
      refine .rs (by show _ + _ = _ + _; omega) (by show _ + _ = _ + _; omega) ?_
      show ltRs (a.rs ++ [(a.ow, a.z)]) (b.rs ++ [(b.ow, b.z)])
      rw [h3]
      exact ltRs_last _ (.inl h4)
    | z h1 h2 h3 h4 h5 =>
      refine .rs (by show _ + _ = _ + _; omega) (by show _ + _ = _ + _; omega) ?_
      show ltRs (a.rs ++ [(a.ow, a.z)]) (b.rs ++ [(b.ow, b.z)])
      rw [h3]
      exact ltRs_last _ (.inr ⟨h4, h5⟩)
/-- what pruning asks: less, and the lesser string is no beginning of the other one's in an equal state -/
theorem prune_le {a b : St} (h : LtA a b) (n : ¬ (a.ex = b.ex ∧ a.ln = b.ln ∧ a.rs = b.rs ∧ a.ow = b.ow ∧ a.z <+: b.z)) : LtS a b := by
  cases h with
  | ex h => exact .ex h
  | ln h1 h2 => exact .ln h1 h2
  | rs h1 h2 h3 => exact .rs h1 h2 h3
  | ow h1 h2 h3 h4 => exact .ow h1 h2 h3 h4
  | z h1 h2 h3 h4 h5 => exact .z h1 h2 h3 h4 (ltF_of h5 fun p => n ⟨h1, h2, h3, h4, p⟩)
end M32

namespace M32
open PySem
theorem cmpL_trans : ∀ {a b c : List Nat}, cmpL a b = .lt → cmpL b c = .lt → cmpL a c = .lt
  | [], [], _, h, _ => by cases h
  | _ :: _, [], _, h, _ => by cases h
  | [], _ :: _, [], _, g => by cases g
  | [], _ :: _, _ :: _, _, _ => rfl
  | _ :: _, _ :: _, [], _, g => by cases g
  | a :: as, b :: bs, c :: cs, h, g => by
    unfold cmpL at h g ⊢
    by_cases h1 : a < b
    · by_cases g1 : b < c
      · rw [if_pos (by omega)]
      · rw [if_neg g1] at g
        by_cases g2 : c < b
        · rw [if_pos g2] at g
          cases g
        · rw [if_pos (by omega)]
    · rw [if_neg h1] at h
      by_cases h2 : b < a
      · rw [if_pos h2] at h
        cases h
      · rw [if_neg h2] at h
        obtain rfl : a = b := by omega
        by_cases g1 : a < c
        · rw [if_pos g1]
        · rw [if_neg g1] at g ⊢
          by_cases g2 : c < a
          · rw [if_pos g2] at g
            cases g
          · rw [if_neg g2] at g ⊢
            exact cmpL_trans h g
theorem ltR_trans {a b c : Rw} (h : ltR a b) (g : ltR b c) : ltR a c := by
  rcases h with h | ⟨h, h'⟩ <;> rcases g with g | ⟨g, g'⟩
  · exact .inl (by omega)
  · exact .inl (by omega)
  · exact .inl (by omega)
  · exact .inr ⟨by omega, cmpL_trans h' g'⟩
theorem ltRs_trans : ∀ {a b c : List Rw}, ltRs a b → ltRs b c → ltRs a c
  | [], [], _, h, _ => h.elim
  | [], _ :: _, _, h, _ => h.elim
  | _ :: _, [], _, h, _ => h.elim
  | _ :: _, _ :: _, [], _, h => h.elim
  | a :: as, b :: bs, c :: cs, h, g => by
    rcases h with h | ⟨rfl, h⟩ <;> rcases g with g | ⟨rfl, g⟩
    · exact .inl (ltR_trans h g)
    · exact .inl h
    · exact .inl g
    · exact .inr ⟨rfl, ltRs_trans h g⟩
theorem LtA.trans {a b c : St} (h : LtA a b) (g : LtA b c) : LtA a c := by
  cases h with
  | ex h =>
    cases g with
    | ex g => exact .ex (by omega)
    | ln g1 _ => exact .ex (by omega)
    | rs g1 _ _ => exact .ex (by omega)
    | ow g1 _ _ _ => exact .ex (by omega)
    | z g1 _ _ _ _ => exact .ex (by omega)
  | ln h1 h2 =>
    cases g with
    | ex g => exact .ex (by omega)
    | ln g1 g2 => exact .ln (by omega) (by omega)
    | rs g1 g2 _ => exact .ln (by omega) (by omega)
    | ow g1 g2 _ _ => exact .ln (by omega) (by omega)
    | z g1 g2 _ _ _ => exact .ln (by omega) (by omega)
  | rs h1 h2 h3 =>
    cases g with
    | ex g => exact .ex (by omega)
    | ln g1 g2 => exact .ln (by omega) (by omega)
    | rs g1 g2 g3 => exact .rs (by omega) (by omega) (ltRs_trans h3 g3)
    | ow g1 g2 g3 _ => exact .rs (by omega) (by omega) (g3 ▸ h3)
    | z g1 g2 g3 _ _ => exact .rs (by omega) (by omega) (g3 ▸ h3)
  | ow h1 h2 h3 h4 =>
    cases g with
    | ex g => exact .ex (by omega)
    | ln g1 g2 => exact .ln (by omega) (by omega)
    | rs g1 g2 g3 => exact .rs (by omega) (by omega) (h3 ▸ g3)
    | ow g1 g2 g3 g4 => exact .ow (by omega) (by omega) (h3.trans g3) (by omega)
    | z g1 g2 g3 g4 _ => exact .ow (by omega) (by omega) (h3.trans g3) (by omega)
  | z h1 h2 h3 h4 h5 =>
    cases g with
    | ex g => exact .ex (by omega)
    | ln g1 g2 => exact .ln (by omega) (by omega)
    | rs g1 g2 g3 => exact .rs (by omega) (by omega) (h3 ▸ g3)
    | ow g1 g2 g3 g4 => exact .ow (by omega) (by omega) (h3.trans g3) (by omega)
    | z g1 g2 g3 g4 g5 => exact .z (by omega) (by omega) (h3.trans g3) (by omega) (cmpL_trans h5 g5)
theorem LeA.trans {a b c : St} (h : LeA a b) (g : LeA b c) : LeA a c := by
  rcases h with rfl | h
  · exact g
  · rcases g with rfl | g
    · exact .inr h
    · exact .inr (h.trans g)
theorem LtS.trans {a b c : St} (h : LtS a b) (g : LtS b c) : LtS a c := by
  cases h with
  | ex h =>
    cases g with
    | ex g => exact .ex (by omega)
    | ln g1 _ => exact .ex (by omega)
    | rs g1 _ _ => exact .ex (by omega)
    | ow g1 _ _ _ => exact .ex (by omega)
    | z g1 _ _ _ _ => exact .ex (by omega)
  | ln h1 h2 =>
    cases g with
    | ex g => exact .ex (by omega)
    | ln g1 g2 => exact .ln (by omega) (by omega)
    | rs g1 g2 _ => exact .ln (by omega) (by omega)
    | ow g1 g2 _ _ => exact .ln (by omega) (by omega)
    | z g1 g2 _ _ _ => exact .ln (by omega) (by omega)
  | rs h1 h2 h3 =>
    cases g with
    | ex g => exact .ex (by omega)
    | ln g1 g2 => exact .ln (by omega) (by omega)
    | rs g1 g2 g3 => exact .rs (by omega) (by omega) (ltRs_trans h3 g3)
    | ow g1 g2 g3 _ => exact .rs (by omega) (by omega) (g3 ▸ h3)
    | z g1 g2 g3 _ _ => exact .rs (by omega) (by omega) (g3 ▸ h3)
  | ow h1 h2 h3 h4 =>
    cases g with
    | ex g => exact .ex (by omega)
    | ln g1 g2 => exact .ln (by omega) (by omega)
    | rs g1 g2 g3 => exact .rs (by omega) (by omega) (h3 ▸ g3)
    | ow g1 g2 g3 g4 => exact .ow (by omega) (by omega) (h3.trans g3) (by omega)
    | z g1 g2 g3 g4 _ => exact .ow (by omega) (by omega) (h3.trans g3) (by omega)
  | z h1 h2 h3 h4 h5 =>
    cases g with
    | ex g => exact .ex (by omega)
    | ln g1 g2 => exact .ln (by omega) (by omega)
    | rs g1 g2 g3 => exact .rs (by omega) (by omega) (h3 ▸ g3)
    | ow g1 g2 g3 g4 => exact .ow (by omega) (by omega) (h3.trans g3) (by omega)
    | z g1 g2 g3 g4 g5 => exact .z (by omega) (by omega) (h3.trans g3) (by omega) (ltF_trans h5 g5)
theorem LeS.trans {a b c : St} (h : LeS a b) (g : LeS b c) : LeS a c := by
  rcases h with rfl | h
  · exact g
  · rcases g with rfl | g
    · exact .inr h
    · exact .inr (h.trans g)
/-! ### what a state's excess is -/
def over (W e : Int) : Int := max 0 (e - W)
/-- the excess of finished lines: the first begins at the column, the others at their indents -/
def overs (W col left : Int) : List Rw → Int
  | [] => 0
  | r :: rs => over W (col + r.2.length) + (rs.map fun r => over W (left + r.1 + r.2.length)).sum
theorem overs_app {W col left : Int} {rs : List Rw} {r : Rw} : overs W col left (rs ++ [r]) = overs W col left rs + over W ((if rs = [] then col else left + r.1) + r.2.length) := by
  cases rs with
  | nil => simp [overs]
  | cons q rs => simp [overs, List.sum_append, Int.add_assoc]
/-- a state at a column is one that some way leads to: where its line ends, and what its excess is -/
def Val (W col left c : Int) (s : St) : Prop := ∃ cu, cu = (if s.rs = [] then col else left + s.ow) + s.z.length ∧ c = min cu W ∧ s.ex = overs W col left s.rs + over W cu
theorem Val.write {W col left c : Int} {s : St} {w : List Nat} (h : Val W col left c s) : Val W col left (wCol W c w) (write W c w s) := by
  obtain ⟨cu, h1, h2, h3⟩ := h
  refine ⟨cu + w.length, ?_, ?_, ?_⟩
  · rw [h1]
    show _ = _ + ((s.z ++ w).length : Int)
    rw [List.length_append, Int.natCast_add]
    exact Int.add_assoc ..
  · unfold wCol
    omega
  · show s.ex + max 0 (c + (w.length : Int) - W) = _
    rw [h3]
    show _ = overs W col left s.rs + over W _
    unfold over
    omega
theorem Val.brk {W col left c st : Int} {s : St} (h : Val W col left c s) : Val W col left (min (left + st) W) (brk W left st s) := by
  obtain ⟨cu, h1, h2, h3⟩ := h
  refine ⟨left + st, ?_, rfl, ?_⟩
  · show _ = (if s.rs ++ [(s.ow, s.z)] = [] then col else left + st) + ((0 : Nat) : Int)
    rw [if_neg (by simp)]
    simp
  · show s.ex + max 0 (left + st - W) = overs W col left (s.rs ++ [(s.ow, s.z)]) + over W (left + st)
    rw [overs_app, h3]
    show _ = overs W col left s.rs + over W ((if s.rs = [] then col else left + s.ow) + s.z.length) + _
    rw [← h1]
    rfl
/-- two at one column: less is less for good -/
theorem Val.lt {W col left c : Int} {a b : St} (ha : Val W col left c a) (hb : Val W col left c b) (h : LtA a b) : LtS a b := by
  cases h with
  | ex h => exact .ex h
  | ln h1 h2 => exact .ln h1 h2
  | rs h1 h2 h3 => exact .rs h1 h2 h3
  | ow h1 h2 h3 h4 => exact .ow h1 h2 h3 h4
  | z h1 h2 h3 h4 h5 =>
    refine .z h1 h2 h3 h4 (ltF_len h5 ?_)
    obtain ⟨ca, a1, a2, a3⟩ := ha
    obtain ⟨cb, b1, b2, b3⟩ := hb
    rw [h3, h4] at a1
    rw [h3, h1] at a3
    unfold over at a3 b3
    omega
theorem Val.le {W col left c : Int} {a b : St} (ha : Val W col left c a) (hb : Val W col left c b) (h : LeA a b) : LeS a b := h.elim .inl fun h => .inr (ha.lt hb h)
/-! ### what is kept covers what may be -/
abbrev At := Int × St
/-- S stands for L: it is of L, and for each of L it has one further left, or there, that is not worse for good -/
structure Cov (S L : At → Prop) : Prop where
  of : ∀ x, S x → L x
  by_ : ∀ x, L x → ∃ y, S y ∧ y.1 ≤ x.1 ∧ LeS y.2 x.2
theorem Cov.refl (S : At → Prop) : Cov S S := ⟨fun _ h => h, fun x h => ⟨x, h, Int.le_refl _, .inl rfl⟩⟩
theorem Cov.trans {A B C : At → Prop} (h : Cov A B) (g : Cov B C) : Cov A C := ⟨fun x a => g.of x (h.of x a), fun x c => by
  obtain ⟨y, b, l1, e1⟩ := g.by_ x c
  obtain ⟨z, a, l2, e2⟩ := h.by_ y b
  exact ⟨z, a, Int.le_trans l2 l1, e2.trans e1⟩⟩
theorem Cov.or {A B C D : At → Prop} (h : Cov A C) (g : Cov B D) : Cov (fun x => A x ∨ B x) fun x => C x ∨ D x := ⟨fun x => Or.imp (h.of x) (g.of x), fun x => by
  rintro (c | d)
  · obtain ⟨y, a, l, e⟩ := h.by_ x c
    exact ⟨y, .inl a, l, e⟩
  · obtain ⟨y, b, l, e⟩ := g.by_ x d
    exact ⟨y, .inr b, l, e⟩⟩
/-- of each at one column the least is kept -/
def Least (S L : At → Prop) : Prop := (∀ x, S x → L x) ∧ ∀ x, L x → ∃ y, S y ∧ y.1 = x.1 ∧ LeA y.2 x.2
theorem Least.cov {W col left : Int} {S L : At → Prop} (h : Least S L) (v : ∀ x, L x → Val W col left x.1 x.2) : Cov S L := ⟨h.1, fun x hx => by
  obtain ⟨y, hy, e, l⟩ := h.2 x hx
  have vy := v y (h.1 y hy)
  rw [e] at vy
  exact ⟨y, hy, by omega, vy.le (v x hx) l⟩⟩
/-- L once w is written behind each -/
def wSet (W : Int) (w : List Nat) (L : At → Prop) : At → Prop := fun x => ∃ y, L y ∧ x = (wCol W y.1 w, write W y.1 w y.2)
theorem Cov.write {W : Int} {w : List Nat} {S L : At → Prop} (h : Cov S L) : Cov (wSet W w S) (wSet W w L) := ⟨fun x => by
  rintro ⟨y, hy, rfl⟩
  exact ⟨y, h.of y hy, rfl⟩, fun x => by
  rintro ⟨y, hy, rfl⟩
  obtain ⟨z, hz, l, e⟩ := h.by_ y hy
  exact ⟨_, ⟨z, hz, rfl⟩, (by show wCol W z.1 w ≤ wCol W y.1 w; unfold wCol; omega), write_le e l⟩⟩
/-- L once a line is begun behind each -/
def bSet (W left st : Int) (L : At → Prop) : At → Prop := fun x => ∃ y, L y ∧ x = (min (left + st) W, brk W left st y.2)
theorem Cov.brk {W left st : Int} {S L : At → Prop} {m : At} (h : Cov S L) (hm : S m) (hl : ∀ x, S x → LeA m.2 x.2) : Cov (fun x => x = (min (left + st) W, brk W left st m.2)) (bSet W left st L) := ⟨fun x e => ⟨m, h.of m hm, e⟩, fun x => by
  rintro ⟨y, hy, rfl⟩
  obtain ⟨z, hz, _, e⟩ := h.by_ y hy
  exact ⟨_, rfl, Int.le_refl _, brk_le ((hl z hz).trans e.any)⟩⟩
/-- what pruning drops -/
theorem Cov.prune {S L : At → Prop} (h1 : ∀ x, S x → L x) (h2 : ∀ x, L x → S x ∨ ∃ y, S y ∧ y.1 ≤ x.1 ∧ LtA y.2 x.2 ∧ ¬ (y.2.ex = x.2.ex ∧ y.2.ln = x.2.ln ∧ y.2.rs = x.2.rs ∧ y.2.ow = x.2.ow ∧ y.2.z <+: x.2.z)) : Cov S L := ⟨h1, fun x hx => by
  rcases h2 x hx with s | ⟨y, s, l, a, n⟩
  · exact ⟨x, s, Int.le_refl _, .inl rfl⟩
  · exact ⟨y, s, l, .inr (prune_le a n)⟩⟩
/-- at the end: the least of what is kept is the least of all -/
theorem Cov.end_ {S L : At → Prop} {m : At} (h : Cov S L) (hm : S m) (hl : ∀ x, S x → LeA m.2 x.2) : L m ∧ ∀ x, L x → LeA m.2 x.2 := ⟨h.of m hm, fun x hx => by
  obtain ⟨y, hy, _, e⟩ := h.by_ x hx
  exact (hl y hy).trans e.any⟩
end M32

namespace M32
open PySem K33
/-! ### the ways of a tree -/
section
variable (W left : Int)
/-- behind L, in all ways of t: flat or not, so many steps in -/
def pth : Nd → Bool → Int → (At → Prop) → At → Prop
  | .txt w, _, _, L => wSet W w.cps.toList L
  | .brk (some w), true, _, L => wSet W w.cps.toList L
  | .brk none, true, _, _ => fun _ => False
  | .brk _, false, st, L => bSet W left st L
  | .hol _, _, _, _ => fun _ => False
  | .jn a b, f, st, L => pth b f st (pth a f st L)
  | .ch a b, f, st, L => fun x => pth a f st L x ∨ pth b f st L x
  | .ne k a, f, st, L => pth a f (st + k) L
  | .gr a, true, st, L => pth a true st L
  | .gr a, false, st, L => fun x => pth a false st L x ∨ pth a true st L x
  | .fl a, _, st, L => pth a true st L
end
section
variable {W left : Int}
theorem Cov.bset {st : Int} {S L : At → Prop} (h : Cov S L) : Cov (bSet W left st S) (bSet W left st L) := ⟨fun x => by
  rintro ⟨y, hy, rfl⟩
  exact ⟨y, h.of y hy, rfl⟩, fun x => by
  rintro ⟨y, hy, rfl⟩
  obtain ⟨z, hz, _, e⟩ := h.by_ y hy
  exact ⟨_, ⟨z, hz, rfl⟩, Int.le_refl _, brk_le e.any⟩⟩
theorem Cov.pth : ∀ (t : Nd) (f : Bool) (st : Int) {S L : At → Prop}, Cov S L → Cov (pth W left t f st S) (pth W left t f st L)
  | .txt w, f, st, S, L, h => h.write
  | .brk (some w), true, st, S, L, h => h.write
  | .brk none, true, st, S, L, h => .refl _
  | .brk (some w), false, st, S, L, h => h.bset
  | .brk none, false, st, S, L, h => h.bset
  | .hol _, f, st, S, L, h => .refl _
  | .jn a b, f, st, S, L, h => Cov.pth b f st (Cov.pth a f st h)
  | .ch a b, f, st, S, L, h => (Cov.pth a f st h).or (Cov.pth b f st h)
  | .ne k a, f, st, S, L, h => Cov.pth a f (st + k) h
  | .gr a, true, st, S, L, h => Cov.pth a true st h
  | .gr a, false, st, S, L, h => (Cov.pth a false st h).or (Cov.pth a true st h)
  | .fl a, f, st, S, L, h => Cov.pth a true st h
/-- a set of states that ways lead to -/
def AllVal (W col left : Int) (L : At → Prop) : Prop := ∀ x, L x → Val W col left x.1 x.2
theorem AllVal.pth {col : Int} : ∀ (t : Nd) (f : Bool) (st : Int) {L : At → Prop}, AllVal W col left L → AllVal W col left (pth W left t f st L)
  | .txt w, f, st, L, h => fun x hx => by
    obtain ⟨y, hy, rfl⟩ := hx
    exact (h y hy).write
  | .brk (some w), true, st, L, h => fun x hx => by
    obtain ⟨y, hy, rfl⟩ := hx
    exact (h y hy).write
  | .brk none, true, st, L, h => fun x hx => hx.elim
  | .brk (some w), false, st, L, h => fun x hx => by
    obtain ⟨y, hy, rfl⟩ := hx
    exact (h y hy).brk
  | .brk none, false, st, L, h => fun x hx => by
    obtain ⟨y, hy, rfl⟩ := hx
    exact (h y hy).brk
  | .hol _, f, st, L, h => fun x hx => hx.elim
  | .jn a b, f, st, L, h => AllVal.pth b f st (AllVal.pth a f st h)
  | .ch a b, f, st, L, h => fun x hx => hx.elim (AllVal.pth a f st h x) (AllVal.pth b f st h x)
  | .ne k a, f, st, L, h => AllVal.pth a f (st + k) h
  | .gr a, true, st, L, h => AllVal.pth a true st h
  | .gr a, false, st, L, h => fun x hx => hx.elim (AllVal.pth a false st h x) (AllVal.pth a true st h x)
  | .fl a, f, st, L, h => AllVal.pth a true st h
def w2 (t : Nd) (f : Bool) : Int := if f = true then t.ways.2 else t.ways.1
/-- no state behind none -/
theorem pth_none : ∀ (t : Nd) (f : Bool) (st : Int) {L : At → Prop}, (∀ x, ¬ L x) → ∀ x, ¬ pth W left t f st L x
  | .txt w, f, st, L, h => fun x hx => by
    obtain ⟨y, hy, _⟩ := hx
    exact h y hy
  | .brk (some w), true, st, L, h => fun x hx => by
    obtain ⟨y, hy, _⟩ := hx
    exact h y hy
  | .brk none, true, st, L, h => fun x hx => hx
  | .brk (some w), false, st, L, h => fun x hx => by
    obtain ⟨y, hy, _⟩ := hx
    exact h y hy
  | .brk none, false, st, L, h => fun x hx => by
    obtain ⟨y, hy, _⟩ := hx
    exact h y hy
  | .hol _, f, st, L, h => fun x hx => hx
  | .jn a b, f, st, L, h => pth_none b f st (pth_none a f st h)
  | .ch a b, f, st, L, h => fun x hx => hx.elim (pth_none a f st h x) (pth_none b f st h x)
  | .ne k a, f, st, L, h => pth_none a f (st + k) h
  | .gr a, true, st, L, h => pth_none a true st h
  | .gr a, false, st, L, h => fun x hx => hx.elim (pth_none a false st h x) (pth_none a true st h x)
  | .fl a, f, st, L, h => pth_none a true st h
/-- a tree without any way leads nowhere -/
theorem pth_zero : ∀ (t : Nd) (f : Bool) (st : Int) {L : At → Prop}, w2 t f = 0 → ∀ x, ¬ pth W left t f st L x
  | .txt w, true, st, L, h => by cases (show (1 : Int) = 0 from h)
  | .txt w, false, st, L, h => by cases (show (1 : Int) = 0 from h)
  | .brk (some w), true, st, L, h => by cases (show (1 : Int) = 0 from h)
  | .brk none, true, st, L, h => fun x hx => hx
  | .brk (some w), false, st, L, h => by cases (show (1 : Int) = 0 from h)
  | .brk none, false, st, L, h => by cases (show (1 : Int) = 0 from h)
  | .hol _, f, st, L, h => fun x hx => hx
  | .jn a b, f, st, L, h => by
    have z : w2 a f = 0 ∨ w2 b f = 0 := by
      cases f
      · exact Int.mul_eq_zero.mp (show a.ways.1 * b.ways.1 = 0 from h)
      · exact Int.mul_eq_zero.mp (show a.ways.2 * b.ways.2 = 0 from h)
    rcases z with z | z
    · exact pth_none b f st (pth_zero a f st z)
    · exact pth_zero b f st z
  | .ch a b, f, st, L, h => by
    have p := a.ways_pos
    have q := b.ways_pos
    have z : w2 a f = 0 ∧ w2 b f = 0 := by
      cases f
      · have h' : a.ways.1 + b.ways.1 = 0 := h
        exact ⟨by show a.ways.1 = 0; omega, by show b.ways.1 = 0; omega⟩
      · have h' : a.ways.2 + b.ways.2 = 0 := h
        exact ⟨by show a.ways.2 = 0; omega, by show b.ways.2 = 0; omega⟩
    exact fun x hx => hx.elim (pth_zero a f st z.1 x) (pth_zero b f st z.2 x)
  | .ne k a, f, st, L, h => pth_zero a f (st + k) (by cases f <;> exact h)
  | .gr a, true, st, L, h => pth_zero a true st h
  | .gr a, false, st, L, h => by
    have p := a.ways_pos
    have h' : a.ways.1 + a.ways.2 = 0 := h
    exact fun x hx => hx.elim (pth_zero a false st (by show a.ways.1 = 0; omega) x) (pth_zero a true st (by show a.ways.2 = 0; omega) x)
  | .fl a, f, st, L, h => pth_zero a true st (by cases f <;> exact h)
theorem w2_flat {t : Nd} (h : t.ways.2 = 0) : w2 t true = 0 := h
theorem pth_mono : ∀ (t : Nd) (f : Bool) (st : Int) {S L : At → Prop}, (∀ x, S x → L x) → ∀ x, pth W left t f st S x → pth W left t f st L x
  | .txt w, f, st, S, L, h => fun x ⟨y, hy, e⟩ => ⟨y, h y hy, e⟩
  | .brk (some w), true, st, S, L, h => fun x ⟨y, hy, e⟩ => ⟨y, h y hy, e⟩
  | .brk none, true, st, S, L, h => fun x hx => hx
  | .brk (some w), false, st, S, L, h => fun x ⟨y, hy, e⟩ => ⟨y, h y hy, e⟩
  | .brk none, false, st, S, L, h => fun x ⟨y, hy, e⟩ => ⟨y, h y hy, e⟩
  | .hol _, f, st, S, L, h => fun x hx => hx
  | .jn a b, f, st, S, L, h => pth_mono b f st (pth_mono a f st h)
  | .ch a b, f, st, S, L, h => fun x => Or.imp (pth_mono a f st h x) (pth_mono b f st h x)
  | .ne k a, f, st, S, L, h => pth_mono a f (st + k) h
  | .gr a, true, st, S, L, h => pth_mono a true st h
  | .gr a, false, st, S, L, h => fun x => Or.imp (pth_mono a false st h x) (pth_mono a true st h x)
  | .fl a, f, st, S, L, h => pth_mono a true st h
end
end M32

namespace M32
open PySem K33
section
variable {W left : Int}
theorem stl_sub : ∀ (t : Nd) (st : Int) {L : At → Prop}, stl t = true → ∀ x, pth W left t true st L x → pth W left t false st L x
  | .gr a, st, L, h => fun x hx => .inr hx
  | .fl a, st, L, h => fun x hx => hx
  | .txt w, st, L, h => fun x hx => hx
  | .hol _, st, L, h => fun x hx => hx
  | .brk none, st, L, h => fun x hx => hx.elim
  | .brk (some w), st, L, h => by cases (show (1 : Int) = 0 from of_decide_eq_true h)
  | .jn a b, st, L, h => by
    have h' : (decide ((Nd.jn a b).ways.2 = 0) || (stl a && stl b)) = true := h
    rw [Bool.or_eq_true, Bool.and_eq_true, decide_eq_true_eq] at h'
    rcases h' with z | ⟨ha, hb⟩
    · exact fun x hx => absurd hx (pth_zero (.jn a b) true st z x)
    · exact fun x hx => pth_mono b false st (stl_sub a st ha) x (stl_sub b st hb x hx)
  | .ch a b, st, L, h => by
    have h' : (decide ((Nd.ch a b).ways.2 = 0) || (stl a && stl b)) = true := h
    rw [Bool.or_eq_true, Bool.and_eq_true, decide_eq_true_eq] at h'
    rcases h' with z | ⟨ha, hb⟩
    · exact fun x hx => absurd hx (pth_zero (.ch a b) true st z x)
    · exact fun x hx => hx.imp (stl_sub a st ha x) (stl_sub b st hb x)
  | .ne k a, st, L, h => by
    have h' : (decide ((Nd.ne k a).ways.2 = 0) || stl a) = true := h
    rw [Bool.or_eq_true, decide_eq_true_eq] at h'
    rcases h' with z | ha
    · exact fun x hx => absurd hx (pth_zero (.ne k a) true st z x)
    · exact fun x hx => stl_sub a (st + k) ha x hx
theorem group_stl {a : Nd} {st : Int} {L : At → Prop} (h : stl a = true) : Cov (pth W left a false st L) (pth W left (.gr a) false st L) := ⟨fun x hx => .inl hx, fun x hx => ⟨x, hx.elim id (stl_sub a st h x), Int.le_refl _, .inl rfl⟩⟩
/-! ### what is to be done -/
/-- what comes out at the end: of the stack, the sets that are kept, the set that is on -/
def den (W left : Int) : List Tk → List (At → Prop) → (At → Prop) → At → Prop
  | [], _, c => c
  | .enter t f st :: r, k, c => den W left r k (pth W left t f st c)
  | .turn :: r, k0 :: k, c => den W left r (c :: k) k0
  | .merge :: r, k0 :: k, c => den W left r k fun x => k0 x ∨ c x
  | .turn :: _, [], _ => fun _ => False
  | .merge :: _, [], _ => fun _ => False
inductive Covs : List (At → Prop) → List (At → Prop) → Prop
  | nil : Covs [] []
  | cons {a b : At → Prop} {as bs : List (At → Prop)} : Cov a b → Covs as bs → Covs (a :: as) (b :: bs)
theorem Covs.refl : ∀ k : List (At → Prop), Covs k k
  | [] => .nil
  | a :: k => .cons (.refl a) (Covs.refl k)
theorem den_cov : ∀ (ts : List Tk) {k k' : List (At → Prop)} {c c' : At → Prop}, Covs k k' → Cov c c' → Cov (den W left ts k c) (den W left ts k' c')
  | [], _, _, _, _, _, h => h
  | .enter t f st :: r, _, _, _, _, hk, h => den_cov r hk (h.pth t f st)
  | .turn :: r, _, _, _, _, .nil, h => .refl _
  | .turn :: r, _, _, _, _, .cons h0 hk, h => den_cov r (.cons h hk) h0
  | .merge :: r, _, _, _, _, .nil, h => .refl _
  | .merge :: r, _, _, _, _, .cons h0 hk, h => den_cov r hk (h0.or h)
/-- a set for another that it covers: nothing is lost -/
theorem den_step {ts : List Tk} {k : List (At → Prop)} {c c' : At → Prop} {L : At → Prop} (h : Cov (den W left ts k c') L) (g : Cov c c') : Cov (den W left ts k c) L := (den_cov ts (.refl k) g).trans h
/-- a join, two at once: first this, then that -/
theorem den_join {a b : Nd} {f : Bool} {st : Int} {r : List Tk} {k : List (At → Prop)} {c : At → Prop} : den W left (.enter (.jn a b) f st :: r) k c = den W left (.enter a f st :: .enter b f st :: r) k c := rfl
/-- a fork: first, turn, second, merge -/
theorem den_fork {a b : Nd} {f g : Bool} {st : Int} {r : List Tk} {k : List (At → Prop)} {c : At → Prop} : den W left (.enter a f st :: .turn :: .enter b g st :: .merge :: r) (c :: k) c = den W left r k fun x => pth W left a f st c x ∨ pth W left b g st c x := rfl
end
end M32

namespace M32
open PySem K33 PySem.W
/-! ### the order of states is the program's -/
def zD (z : List Nat) : PyData := .str ⟨z.toArray⟩
def rD (r : Rw) : PyData := .tuple [.int r.1, zD r.2]
/-- finished lines are kept in pages of fifty, and a last one -/
def pstep (p : List (List Rw) × List Rw) (x : Rw) : List (List Rw) × List Rw := if (p.2 ++ [x]).length = 50 then (p.1 ++ [p.2 ++ [x]], []) else (p.1, p.2 ++ [x])
def pgs (rs : List Rw) : List (List Rw) × List Rw := rs.foldl pstep ([], [])
theorem pgs_snoc (rs : List Rw) (x : Rw) : pgs (rs ++ [x]) = pstep (pgs rs) x := by
  unfold pgs
  rw [List.foldl_append]
  rfl
structure Pg (rs : List Rw) (p : List (List Rw) × List Rw) : Prop where
  fl : p.1.flatten ++ p.2 = rs
  full : ∀ q ∈ p.1, q.length = 50
  lt : p.2.length < 50
theorem Pg.step {rs : List Rw} {p : List (List Rw) × List Rw} (h : Pg rs p) (x : Rw) : Pg (rs ++ [x]) (pstep p x) := by
  have hl := h.lt
  have e : (p.2 ++ [x]).length = p.2.length + 1 := by simp
  unfold pstep
  split
  · rename_i c
    refine ⟨?_, fun q hq => ?_, (by show 0 < 50; decide)⟩
    · show (p.1 ++ [p.2 ++ [x]]).flatten ++ [] = _
      rw [List.flatten_append, ← h.fl]
      simp
    · rcases List.mem_append.mp hq with hq | hq
      · exact h.full q hq
      · rw [List.mem_singleton.mp hq]
        exact c
  · rename_i c
    refine ⟨?_, h.full, ?_⟩
    · show p.1.flatten ++ (p.2 ++ [x]) = _
      rw [← List.append_assoc, h.fl]
    · show (p.2 ++ [x]).length < 50
      omega
theorem pgs_fold : ∀ (xs rs : List Rw) (p : List (List Rw) × List Rw), Pg rs p → Pg (rs ++ xs) (xs.foldl pstep p)
  | [], rs, p, h => by
    rw [List.append_nil]
    exact h
  | x :: xs, rs, p, h => by
    have := pgs_fold xs (rs ++ [x]) _ (h.step x)
    rw [List.append_assoc] at this
    exact this
theorem pgs_ok (rs : List Rw) : Pg rs (pgs rs) := pgs_fold rs [] _ ⟨rfl, fun q h => (by cases h), by decide⟩
theorem pgs_inj {a b : List Rw} (h1 : (pgs a).1 = (pgs b).1) (h2 : (pgs a).2 = (pgs b).2) : a = b := by
  rw [← (pgs_ok a).fl, ← (pgs_ok b).fl, h1, h2]
theorem full_len : ∀ {ps : List (List Rw)}, (∀ q ∈ ps, q.length = 50) → ps.flatten.length = 50 * ps.length
  | [], _ => rfl
  | p :: ps, h => by
    have h1 := h p (List.mem_cons_self ..)
    have h2 := full_len (ps := ps) fun q hq => h q (List.mem_cons_of_mem _ hq)
    rw [List.flatten_cons, List.length_append, h1, h2, List.length_cons]
    omega
theorem pgs_len {a b : List Rw} (h : a.length = b.length) : (pgs a).1.length = (pgs b).1.length ∧ (pgs a).2.length = (pgs b).2.length := by
  have ha := pgs_ok a
  have hb := pgs_ok b
  have la := congrArg List.length ha.fl
  have lb := congrArg List.length hb.fl
  rw [List.length_append, full_len ha.full] at la
  rw [List.length_append, full_len hb.full] at lb
  have h1 := ha.lt
  have h2 := hb.lt
  omega
def pageD (q : List Rw) : PyData := .tuple (q.map rD)
def toD (a : St) : PyData := .tuple [.int a.ex, .int a.ln, .tuple ((pgs a.rs).1.map pageD), .tuple ((pgs a.rs).2.map rD), .int a.ow, zD a.z]
theorem lt_cons {x y : PyData} {xs ys : List PyData} (h : alike x y = true) : dataLt (.tuple (x :: xs)) (.tuple (y :: ys)) = if PyData.eqv x y = true then dataLt (.tuple xs) (.tuple ys) else dataLt x y := by
  rw [dataLt_tuple, dataLt_tuple]
  split
  · rename_i e
    exact dataLt_all_yes h e
  · rename_i e
    exact dataLt_all_no h (by simpa using e)
theorem lt_nil : dataLt (.tuple []) (.tuple []) = false := by decide +kernel
theorem eqv_int (a b : Int) : PyData.eqv (.int a) (.int b) = decide (a = b) := by
  by_cases h : a = b
  · subst h
    simp [PyData.eqv]
  · simp [PyData.eqv, h]
theorem eqv_z (a b : List Nat) : PyData.eqv (zD a) (zD b) = decide (a = b) := by
  unfold zD
  rw [K33.eqv_str]
  by_cases h : a = b
  · subst h
    simp
  · rw [decide_eq_false h]
    refine Bool.eq_false_iff.mpr fun e => h ?_
    have e' := beq_iff_eq.mp e
    have := congrArg (fun x : Str => x.cps.toList) e'
    simpa using this
theorem cmpL_lt : ∀ a b : List Nat, cmpL a b = .lt ↔ a < b
  | [], [] => by
    constructor
    · intro h; cases h
    · intro h; cases h
  | [], b :: bs => ⟨fun _ => List.Lex.nil, fun _ => rfl⟩
  | a :: as, [] => by
    constructor
    · intro h; cases h
    · intro h; cases h
  | a :: as, b :: bs => by
    rw [List.cons_lt_cons_iff]
    unfold cmpL
    by_cases h : a < b
    · simp [h]
    · rw [if_neg h]
      by_cases g : b < a
      · rw [if_pos g]
        constructor
        · intro x; cases x
        · rintro (x | ⟨x, _⟩)
          · exact absurd x h
          · omega
      · rw [if_neg g, cmpL_lt as bs]
        constructor
        · exact fun x => .inr ⟨by omega, x⟩
        · rintro (x | ⟨_, x⟩)
          · exact absurd x h
          · exact x
theorem lt_z (a b : List Nat) : dataLt (zD a) (zD b) = true ↔ cmpL a b = .lt := by
  unfold zD
  rw [dataLt_str, cmpL_lt, decide_eq_true_eq]
theorem alike_r (a b : Rw) : alike (rD a) (rD b) = true := rfl
theorem eqv_r (a b : Rw) : PyData.eqv (rD a) (rD b) = decide (a = b) := by
  have e : PyData.eqv (rD a) (rD b) = (PyData.eqv (.int a.1) (.int b.1) && (PyData.eqv (zD a.2) (zD b.2) && true)) := by
    unfold rD
    simp [PyData.eqv, PyData.eqvAll]
  rw [e, eqv_int, eqv_z]
  obtain ⟨a1, a2⟩ := a
  obtain ⟨b1, b2⟩ := b
  by_cases h : a1 = b1 <;> by_cases g : a2 = b2 <;> simp [h, g]
theorem lt_r (a b : Rw) : dataLt (rD a) (rD b) = true ↔ ltR a b := by
  unfold rD
  rw [lt_cons rfl, eqv_int]
  by_cases h : a.1 = b.1
  · rw [if_pos (by simpa using h), lt_cons rfl, eqv_z]
    by_cases g : a.2 = b.2
    · rw [if_pos (by simpa using g), lt_nil]
      constructor
      · intro x; cases x
      · rintro (x | ⟨_, x⟩)
        · omega
        · rw [g, cmpL_self] at x
          cases x
    · rw [if_neg (by simpa using g), lt_z]
      constructor
      · exact fun x => .inr ⟨h, x⟩
      · rintro (x | ⟨_, x⟩)
        · omega
        · exact x
  · rw [if_neg (by simpa using h), dataLt_int, decide_eq_true_eq]
    constructor
    · exact .inl
    · rintro (x | ⟨x, _⟩)
      · exact x
      · exact absurd x h
theorem alike_rs : ∀ a b : List Rw, alike (.tuple (a.map rD)) (.tuple (b.map rD)) = true
  | [], b => by
    rw [alike]
    show alikeAll [] (b.map rD) = true
    rw [alikeAll]
  | a :: as, [] => by
    rw [alike]
    show alikeAll (rD a :: as.map rD) [] = true
    rw [alikeAll]
  | a :: as, b :: bs => by
    have ih := alike_rs as bs
    rw [alike] at ih
    rw [alike]
    show alikeAll (rD a :: as.map rD) (rD b :: bs.map rD) = true
    rw [alikeAll, alike_r, ih]
    rfl
theorem eqv_rs : ∀ a b : List Rw, PyData.eqv (.tuple (a.map rD)) (.tuple (b.map rD)) = decide (a = b)
  | [], [] => by simp [PyData.eqv, PyData.eqvAll]
  | [], b :: bs => by simp [PyData.eqv, PyData.eqvAll]
  | a :: as, [] => by simp [PyData.eqv, PyData.eqvAll]
  | a :: as, b :: bs => by
    have ih := eqv_rs as bs
    rw [PyData.eqv] at ih
    rw [PyData.eqv]
    show PyData.eqvAll (rD a :: as.map rD) (rD b :: bs.map rD) = _
    rw [PyData.eqvAll, eqv_r, ih]
    by_cases h : a = b <;> by_cases g : as = bs <;> simp [h, g]
theorem lt_rs : ∀ a b : List Rw, a.length = b.length → (dataLt (.tuple (a.map rD)) (.tuple (b.map rD)) = true ↔ ltRs a b)
  | [], [], _ => by
    show dataLt (.tuple []) (.tuple []) = true ↔ _
    rw [lt_nil]
    constructor
    · intro x; cases x
    · intro x; exact x.elim
  | [], _ :: _, h => by cases h
  | _ :: _, [], h => by cases h
  | a :: as, b :: bs, h => by
    have ih := lt_rs as bs (by simpa using h)
    show dataLt (.tuple (rD a :: as.map rD)) (.tuple (rD b :: bs.map rD)) = true ↔ _
    rw [lt_cons (alike_r a b), eqv_r]
    by_cases e : a = b
    · rw [if_pos (by simpa using e), ih]
      constructor
      · exact fun x => .inr ⟨e, x⟩
      · rintro (x | ⟨_, x⟩)
        · subst e
          exact absurd x fun y => by
            rcases y with y | ⟨_, y⟩
            · omega
            · rw [cmpL_self] at y
              cases y
        · exact x
    · rw [if_neg (by simpa using e), lt_r]
      constructor
      · exact .inl
      · rintro (x | ⟨x, _⟩)
        · exact x
        · exact absurd x e
theorem ltR_irr0 (r : Rw) : ¬ ltR r r := by
  rintro (y | ⟨_, y⟩)
  · omega
  · rw [cmpL_self] at y
    cases y
theorem ltRs_irr0 : ∀ l : List Rw, ¬ ltRs l l
  | [], h => h
  | r :: l, h => by
    rcases h with y | ⟨_, y⟩
    · exact ltR_irr0 r y
    · exact ltRs_irr0 l y
theorem ltRs_pre : ∀ (p : List Rw) {a b : List Rw}, ltRs (p ++ a) (p ++ b) ↔ ltRs a b
  | [], _, _ => .rfl
  | r :: p, a, b => by
    constructor
    · rintro (y | ⟨_, y⟩)
      · exact absurd y (ltR_irr0 r)
      · exact (ltRs_pre p).mp y
    · exact fun y => .inr ⟨rfl, (ltRs_pre p).mpr y⟩
theorem ltRs_split : ∀ {p q a b : List Rw}, p.length = q.length → ltRs (p ++ a) (q ++ b) → ltRs p q ∨ p = q
  | [], [], _, _, _, _ => .inr rfl
  | [], _ :: _, _, _, h, _ => by cases h
  | _ :: _, [], _, _, h, _ => by cases h
  | r :: p, s :: q, a, b, h, l => by
    rcases l with l | ⟨rfl, l⟩
    · exact .inl (.inl l)
    · rcases ltRs_split (p := p) (q := q) (by simpa using h) l with g | rfl
      · exact .inl (.inr ⟨rfl, g⟩)
      · exact .inr rfl
theorem alike_pages : ∀ a b : List (List Rw), alike (.tuple (a.map pageD)) (.tuple (b.map pageD)) = true
  | [], b => by
    rw [alike]
    show alikeAll [] (b.map pageD) = true
    rw [alikeAll]
  | a :: as, [] => by
    rw [alike]
    show alikeAll (pageD a :: as.map pageD) [] = true
    rw [alikeAll]
  | a :: as, b :: bs => by
    have ih := alike_pages as bs
    rw [alike] at ih
    rw [alike]
    show alikeAll (pageD a :: as.map pageD) (pageD b :: bs.map pageD) = true
    rw [alikeAll, ih]
    show (alike (.tuple (a.map rD)) (.tuple (b.map rD)) && true) = true
    rw [alike_rs]
    rfl
theorem eqv_pages : ∀ a b : List (List Rw), PyData.eqv (.tuple (a.map pageD)) (.tuple (b.map pageD)) = decide (a = b)
  | [], [] => by simp [PyData.eqv, PyData.eqvAll]
  | [], b :: bs => by simp [PyData.eqv, PyData.eqvAll]
  | a :: as, [] => by simp [PyData.eqv, PyData.eqvAll]
  | a :: as, b :: bs => by
    have ih := eqv_pages as bs
    rw [PyData.eqv] at ih
    rw [PyData.eqv]
    show PyData.eqvAll (pageD a :: as.map pageD) (pageD b :: bs.map pageD) = _
    rw [PyData.eqvAll, ih, show PyData.eqv (pageD a) (pageD b) = decide (a = b) from eqv_rs a b]
    by_cases h : a = b <;> by_cases g : as = bs <;> simp [h, g]
theorem lt_pages : ∀ a b : List (List Rw), a.length = b.length → (∀ q ∈ a, q.length = 50) → (∀ q ∈ b, q.length = 50) → (dataLt (.tuple (a.map pageD)) (.tuple (b.map pageD)) = true ↔ ltRs a.flatten b.flatten)
  | [], [], _, _, _ => by
    show dataLt (.tuple []) (.tuple []) = true ↔ _
    rw [lt_nil]
    constructor
    · intro x; cases x
    · intro x; exact x.elim
  | [], _ :: _, h, _, _ => by cases h
  | _ :: _, [], h, _, _ => by cases h
  | a :: as, b :: bs, h, ha, hb => by
    have ih := lt_pages as bs (by simpa using h) (fun q hq => ha q (List.mem_cons_of_mem _ hq)) (fun q hq => hb q (List.mem_cons_of_mem _ hq))
    have la : a.length = b.length := (ha a (List.mem_cons_self ..)).trans (hb b (List.mem_cons_self ..)).symm
    show dataLt (.tuple (pageD a :: as.map pageD)) (.tuple (pageD b :: bs.map pageD)) = true ↔ _
    rw [lt_cons (show alike (pageD a) (pageD b) = true from alike_rs a b), show PyData.eqv (pageD a) (pageD b) = decide (a = b) from eqv_rs a b, List.flatten_cons, List.flatten_cons]
    by_cases e : a = b
    · subst e
      rw [if_pos (by simp), ih, ltRs_pre]
    · rw [if_neg (by simpa using e)]
      refine (lt_rs a b la).trans ⟨fun x => ltRs_app _ _ x, fun x => ?_⟩
      exact (ltRs_split la x).resolve_right e
theorem lt_pg_eq {a b : List Rw} {xs ys : List PyData} (h : a = b) : dataLt (.tuple (.tuple ((pgs a).1.map pageD) :: .tuple ((pgs a).2.map rD) :: xs)) (.tuple (.tuple ((pgs b).1.map pageD) :: .tuple ((pgs b).2.map rD) :: ys)) = dataLt (.tuple xs) (.tuple ys) := by
  subst h
  rw [lt_cons (alike_pages _ _), eqv_pages, if_pos (by simp), lt_cons (alike_rs _ _), eqv_rs, if_pos (by simp)]
theorem lt_pg_ne {a b : List Rw} {xs ys : List PyData} (hl : a.length = b.length) (h : a ≠ b) : dataLt (.tuple (.tuple ((pgs a).1.map pageD) :: .tuple ((pgs a).2.map rD) :: xs)) (.tuple (.tuple ((pgs b).1.map pageD) :: .tuple ((pgs b).2.map rD) :: ys)) = true ↔ ltRs a b := by
  have ha := pgs_ok a
  have hb := pgs_ok b
  obtain ⟨l1, l2⟩ := pgs_len hl
  have e : ltRs a b ↔ ltRs ((pgs a).1.flatten ++ (pgs a).2) ((pgs b).1.flatten ++ (pgs b).2) := by rw [ha.fl, hb.fl]
  rw [e, lt_cons (alike_pages _ _), eqv_pages]
  by_cases h1 : (pgs a).1 = (pgs b).1
  · have h2 : (pgs a).2 ≠ (pgs b).2 := fun z => h (pgs_inj h1 z)
    rw [if_pos (by simpa using h1), lt_cons (alike_rs _ _), eqv_rs, if_neg (by simpa using h2), lt_rs _ _ l2, h1, ltRs_pre]
  · rw [if_neg (by simpa using h1), lt_pages _ _ l1 ha.full hb.full]
    have lf : (pgs a).1.flatten.length = (pgs b).1.flatten.length := by rw [full_len ha.full, full_len hb.full, l1]
    refine ⟨fun x => ltRs_app _ _ x, fun x => ?_⟩
    refine (ltRs_split lf x).resolve_right fun z => h1 ?_
    -- equal lines in pages of fifty: equal pages
    have inj : ∀ (p q : List (List Rw)), (∀ x ∈ p, x.length = 50) → (∀ x ∈ q, x.length = 50) → p.flatten = q.flatten → p = q := by
      intro p
      induction p with
      | nil =>
        intro q _ hq e
        cases q with
        | nil => rfl
        | cons x q =>
          have := congrArg List.length e
          rw [List.flatten_cons, List.length_append, hq x (List.mem_cons_self ..)] at this
          have h0 : (([] : List (List Rw)).flatten).length = 0 := rfl
          omega
      | cons y p ih =>
        intro q hp hq e
        cases q with
        | nil =>
          have := congrArg List.length e
          rw [List.flatten_cons, List.length_append, hp y (List.mem_cons_self ..)] at this
          have h0 : (([] : List (List Rw)).flatten).length = 0 := rfl
          omega
        | cons x q =>
          rw [List.flatten_cons, List.flatten_cons] at e
          obtain ⟨e1, e2⟩ := List.append_inj e ((hp y (List.mem_cons_self ..)).trans (hq x (List.mem_cons_self ..)).symm)
          rw [e1, ih q (fun u hu => hp u (List.mem_cons_of_mem _ hu)) (fun u hu => hq u (List.mem_cons_of_mem _ hu)) e2]
    exact inj _ _ ha.full hb.full z
/-- as many finished lines as the number says -/
def Num (a : St) : Prop := a.ln = (a.rs.length : Int) + 1
theorem alike_st (a b : St) : alike (toD a) (toD b) = true := by
  unfold toD
  rw [alike, alikeAll, alikeAll, alikeAll, alikeAll, alikeAll, alikeAll, alikeAll, alike_rs, alike_pages]
  rfl
theorem lt_st {a b : St} (ha : Num a) (hb : Num b) : dataLt (toD a) (toD b) = true ↔ LtA a b := by
  unfold toD
  rw [lt_cons rfl, eqv_int]
  by_cases h1 : a.ex = b.ex
  · rw [if_pos (by simpa using h1), lt_cons rfl, eqv_int]
    by_cases h2 : a.ln = b.ln
    · have hl : a.rs.length = b.rs.length := by
        unfold Num at ha hb
        omega
      rw [if_pos (by simpa using h2)]
      by_cases h3 : a.rs = b.rs
      · rw [lt_pg_eq h3, lt_cons rfl, eqv_int]
        by_cases h4 : a.ow = b.ow
        · rw [if_pos (by simpa using h4), lt_cons rfl, eqv_z]
          by_cases h5 : a.z = b.z
          · rw [if_pos (by simpa using h5), lt_nil]
            constructor
            · intro x; cases x
            · intro x
              cases x with
              | ex x => omega
              | ln _ x => omega
              | rs _ _ x =>
                rw [h3] at x
                exact absurd x (by
                  have irr : ∀ l : List Rw, ¬ ltRs l l := fun l => by
                    induction l with
                    | nil => exact id
                    | cons r l ih =>
                      rintro (y | ⟨_, y⟩)
                      · rcases y with y | ⟨_, y⟩
                        · omega
                        · rw [cmpL_self] at y
                          cases y
                      · exact ih y
                  exact irr _)
              | ow _ _ _ x => omega
              | z _ _ _ _ x =>
                rw [h5, cmpL_self] at x
                cases x
          · rw [if_neg (by simpa using h5), lt_z]
            constructor
            · exact fun x => .z h1 h2 h3 h4 x
            · intro x
              cases x with
              | ex x => omega
              | ln _ x => omega
              | rs _ _ x =>
                have q := (lt_rs a.rs b.rs hl).mpr x
                have irr : ∀ l : List Rw, ¬ ltRs l l := fun l => by
                  induction l with
                  | nil => exact id
                  | cons r l ih =>
                    rintro (y | ⟨_, y⟩)
                    · rcases y with y | ⟨_, y⟩
                      · omega
                      · rw [cmpL_self] at y
                        cases y
                    · exact ih y
                rw [h3] at x
                exact absurd x (irr _)
              | ow _ _ _ x => omega
              | z _ _ _ _ x => exact x
        · rw [if_neg (by simpa using h4), dataLt_int, decide_eq_true_eq]
          constructor
          · exact fun x => .ow h1 h2 h3 x
          · intro x
            cases x with
            | ex x => omega
            | ln _ x => omega
            | rs _ _ x =>
              have irr : ∀ l : List Rw, ¬ ltRs l l := fun l => by
                induction l with
                | nil => exact id
                | cons r l ih =>
                  rintro (y | ⟨_, y⟩)
                  · rcases y with y | ⟨_, y⟩
                    · omega
                    · rw [cmpL_self] at y
                      cases y
                  · exact ih y
              rw [h3] at x
              exact absurd x (irr _)
            | ow _ _ _ x => exact x
            | z _ _ _ x _ => exact absurd x h4
      · rw [lt_pg_ne hl h3]
        constructor
        · exact fun x => .rs h1 h2 x
        · intro x
          cases x with
          | ex x => omega
          | ln _ x => omega
          | rs _ _ x => exact x
          | ow _ _ x _ => exact absurd x h3
          | z _ _ x _ _ => exact absurd x h3
    · rw [if_neg (by simpa using h2), dataLt_int, decide_eq_true_eq]
      constructor
      · exact fun x => .ln h1 x
      · intro x
        cases x with
        | ex x => omega
        | ln _ x => exact x
        | rs _ x _ => exact absurd x h2
        | ow _ x _ _ => exact absurd x h2
        | z _ x _ _ _ => exact absurd x h2
  · rw [if_neg (by simpa using h1), dataLt_int, decide_eq_true_eq]
    constructor
    · exact .ex
    · intro x
      cases x with
      | ex x => exact x
      | ln x _ => exact absurd x h1
      | rs x _ _ => exact absurd x h1
      | ow x _ _ _ => exact absurd x h1
      | z x _ _ _ _ => exact absurd x h1
end M32

namespace M32
open PySem K33 PySem.W
theorem cmpL_total : ∀ a b : List Nat, cmpL a b = .lt ∨ a = b ∨ cmpL b a = .lt
  | [], [] => .inr (.inl rfl)
  | [], _ :: _ => .inl rfl
  | _ :: _, [] => .inr (.inr rfl)
  | a :: as, b :: bs => by
    unfold cmpL
    by_cases h : a < b
    · exact .inl (if_pos h)
    · by_cases g : b < a
      · exact .inr (.inr (if_pos g))
      · obtain rfl : a = b := by omega
        rw [if_neg h, if_neg h]
        rcases cmpL_total as bs with x | rfl | x
        · exact .inl x
        · exact .inr (.inl rfl)
        · exact .inr (.inr (by rw [if_neg h, if_neg h]; exact x))
theorem ltR_total (a b : Rw) : ltR a b ∨ a = b ∨ ltR b a := by
  obtain ⟨a1, a2⟩ := a
  obtain ⟨b1, b2⟩ := b
  by_cases h : a1 < b1
  · exact .inl (.inl h)
  · by_cases g : b1 < a1
    · exact .inr (.inr (.inl g))
    · obtain rfl : a1 = b1 := by omega
      rcases cmpL_total a2 b2 with x | rfl | x
      · exact .inl (.inr ⟨rfl, x⟩)
      · exact .inr (.inl rfl)
      · exact .inr (.inr (.inr ⟨rfl, x⟩))
theorem ltRs_total : ∀ a b : List Rw, a.length = b.length → ltRs a b ∨ a = b ∨ ltRs b a
  | [], [], _ => .inr (.inl rfl)
  | [], _ :: _, h => by cases h
  | _ :: _, [], h => by cases h
  | a :: as, b :: bs, h => by
    rcases ltR_total a b with x | rfl | x
    · exact .inl (.inl x)
    · rcases ltRs_total as bs (by simpa using h) with x | rfl | x
      · exact .inl (.inr ⟨rfl, x⟩)
      · exact .inr (.inl rfl)
      · exact .inr (.inr (.inr ⟨rfl, x⟩))
    · exact .inr (.inr (.inl x))
theorem LtA.total {a b : St} (ha : Num a) (hb : Num b) : LtA a b ∨ a = b ∨ LtA b a := by
  by_cases h1 : a.ex < b.ex
  · exact .inl (.ex h1)
  by_cases g1 : b.ex < a.ex
  · exact .inr (.inr (.ex g1))
  have e1 : a.ex = b.ex := by omega
  by_cases h2 : a.ln < b.ln
  · exact .inl (.ln e1 h2)
  by_cases g2 : b.ln < a.ln
  · exact .inr (.inr (.ln e1.symm g2))
  have e2 : a.ln = b.ln := by omega
  have hl : a.rs.length = b.rs.length := by
    unfold Num at ha hb
    omega
  rcases ltRs_total a.rs b.rs hl with x | e3 | x
  · exact .inl (.rs e1 e2 x)
  · by_cases h4 : a.ow < b.ow
    · exact .inl (.ow e1 e2 e3 h4)
    by_cases g4 : b.ow < a.ow
    · exact .inr (.inr (.ow e1.symm e2.symm e3.symm g4))
    have e4 : a.ow = b.ow := by omega
    rcases cmpL_total a.z b.z with x | e5 | x
    · exact .inl (.z e1 e2 e3 e4 x)
    · cases a
      cases b
      simp only at e1 e2 e3 e4 e5
      subst e1 e2 e3 e4 e5
      exact .inr (.inl rfl)
    · exact .inr (.inr (.z e1.symm e2.symm e3.symm e4.symm x))
  · exact .inr (.inr (.rs e1.symm e2.symm x))
/-- what is not less is not worse -/
theorem le_of_not {a b : St} (ha : Num a) (hb : Num b) (h : dataLt (toD a) (toD b) = false) : LeA b a := by
  rcases LtA.total ha hb with x | rfl | x
  · rw [(lt_st ha hb).mpr x] at h
    cases h
  · exact .inl rfl
  · exact .inr x
theorem le_of_lt {a b : St} (ha : Num a) (hb : Num b) (h : dataLt (toD a) (toD b) = true) : LeA a b := .inr ((lt_st ha hb).mp h)
theorem Num.write {W c : Int} {w : List Nat} {a : St} (h : Num a) : Num (write W c w a) := h
theorem Num.brk {W left st : Int} {a : St} (h : Num a) : Num (brk W left st a) := by
  unfold Num at h ⊢
  show a.ln + 1 = ((a.rs ++ [(a.ow, a.z)]).length : Int) + 1
  rw [List.length_append, h]
  rfl
/-- min of the states is one of them, and not worse than any -/
theorem min_st : ∀ (xs : List St) (x : St), (∀ y ∈ x :: xs, Num y) → ∃ m ∈ x :: xs, minD (toD x) (xs.map toD) = toD m ∧ ∀ y ∈ x :: xs, LeA m y
  | [], x, _ => ⟨x, List.mem_cons_self .., rfl, fun y hy => by
    rw [List.mem_singleton.mp hy]
    exact .inl rfl⟩
  | y :: ys, x, h => by
    have hx := h x (List.mem_cons_self ..)
    have hy := h y (List.mem_cons_of_mem _ (List.mem_cons_self ..))
    have e : minD (toD x) ((y :: ys).map toD) = minD (if dataLt (toD y) (toD x) then toD y else toD x) (ys.map toD) := rfl
    by_cases c : dataLt (toD y) (toD x) = true
    · obtain ⟨m, hm, em, lm⟩ := min_st ys y fun z hz => h z (List.mem_cons_of_mem _ hz)
      refine ⟨m, List.mem_cons_of_mem _ hm, by rw [e, if_pos c, em], fun z hz => ?_⟩
      rcases List.mem_cons.mp hz with rfl | hz
      · exact (lm y (List.mem_cons_self ..)).trans (le_of_lt hy hx c)
      · exact lm z hz
    · obtain ⟨m, hm, em, lm⟩ := min_st ys x fun z hz => by
        rcases List.mem_cons.mp hz with rfl | hz
        · exact hx
        · exact h z (List.mem_cons_of_mem _ (List.mem_cons_of_mem _ hz))
      refine ⟨m, ?_, by rw [e, if_neg c, em], fun z hz => ?_⟩
      · rcases List.mem_cons.mp hm with rfl | hm
        · exact List.mem_cons_self ..
        · exact List.mem_cons_of_mem _ (List.mem_cons_of_mem _ hm)
      · rcases List.mem_cons.mp hz with rfl | hz
        · exact lm z (List.mem_cons_self ..)
        · rcases List.mem_cons.mp hz with rfl | hz
          · exact (lm x (List.mem_cons_self ..)).trans (le_of_not hy hx (by simpa using c))
          · exact lm z (List.mem_cons_of_mem _ hz)
end M32

namespace M32
open PySem K33 PySem.W
/-! ### words with gaps between them -/
abbrev Gaps := List (Option (List Nat) × List Nat)
section
variable (W left st : Int)
/-- a grouped break: broken, or flat, if it can be -/
def gapP (f : Option (List Nat)) (L : At → Prop) : At → Prop := fun x => bSet W left st L x ∨ ∃ g, f = some g ∧ wSet W g L x
def seqP : List Nat → Gaps → (At → Prop) → At → Prop
  | w, [], L => wSet W w L
  | w, (f, u) :: r, L => seqP u r (gapP W left st f (wSet W w L))
/-- the lines of all ways: of the line that is begun, with its indent and its string so far -/
def RF : Int → List Nat → List Nat → Gaps → List (List Rw)
  | ow, z, w, [] => [[(ow, z ++ w)]]
  | ow, z, w, (f, u) :: r => (RF st [] u r).map ((ow, z ++ w) :: ·) ++ (match f with | none => [] | some g => RF ow (z ++ w ++ g) u r)
end
section
variable {W left st : Int}
theorem seqP_app : ∀ (r : Gaps) (w : List Nat) (f : Option (List Nat)) (u : List Nat) (q : Gaps) (L : At → Prop), seqP W left st w (r ++ (f, u) :: q) L = seqP W left st u q (gapP W left st f (seqP W left st w r L))
  | [], _, _, _, _, _ => rfl
  | (_, u') :: r, _, f, u, q, _ => seqP_app r u' f u q _
/-- a state's lines, with the one that is begun -/
def all (s : St) : List Rw := s.rs ++ [(s.ow, s.z)]
theorem seqP_out : ∀ (r : Gaps) (w : List Nat) {L : At → Prop} {x : At}, seqP W left st w r L x → ∃ y, L y ∧ ∃ q ∈ RF st y.2.ow y.2.z w r, all x.2 = y.2.rs ++ q
  | [], w, L, x, ⟨y, hy, e⟩ => by
    subst e
    exact ⟨y, hy, [(y.2.ow, y.2.z ++ w)], List.mem_singleton.mpr rfl, rfl⟩
  | (f, u) :: r, w, L, x, h => by
    obtain ⟨y, hy, q, hq, e⟩ := seqP_out r u h
    rcases hy with ⟨y1, ⟨y0, h0, e0⟩, e1⟩ | ⟨g, rfl, ⟨y1, ⟨y0, h0, e0⟩, e1⟩⟩
    · subst e1 e0
      refine ⟨y0, h0, (y0.2.ow, y0.2.z ++ w) :: q, List.mem_append_left _ (List.mem_map.mpr ⟨q, hq, rfl⟩), ?_⟩
      rw [e]
      show (y0.2.rs ++ [(y0.2.ow, y0.2.z ++ w)]) ++ q = _
      rw [List.append_assoc]
      rfl
    · subst e1 e0
      exact ⟨y0, h0, q, List.mem_append_right _ hq, e⟩
theorem seqP_in : ∀ (r : Gaps) (w : List Nat) {L : At → Prop} {y : At} {q : List Rw}, L y → q ∈ RF st y.2.ow y.2.z w r → ∃ x, seqP W left st w r L x ∧ all x.2 = y.2.rs ++ q
  | [], w, L, y, q, hy, hq => by
    obtain rfl : q = [(y.2.ow, y.2.z ++ w)] := List.mem_singleton.mp hq
    exact ⟨_, ⟨y, hy, rfl⟩, rfl⟩
  | (f, u) :: r, w, L, y, q, hy, hq => by
    rcases List.mem_append.mp hq with hq | hq
    · obtain ⟨q', hq', rfl⟩ := List.mem_map.mp hq
      obtain ⟨x, hx, e⟩ := seqP_in r u (L := gapP W left st f (wSet W w L)) (y := (min (left + st) W, brk W left st (write W y.1 w y.2))) (q := q') (.inl ⟨_, ⟨y, hy, rfl⟩, rfl⟩) hq'
      refine ⟨x, hx, ?_⟩
      rw [e]
      show (y.2.rs ++ [(y.2.ow, y.2.z ++ w)]) ++ q' = _
      rw [List.append_assoc]
      rfl
    · cases f with
      | none => cases hq
      | some g =>
        obtain ⟨x, hx, e⟩ := seqP_in r u (L := gapP W left st (some g) (wSet W w L)) (y := (wCol W (wCol W y.1 w) g, write W (wCol W y.1 w) g (write W y.1 w y.2))) (q := q) (.inr ⟨g, rfl, ⟨_, ⟨y, hy, rfl⟩, rfl⟩⟩) hq
        exact ⟨x, hx, e⟩
end
/-! ### what lines are worth -/
/-- of finished lines: excess, number, the lines -/
abbrev T := Int × Int × List Rw
def ltT (a b : T) : Prop := a.1 < b.1 ∨ (a.1 = b.1 ∧ (a.2.1 < b.2.1 ∨ (a.2.1 = b.2.1 ∧ ltRs a.2.2 b.2.2)))
def leT (a b : T) : Prop := a = b ∨ ltT a b
theorem ltT.trans {a b c : T} (h : ltT a b) (g : ltT b c) : ltT a c := by
  rcases h with h | ⟨h1, h | ⟨h2, h⟩⟩ <;> rcases g with g | ⟨g1, g | ⟨g2, g⟩⟩
  · exact .inl (by omega)
  · exact .inl (by omega)
  · exact .inl (by omega)
  · exact .inl (by omega)
  · exact .inr ⟨by omega, .inl (by omega)⟩
  · exact .inr ⟨by omega, .inl (by omega)⟩
  · exact .inl (by omega)
  · exact .inr ⟨by omega, .inl (by omega)⟩
  · exact .inr ⟨by omega, .inr ⟨by omega, ltRs_trans h g⟩⟩
theorem leT.trans {a b c : T} (h : leT a b) (g : leT b c) : leT a c := by
  rcases h with rfl | h
  · exact g
  · rcases g with rfl | g
    · exact .inr h
    · exact .inr (h.trans g)
section
variable {W left : Int}
/-- lines whose first begins at the column c -/
def val (W left c : Int) (r : List Rw) : T := (overs W c left r, (r.length : Int), r)
/-- lines behind a first one -/
def sums (W left : Int) (r : List Rw) : T := ((r.map fun r => over W (left + r.1 + r.2.length)).sum, (r.length : Int), r)
theorem sums_val {st : Int} {r : List Rw} (h : ∀ q, r.head? = some q → q.1 = st) : sums W left r = val W left (left + st) r := by
  cases r with
  | nil => rfl
  | cons q r =>
    have := h q rfl
    unfold sums val overs
    rw [List.map_cons, List.sum_cons, this]
theorem val_cons {c : Int} {h : Rw} {r : List Rw} : val W left c (h :: r) = (over W (c + h.2.length) + (sums W left r).1, 1 + (sums W left r).2.1, h :: (sums W left r).2.2) := by
  unfold val sums overs
  rw [List.length_cons]
  refine Prod.ext rfl (Prod.ext ?_ rfl)
  show ((r.length + 1 : Nat) : Int) = 1 + (r.length : Int)
  omega
/-- the least rest makes the least whole -/
theorem cons_le {c : Int} {h : Rw} {r q : List Rw} (l : leT (sums W left r) (sums W left q)) : leT (val W left c (h :: r)) (val W left c (h :: q)) := by
  rw [val_cons, val_cons]
  rcases l with e | l
  · left
    rw [e]
  · right
    rcases l with l | ⟨l1, l | ⟨l2, l⟩⟩
    · exact .inl (by show _ + _ < _ + _; omega)
    · exact .inr ⟨by show _ + _ = _ + _; omega, .inl (by show _ + _ < _ + _; omega)⟩
    · exact .inr ⟨by show _ + _ = _ + _; omega, .inr ⟨by show _ + _ = _ + _; omega, .inr ⟨rfl, l⟩⟩⟩
theorem RF_head {st : Int} : ∀ (r : Gaps) (ow : Int) (z w : List Nat), ∀ q ∈ RF st ow z w r, ∃ h t, q = h :: t ∧ h.1 = ow
  | [], ow, z, w, q, hq => ⟨_, _, List.mem_singleton.mp hq, rfl⟩
  | (f, u) :: r, ow, z, w, q, hq => by
    rcases List.mem_append.mp hq with hq | hq
    · obtain ⟨q', _, rfl⟩ := List.mem_map.mp hq
      exact ⟨_, _, rfl, rfl⟩
    · cases f with
      | none => cases hq
      | some g => exact RF_head r ow _ u q hq
/-- the last line of a state decides as the lines do -/
theorem le_all {col : Int} {a b : St} {ca cb : Int} (va : Val W col left ca a) (vb : Val W col left cb b) (na : Num a) (nb : Num b) (h : LeA a b) : leT (val W left col (all a)) (val W left col (all b)) := by
  have ea : ∀ {c : Int} {s : St}, Val W col left c s → overs W col left (all s) = s.ex := fun {c s} ⟨cu, h1, _, h3⟩ => by
    unfold all
    rw [overs_app, h3, h1]
  have la : ∀ {s : St}, Num s → ((all s).length : Int) = s.ln := fun {s} n => by
    unfold Num at n
    unfold all
    rw [List.length_append, n]
    rfl
  rcases h with rfl | h
  · exact .inl rfl
  · right
    show overs W col left (all a) < overs W col left (all b) ∨ (overs W col left (all a) = overs W col left (all b) ∧ (((all a).length : Int) < ((all b).length : Int) ∨ (((all a).length : Int) = ((all b).length : Int) ∧ ltRs (all a) (all b))))
    rw [ea va, ea vb, la na, la nb]
    cases h with
    | ex h => exact .inl h
    | ln h1 h2 => exact .inr ⟨h1, .inl h2⟩
    | rs h1 h2 h3 => exact .inr ⟨h1, .inr ⟨h2, ltRs_app _ _ h3⟩⟩
    | ow h1 h2 h3 h4 =>
      refine .inr ⟨h1, .inr ⟨h2, ?_⟩⟩
      unfold all
      rw [h3]
      exact ltRs_last _ (.inl h4)
    | z h1 h2 h3 h4 h5 =>
      refine .inr ⟨h1, .inr ⟨h2, ?_⟩⟩
      unfold all
      rw [h3]
      exact ltRs_last _ (.inr ⟨h4, h5⟩)
end
end M32

namespace M32
open PySem K33 PySem.W
section
variable {W left : Int}
/-- what writing and breaking keep, all ways keep -/
theorem pth_all {P : At → Prop} (hw : ∀ w y, P y → P (wCol W y.1 w, write W y.1 w y.2)) (hb : ∀ st y, P y → P (min (left + st) W, brk W left st y.2)) : ∀ (t : Nd) (f : Bool) (st : Int) {L : At → Prop}, (∀ x, L x → P x) → ∀ x, pth W left t f st L x → P x
  | .txt w, f, st, L, h => fun x hx => by
    obtain ⟨y, hy, rfl⟩ := hx
    exact hw _ y (h y hy)
  | .brk (some w), true, st, L, h => fun x hx => by
    obtain ⟨y, hy, rfl⟩ := hx
    exact hw _ y (h y hy)
  | .brk none, true, st, L, h => fun x hx => hx.elim
  | .brk (some w), false, st, L, h => fun x hx => by
    obtain ⟨y, hy, rfl⟩ := hx
    exact hb st y (h y hy)
  | .brk none, false, st, L, h => fun x hx => by
    obtain ⟨y, hy, rfl⟩ := hx
    exact hb st y (h y hy)
  | .hol _, f, st, L, h => fun x hx => hx.elim
  | .jn a b, f, st, L, h => pth_all hw hb b f st (pth_all hw hb a f st h)
  | .ch a b, f, st, L, h => fun x hx => hx.elim (pth_all hw hb a f st h x) (pth_all hw hb b f st h x)
  | .ne k a, f, st, L, h => pth_all hw hb a f (st + k) h
  | .gr a, true, st, L, h => pth_all hw hb a true st h
  | .gr a, false, st, L, h => fun x hx => hx.elim (pth_all hw hb a false st h x) (pth_all hw hb a true st h x)
  | .fl a, f, st, L, h => pth_all hw hb a true st h
/-- the state ahead of a document -/
def ini (W col : Int) : At → Prop := fun x => x = (min col W, ⟨max 0 (col - W), 1, [], 0, []⟩)
theorem ini_val {col : Int} : AllVal W col left (ini W col) := fun x h => by
  subst h
  refine ⟨col, ?_, rfl, ?_⟩
  · show col = (if ([] : List Rw) = [] then col else left + 0) + ((0 : Nat) : Int)
    simp
  · show max 0 (col - W) = 0 + max 0 (col - W)
    omega
theorem pth_num {col : Int} (t : Nd) (f : Bool) (st : Int) : ∀ x, pth W left t f st (ini W col) x → Num x.2 :=
  pth_all (P := fun x => Num x.2) (fun w y h => h.write) (fun st y h => h.brk) t f st fun x h => by
    subst h
    rfl
theorem pth_val {col : Int} (t : Nd) (f : Bool) (st : Int) : AllVal W col left (pth W left t f st (ini W col)) := AllVal.pth t f st ini_val
/-! ### a document of words -/
/-- the flat string of a gap -/
def gapS : Option Str → Option (List Nat)
  | none => none
  | some s => some s.cps.toList
inductive Built : Nd → List Nat → Gaps → Prop
  | one {s : Str} : Built (.txt s) s.cps.toList []
  | right {a b : Nd} {f : Option Str} {w u : List Nat} {r q : Gaps} : Built a w r → Built b u q → Built (.jn a (.jn (.gr (.brk f)) b)) w (r ++ (gapS f, u) :: q)
  | left {a b : Nd} {f : Option Str} {w u : List Nat} {r q : Gaps} : Built a w r → Built b u q → Built (.jn (.jn a (.gr (.brk f))) b) w (r ++ (gapS f, u) :: q)
theorem gap_pth {f : Option Str} {st : Int} {L : At → Prop} : ∀ x, pth W left (.gr (.brk f)) false st L x ↔ gapP W left st (gapS f) L x := fun x => by
  cases f with
  | none =>
    constructor
    · rintro (h | h)
      · exact .inl h
      · exact h.elim
    · rintro (h | ⟨g, e, _⟩)
      · exact .inl h
      · cases e
  | some s =>
    constructor
    · rintro (h | h)
      · exact .inl h
      · exact .inr ⟨_, rfl, h⟩
    · rintro (h | ⟨g, e, h⟩)
      · exact .inl h
      · cases e
        exact .inr h
theorem Built.pth : ∀ {t : Nd} {w : List Nat} {r : Gaps}, Built t w r → ∀ (st : Int) (L : At → Prop), pth W left t false st L = seqP W left st w r L
  | _, _, _, .one, st, L => rfl
  | _, _, _, .right ha hb, st, L => by
    have e : ∀ f : Option Str, ∀ L', M32.pth W left (.gr (.brk f)) false st L' = gapP W left st (gapS f) L' := fun f L' => funext fun x => propext (gap_pth x)
    rw [seqP_app, ← ha.pth st L, ← e, ← hb.pth st]
    rfl
  | _, _, _, .left ha hb, st, L => by
    have e : ∀ f : Option Str, ∀ L', M32.pth W left (.gr (.brk f)) false st L' = gapP W left st (gapS f) L' := fun f L' => funext fun x => propext (gap_pth x)
    rw [seqP_app, ← ha.pth st L, ← e, ← hb.pth st]
    rfl
/-- all in one line, where each gap has a flat string -/
def flatS : List Nat → Gaps → Option (List Nat)
  | w, [] => some w
  | w, (none, _) :: _ => none
  | w, (some g, u) :: r => (flatS u r).map fun z => w ++ g ++ z
/-- what the search of a document of words comes to: lines of a way, of the least worth -/
theorem best_least {t : Nd} {w : List Nat} {r : Gaps} {st col : Int} (h : Built t w r) {S : At → Prop} {m : At} (c : Cov S (pth W left (.ne st t) false 0 (ini W col))) (hm : S m) (hl : ∀ x, S x → LeA m.2 x.2) :
    all m.2 ∈ RF st 0 [] w r ∧ ∀ q ∈ RF st 0 [] w r, leT (val W left col (all m.2)) (val W left col q) := by
  obtain ⟨lm, ll⟩ := c.end_ hm hl
  have e : M32.pth W left (.ne st t) false 0 (ini W col) = seqP W left (0 + st) w r (ini W col) := h.pth (0 + st) _
  have z : (0 : Int) + st = st := Int.zero_add st
  rw [z] at e
  refine ⟨?_, fun q hq => ?_⟩
  · rw [e] at lm
    obtain ⟨y, hy, q, hq, eq⟩ := seqP_out r w lm
    subst hy
    rw [eq]
    exact hq
  · obtain ⟨x, hx, eq⟩ := seqP_in (W := W) (left := left) (st := st) r w (L := ini W col) (y := (min col W, ⟨max 0 (col - W), 1, [], 0, []⟩)) (q := q) rfl hq
    have eq' : all x.2 = q := eq
    rw [← e] at hx
    rw [← eq']
    exact le_all (pth_val _ _ _ m lm) (pth_val _ _ _ x hx) (pth_num _ _ _ m lm) (pth_num _ _ _ x hx) (ll x hx)
end
end M32

namespace M32
open PySem K33 PySem.W
/-! ### flat, in one line -/
section
variable {W left : Int}
theorem write_two {c : Int} {u v : List Nat} {a : St} : write W (wCol W c u) v (write W c u a) = write W c (u ++ v) a ∧ wCol W (wCol W c u) v = wCol W c (u ++ v) := by
  have l : ((u ++ v).length : Int) = u.length + v.length := by
    rw [List.length_append]
    exact Int.natCast_add _ _
  constructor
  · unfold write wCol
    rw [l]
    simp only [List.append_assoc, St.mk.injEq, and_true, true_and]
    omega
  · unfold wCol
    rw [l]
    omega
theorem wSet_two {u v : List Nat} {L : At → Prop} : wSet W v (wSet W u L) = wSet W (u ++ v) L := funext fun x => propext ⟨by
  rintro ⟨y, ⟨z, hz, rfl⟩, rfl⟩
  exact ⟨z, hz, Prod.ext (write_two (a := z.2)).2 write_two.1⟩, by
  rintro ⟨z, hz, rfl⟩
  exact ⟨_, ⟨z, hz, rfl⟩, Prod.ext (write_two (a := z.2)).2.symm write_two.1.symm⟩⟩
theorem flatS_app : ∀ (r : Gaps) (w : List Nat) (f : Option (List Nat)) (u : List Nat) (q : Gaps), flatS w (r ++ (f, u) :: q) = (flatS w r).bind fun a => f.bind fun g => (flatS u q).map fun b => a ++ g ++ b
  | [], w, none, u, q => rfl
  | [], w, some g, u, q => rfl
  | (none, u') :: r, w, f, u, q => rfl
  | (some g', u') :: r, w, f, u, q => by
    show (flatS u' (r ++ (f, u) :: q)).map _ = ((flatS u' r).map _).bind _
    rw [flatS_app r u' f u q]
    cases flatS u' r with
    | none => rfl
    | some a =>
      cases f with
      | none => rfl
      | some g =>
        cases flatS u q with
        | none => rfl
        | some b => simp [List.append_assoc]
theorem gap_flat {f : Option Str} {st : Int} {L : At → Prop} : ∀ x, pth W left (.gr (.brk f)) true st L x ↔ ∃ g, gapS f = some g ∧ wSet W g L x := fun x => by
  cases f with
  | none =>
    constructor
    · intro h
      exact h.elim
    · rintro ⟨g, e, _⟩
      cases e
  | some s =>
    constructor
    · intro h
      exact ⟨_, rfl, h⟩
    · rintro ⟨g, e, h⟩
      cases e
      exact h
theorem flat_mid {a b : List Nat × Gaps} {f : Option (List Nat)} {L : At → Prop} (x : At) :
    (∃ z, flatS b.1 b.2 = some z ∧ wSet W z (fun x => ∃ g, f = some g ∧ wSet W g (fun x => ∃ z, flatS a.1 a.2 = some z ∧ wSet W z L x) x) x) ↔ ∃ z, flatS a.1 (a.2 ++ (f, b.1) :: b.2) = some z ∧ wSet W z L x := by
  rw [flatS_app]
  cases ea : flatS a.1 a.2 with
  | none =>
    constructor
    · rintro ⟨z, _, y, ⟨g, _, y', ⟨z', e, _⟩, _⟩, _⟩
      cases e
    · rintro ⟨z, e, _⟩
      cases e
  | some u =>
    cases f with
    | none =>
      constructor
      · rintro ⟨z, _, y, ⟨g, e, _⟩, _⟩
        cases e
      · rintro ⟨z, e, _⟩
        cases e
    | some g =>
      cases eb : flatS b.1 b.2 with
      | none =>
        constructor
        · rintro ⟨z, e, _⟩
          cases e
        · rintro ⟨z, e, _⟩
          cases e
      | some v =>
        constructor
        · rintro ⟨z, e, y, ⟨g', e', y', ⟨z', e2, h⟩, r'⟩, r⟩
          cases e
          cases e'
          cases e2
          refine ⟨_, rfl, ?_⟩
          rw [← wSet_two, ← wSet_two]
          exact ⟨y, ⟨y', h, r'⟩, r⟩
        · rintro ⟨z, e, h⟩
          cases e
          rw [← wSet_two, ← wSet_two] at h
          obtain ⟨y, ⟨y', h, r'⟩, r⟩ := h
          exact ⟨v, rfl, y, ⟨g, rfl, y', ⟨u, rfl, h⟩, r'⟩, r⟩
theorem built_flat : ∀ {t : Nd} {w : List Nat} {r : Gaps}, Built t w r → ∀ (st : Int) (L : At → Prop), pth W left t true st L = fun x => ∃ z, flatS w r = some z ∧ wSet W z L x
  | _, _, _, .one, st, L => funext fun x => propext ⟨fun h => ⟨_, rfl, h⟩, fun ⟨z, e, h⟩ => by
    cases e
    exact h⟩
  | _, _, _, .right (a := a) (b := b) (f := f) (w := w) (u := u) (r := r) (q := q) ha hb, st, L => by
    have e : ∀ L', M32.pth W left (.gr (.brk f)) true st L' = fun x => ∃ g, gapS f = some g ∧ wSet W g L' x := fun L' => funext fun x => propext (gap_flat x)
    show M32.pth W left b true st (M32.pth W left (.gr (.brk f)) true st (M32.pth W left a true st L)) = _
    rw [built_flat hb st, e, built_flat ha st]
    exact funext fun x => propext (flat_mid (a := (w, r)) (b := (u, q)) x)
  | _, _, _, .left (a := a) (b := b) (f := f) (w := w) (u := u) (r := r) (q := q) ha hb, st, L => by
    have e : ∀ L', M32.pth W left (.gr (.brk f)) true st L' = fun x => ∃ g, gapS f = some g ∧ wSet W g L' x := fun L' => funext fun x => propext (gap_flat x)
    show M32.pth W left b true st (M32.pth W left (.gr (.brk f)) true st (M32.pth W left a true st L)) = _
    rw [built_flat hb st, e, built_flat ha st]
    exact funext fun x => propext (flat_mid (a := (w, r)) (b := (u, q)) x)
end
/-! ### from the last word on -/
section
variable {W left st : Int}
/-- the law's choices: the line that is begun ends behind this word, or behind a later one -/
def CH (F : List Nat → Gaps → List Rw) : Int → List Nat → List Nat → Gaps → List (List Rw)
  | ow, z, w, [] => [[(ow, z ++ w)]]
  | ow, z, w, (f, u) :: r => ((ow, z ++ w) :: F u r) :: (match f with | none => [] | some g => CH F ow (z ++ w ++ g) u r)
/-- R is the least of the lines from here on -/
def IsL (W left st c ow : Int) (z w : List Nat) (r : Gaps) (R : List Rw) : Prop := R ∈ RF st ow z w r ∧ ∀ q ∈ RF st ow z w r, leT (val W left c R) (val W left c q)
theorem sums_RF {u : List Nat} {r : Gaps} {q : List Rw} (h : q ∈ RF st st [] u r) : sums W left q = val W left (left + st) q := sums_val fun x e => by
  obtain ⟨y, t, rfl, hy⟩ := RF_head r st [] u q h
  cases e
  exact hy
theorem CH_cov {F : List Nat → Gaps → List Rw} {c : Int} : ∀ (r : Gaps) (ow : Int) (z w : List Nat), (∀ u q p, r = p ++ q → ∀ f s, q = (f, u) :: s → IsL W left st (left + st) st [] u s (F u s)) →
    (∀ R ∈ CH F ow z w r, R ∈ RF st ow z w r) ∧ ∀ q ∈ RF st ow z w r, ∃ R ∈ CH F ow z w r, leT (val W left c R) (val W left c q)
  | [], ow, z, w, _ => ⟨fun R h => h, fun q h => ⟨q, h, .inl rfl⟩⟩
  | (f, u) :: r, ow, z, w, hF => by
    have h0 := hF u ((f, u) :: r) [] rfl f r rfl
    have ih := fun ow' z' => CH_cov (c := c) r ow' z' u fun u' q p e f' s e' => hF u' q ((f, u) :: p) (by rw [e]; rfl) f' s e'
    constructor
    · intro R h
      rcases List.mem_cons.mp h with rfl | h
      · exact List.mem_append_left _ (List.mem_map.mpr ⟨_, h0.1, rfl⟩)
      · refine List.mem_append_right _ ?_
        cases f with
        | none => cases h
        | some g => exact (ih ow (z ++ w ++ g)).1 R h
    · intro q hq
      rcases List.mem_append.mp hq with hq | hq
      · obtain ⟨q', hq', rfl⟩ := List.mem_map.mp hq
        refine ⟨_, List.mem_cons_self .., cons_le ?_⟩
        rw [sums_RF h0.1, sums_RF hq']
        exact h0.2 q' hq'
      · cases f with
        | none => cases hq
        | some g =>
          obtain ⟨R, hR, l⟩ := (ih ow (z ++ w ++ g)).2 q hq
          exact ⟨R, List.mem_cons_of_mem _ hR, l⟩
/-- the least of the choices is the least of all -/
theorem CH_least {F : List Nat → Gaps → List Rw} {c ow : Int} {z w : List Nat} {r : Gaps} {R : List Rw} (hF : ∀ u q p, r = p ++ q → ∀ f s, q = (f, u) :: s → IsL W left st (left + st) st [] u s (F u s)) (hR : R ∈ CH F ow z w r)
    (hl : ∀ q ∈ CH F ow z w r, leT (val W left c R) (val W left c q)) : IsL W left st c ow z w r R := by
  obtain ⟨h1, h2⟩ := CH_cov (W := W) (left := left) (c := c) r ow z w hF
  refine ⟨h1 R hR, fun q hq => ?_⟩
  obtain ⟨R', hR', l⟩ := h2 q hq
  exact (hl R' hR').trans l
theorem ltR_irr (r : Rw) : ¬ ltR r r := fun y => by
  rcases y with y | ⟨_, y⟩
  · omega
  · rw [cmpL_self] at y
    cases y
theorem ltRs_irr : ∀ l : List Rw, ¬ ltRs l l
  | [] => id
  | r :: l => by
    rintro (y | ⟨_, y⟩)
    · exact ltR_irr r y
    · exact ltRs_irr l y
theorem ltT_irr (a : T) : ¬ ltT a a := fun y => by
  rcases y with y | ⟨_, y | ⟨_, y⟩⟩
  · omega
  · omega
  · exact ltRs_irr _ y
/-- there is one least only -/
theorem IsL.one {c ow : Int} {z w : List Nat} {r : Gaps} {R S : List Rw} (h : IsL W left st c ow z w r R) (g : IsL W left st c ow z w r S) : R = S := by
  rcases h.2 S g.1 with e | e
  · exact congrArg (·.2.2) e
  · rcases g.2 R h.1 with e' | e'
    · exact (congrArg (·.2.2) e').symm
    · exact absurd (e.trans e') (ltT_irr _)
end
end M32

namespace M32
open PySem K33 PySem.W
/-! ### the order of what the law reckons is the program's -/
def tD (a : T) : PyData := .tuple [.int a.1, .int a.2.1, .tuple (a.2.2.map rD)]
def NumT (a : T) : Prop := a.2.1 = (a.2.2.length : Int)
theorem alike_t (a b : T) : alike (tD a) (tD b) = true := by
  unfold tD
  rw [alike, alikeAll, alikeAll, alikeAll, alikeAll, alike_rs]
  rfl
theorem lt_t {a b : T} (ha : NumT a) (hb : NumT b) : dataLt (tD a) (tD b) = true ↔ ltT a b := by
  unfold tD
  rw [lt_cons rfl, eqv_int]
  by_cases h1 : a.1 = b.1
  · rw [if_pos (by simpa using h1), lt_cons rfl, eqv_int]
    by_cases h2 : a.2.1 = b.2.1
    · have hl : a.2.2.length = b.2.2.length := by
        unfold NumT at ha hb
        omega
      rw [if_pos (by simpa using h2), lt_cons (alike_rs _ _), eqv_rs]
      by_cases h3 : a.2.2 = b.2.2
      · rw [if_pos (by simpa using h3), lt_nil]
        constructor
        · intro x; cases x
        · rintro (x | ⟨_, x | ⟨_, x⟩⟩)
          · omega
          · omega
          · rw [h3] at x
            exact absurd x (ltRs_irr _)
      · rw [if_neg (by simpa using h3), lt_rs _ _ hl]
        constructor
        · exact fun x => .inr ⟨h1, .inr ⟨h2, x⟩⟩
        · rintro (x | ⟨_, x | ⟨_, x⟩⟩)
          · omega
          · omega
          · exact x
    · rw [if_neg (by simpa using h2), dataLt_int, decide_eq_true_eq]
      constructor
      · exact fun x => .inr ⟨h1, .inl x⟩
      · rintro (x | ⟨_, x | ⟨x, _⟩⟩)
        · omega
        · exact x
        · exact absurd x h2
  · rw [if_neg (by simpa using h1), dataLt_int, decide_eq_true_eq]
    constructor
    · exact .inl
    · rintro (x | ⟨x, _⟩)
      · exact x
      · exact absurd x h1
theorem ltT.total {a b : T} (ha : NumT a) (hb : NumT b) : ltT a b ∨ a = b ∨ ltT b a := by
  obtain ⟨a1, a2, a3⟩ := a
  obtain ⟨b1, b2, b3⟩ := b
  by_cases h1 : a1 < b1
  · exact .inl (.inl h1)
  by_cases g1 : b1 < a1
  · exact .inr (.inr (.inl g1))
  have e1 : a1 = b1 := by omega
  by_cases h2 : a2 < b2
  · exact .inl (.inr ⟨e1, .inl h2⟩)
  by_cases g2 : b2 < a2
  · exact .inr (.inr (.inr ⟨e1.symm, .inl g2⟩))
  have e2 : a2 = b2 := by omega
  have hl : a3.length = b3.length := by
    have ha' : a2 = (a3.length : Int) := ha
    have hb' : b2 = (b3.length : Int) := hb
    omega
  subst e1 e2
  rcases ltRs_total a3 b3 hl with x | rfl | x
  · exact .inl (.inr ⟨rfl, .inr ⟨rfl, x⟩⟩)
  · exact .inr (.inl rfl)
  · exact .inr (.inr (.inr ⟨rfl, .inr ⟨rfl, x⟩⟩))
/-- min of what the law reckons -/
theorem min_t : ∀ (xs : List T) (x : T), (∀ y ∈ x :: xs, NumT y) → ∃ m ∈ x :: xs, minD (tD x) (xs.map tD) = tD m ∧ ∀ y ∈ x :: xs, leT m y
  | [], x, _ => ⟨x, List.mem_cons_self .., rfl, fun y hy => by
    rw [List.mem_singleton.mp hy]
    exact .inl rfl⟩
  | y :: ys, x, h => by
    have hx := h x (List.mem_cons_self ..)
    have hy := h y (List.mem_cons_of_mem _ (List.mem_cons_self ..))
    have e : minD (tD x) ((y :: ys).map tD) = minD (if dataLt (tD y) (tD x) then tD y else tD x) (ys.map tD) := rfl
    by_cases c : dataLt (tD y) (tD x) = true
    · obtain ⟨m, hm, em, lm⟩ := min_t ys y fun z hz => h z (List.mem_cons_of_mem _ hz)
      refine ⟨m, List.mem_cons_of_mem _ hm, by rw [e, if_pos c, em], fun z hz => ?_⟩
      rcases List.mem_cons.mp hz with rfl | hz
      · exact (lm y (List.mem_cons_self ..)).trans (.inr ((lt_t hy hx).mp c))
      · exact lm z hz
    · obtain ⟨m, hm, em, lm⟩ := min_t ys x fun z hz => by
        rcases List.mem_cons.mp hz with rfl | hz
        · exact hx
        · exact h z (List.mem_cons_of_mem _ (List.mem_cons_of_mem _ hz))
      have le : leT x y := by
        rcases ltT.total hy hx with q | rfl | q
        · exact absurd ((lt_t hy hx).mpr q) c
        · exact .inl rfl
        · exact .inr q
      refine ⟨m, ?_, by rw [e, if_neg c, em], fun z hz => ?_⟩
      · rcases List.mem_cons.mp hm with rfl | hm
        · exact List.mem_cons_self ..
        · exact List.mem_cons_of_mem _ (List.mem_cons_of_mem _ hm)
      · rcases List.mem_cons.mp hz with rfl | hz
        · exact lm z (List.mem_cons_self ..)
        · rcases List.mem_cons.mp hz with rfl | hz
          · exact (lm x (List.mem_cons_self ..)).trans le
          · exact lm z (List.mem_cons_of_mem _ hz)
theorem val_num {W left c : Int} {r : List Rw} : NumT (val W left c r) := rfl
/-- a grouped document of words: the same, or, where no gap lacks a flat string, all in one line -/
theorem best_group {W left : Int} {t : Nd} {w : List Nat} {r : Gaps} {st col : Int} (h : Built t w r) {S : At → Prop} {m : At} (c : Cov S (pth W left (.gr (.ne st t)) false 0 (ini W col))) (hm : S m) (hl : ∀ x, S x → LeA m.2 x.2) :
    (all m.2 ∈ RF st 0 [] w r ∨ ∃ z, flatS w r = some z ∧ all m.2 = [(0, z)]) ∧ (∀ q ∈ RF st 0 [] w r, leT (val W left col (all m.2)) (val W left col q)) ∧ ∀ z, flatS w r = some z → leT (val W left col (all m.2)) (val W left col [(0, z)]) := by
  obtain ⟨lm, ll⟩ := c.end_ hm hl
  have z0 : (0 : Int) + st = st := Int.zero_add st
  have e : ∀ x, M32.pth W left (.gr (.ne st t)) false 0 (ini W col) x ↔ seqP W left st w r (ini W col) x ∨ ∃ z, flatS w r = some z ∧ wSet W z (ini W col) x := fun x => by
    show (M32.pth W left t false (0 + st) (ini W col) x ∨ M32.pth W left t true (0 + st) (ini W col) x) ↔ _
    rw [h.pth (0 + st), built_flat h (0 + st), z0]
  have fl : ∀ z, (write W (min col W) z ⟨max 0 (col - W), 1, [], 0, []⟩).rs ++ [((write W (min col W) z ⟨max 0 (col - W), 1, [], 0, []⟩).ow, (write W (min col W) z ⟨max 0 (col - W), 1, [], 0, []⟩).z)] = [((0 : Int), z)] := fun z => rfl
  refine ⟨?_, fun q hq => ?_, fun z hz => ?_⟩
  · rcases (e m).mp lm with g | ⟨z, hz, y, hy, g⟩
    · obtain ⟨y, hy, q, hq, eq⟩ := seqP_out r w g
      subst hy
      refine .inl ?_
      rw [eq]
      exact hq
    · subst hy
      refine .inr ⟨z, hz, ?_⟩
      rw [g]
      exact fl z
  · obtain ⟨x, hx, eq⟩ := seqP_in (W := W) (left := left) (st := st) r w (L := ini W col) (y := (min col W, ⟨max 0 (col - W), 1, [], 0, []⟩)) (q := q) rfl hq
    have eq' : all x.2 = q := eq
    have hx' := (e x).mpr (.inl hx)
    rw [← eq']
    exact le_all (pth_val _ _ _ m lm) (pth_val _ _ _ x hx') (pth_num _ _ _ m lm) (pth_num _ _ _ x hx') (ll x hx')
  · have hx' := (e (wCol W (min col W) z, write W (min col W) z ⟨max 0 (col - W), 1, [], 0, []⟩)).mpr (.inr ⟨z, hz, _, rfl, rfl⟩)
    have q := le_all (pth_val _ _ _ m lm) (pth_val _ _ _ _ hx') (pth_num _ _ _ m lm) (pth_num _ _ _ _ hx') (ll _ hx')
    exact q
end M32

namespace M32
open PySem K33 PySem.W
/-! ### a dict of states, as a list -/
def getL (ss : List At) (c : Int) : Option St := (ss.find? fun p => decide (p.1 = c)).map (·.2)
def putL (ss : List At) (c : Int) (s : St) : List At := if (ss.any fun p => decide (p.1 = c)) = true then ss.map fun p => if p.1 = c then (p.1, s) else p else ss ++ [(c, s)]
def Keys (ss : List At) : Prop := (ss.map (·.1)).Nodup
def setOf (ss : List At) : At → Prop := fun x => x ∈ ss
theorem getL_mem {ss : List At} {c : Int} {m : St} (h : getL ss c = some m) : (c, m) ∈ ss := by
  unfold getL at h
  obtain ⟨p, hp, rfl⟩ := Option.map_eq_some_iff.mp h
  have h1 := List.find?_some hp
  have h2 := List.mem_of_find?_eq_some hp
  have h3 : p.1 = c := of_decide_eq_true h1
  rw [← h3]
  exact h2
theorem getL_none {ss : List At} {c : Int} (h : getL ss c = none) : ∀ p ∈ ss, p.1 ≠ c := by
  unfold getL at h
  rw [Option.map_eq_none_iff, List.find?_eq_none] at h
  intro p hp e
  exact h p hp (decide_eq_true e)
theorem keys_one : ∀ {ss : List At}, Keys ss → ∀ {c : Int} {a b : St}, (c, a) ∈ ss → (c, b) ∈ ss → a = b
  | [], _, _, _, _, h, _ => by cases h
  | p :: ss, k, c, a, b, ha, hb => by
    have k' : p.1 ∉ ss.map (·.1) ∧ (ss.map (·.1)).Nodup := List.nodup_cons.mp k
    rcases List.mem_cons.mp ha with e | ha <;> rcases List.mem_cons.mp hb with e' | hb
    · exact (congrArg (·.2) e).trans (congrArg (·.2) e').symm
    · exact absurd (List.mem_map.mpr ⟨(c, b), hb, (show c = p.1 from congrArg (·.1) e)⟩) k'.1
    · exact absurd (List.mem_map.mpr ⟨(c, a), ha, (show c = p.1 from congrArg (·.1) e')⟩) k'.1
    · exact keys_one (ss := ss) k'.2 ha hb
theorem mem_put {ss : List At} {c : Int} {s : St} {x : At} : x ∈ putL ss c s ↔ x = (c, s) ∨ (x ∈ ss ∧ x.1 ≠ c) := by
  unfold putL
  split
  · rename_i h
    obtain ⟨q, hq, e⟩ := List.any_eq_true.mp h
    have eq : q.1 = c := of_decide_eq_true e
    constructor
    · intro hx
      obtain ⟨p, hp, rfl⟩ := List.mem_map.mp hx
      by_cases ep : p.1 = c
      · rw [if_pos ep, ep]
        exact .inl rfl
      · rw [if_neg ep]
        exact .inr ⟨hp, ep⟩
    · rintro (rfl | ⟨hx, n⟩)
      · exact List.mem_map.mpr ⟨q, hq, by rw [if_pos eq, eq]⟩
      · exact List.mem_map.mpr ⟨x, hx, by rw [if_neg n]⟩
  · rename_i h
    constructor
    · intro hx
      rcases List.mem_append.mp hx with hx | hx
      · refine .inr ⟨hx, fun e => h ?_⟩
        exact List.any_eq_true.mpr ⟨x, hx, decide_eq_true e⟩
      · exact .inl (List.mem_singleton.mp hx)
    · rintro (rfl | ⟨hx, _⟩)
      · exact List.mem_append_right _ (List.mem_singleton.mpr rfl)
      · exact List.mem_append_left _ hx
theorem put_keys {ss : List At} {c : Int} {s : St} (h : Keys ss) : Keys (putL ss c s) := by
  unfold putL
  split
  · unfold Keys
    have e : (ss.map fun p => if p.1 = c then (p.1, s) else p).map (·.1) = ss.map (·.1) := by
      rw [List.map_map]
      refine List.map_congr_left fun p _ => ?_
      show (if p.1 = c then (p.1, s) else p).1 = p.1
      split <;> rfl
    rw [e]
    exact h
  · rename_i n
    unfold Keys
    rw [List.map_append]
    exact List.nodup_append.mpr ⟨h, by simp, fun a ha b hb => by
      rw [List.mem_singleton.mp hb]
      obtain ⟨p, hp, rfl⟩ := List.mem_map.mp ha
      exact fun e => n (List.any_eq_true.mpr ⟨p, hp, decide_eq_true e⟩)⟩
/-- one more: at a column where none is -/
theorem least_new {ss : List At} {L : At → Prop} {c : Int} {s : St} (h : Least (setOf ss) L) (g : getL ss c = none) : Least (setOf (putL ss c s)) fun x => L x ∨ x = (c, s) := by
  have n := getL_none g
  refine ⟨fun x hx => ?_, fun x hx => ?_⟩
  · rcases mem_put.mp hx with rfl | ⟨hx, _⟩
    · exact .inr rfl
    · exact .inl (h.1 x hx)
  · rcases hx with hx | rfl
    · obtain ⟨y, hy, e, l⟩ := h.2 x hx
      exact ⟨y, mem_put.mpr (.inr ⟨hy, n y hy⟩), e, l⟩
    · exact ⟨_, mem_put.mpr (.inl rfl), rfl, .inl rfl⟩
/-- one more, that is less than the one at its column -/
theorem least_put {ss : List At} {L : At → Prop} {c : Int} {s m : St} (k : Keys ss) (h : Least (setOf ss) L) (g : getL ss c = some m) (l : LeA s m) : Least (setOf (putL ss c s)) fun x => L x ∨ x = (c, s) := by
  have hm := getL_mem g
  refine ⟨fun x hx => ?_, fun x hx => ?_⟩
  · rcases mem_put.mp hx with rfl | ⟨hx, _⟩
    · exact .inr rfl
    · exact .inl (h.1 x hx)
  · rcases hx with hx | rfl
    · obtain ⟨y, hy, e, ly⟩ := h.2 x hx
      by_cases ec : y.1 = c
      · obtain ⟨y1, y2⟩ := y
        obtain rfl : y1 = c := ec
        obtain rfl : y2 = m := keys_one k hy hm
        exact ⟨_, mem_put.mpr (.inl rfl), e, l.trans ly⟩
      · exact ⟨y, mem_put.mpr (.inr ⟨hy, ec⟩), e, ly⟩
    · exact ⟨_, mem_put.mpr (.inl rfl), rfl, .inl rfl⟩
/-- one more, that is not less than the one at its column -/
theorem least_not {ss : List At} {L : At → Prop} {c : Int} {s m : St} (h : Least (setOf ss) L) (g : getL ss c = some m) (l : LeA m s) : Least (setOf ss) fun x => L x ∨ x = (c, s) :=
  ⟨fun x hx => .inl (h.1 x hx), fun x hx => by
    rcases hx with hx | rfl
    · exact h.2 x hx
    · exact ⟨(c, m), getL_mem g, rfl, l⟩⟩
theorem Least.nil : Least (setOf []) fun _ => False := ⟨fun x h => (by cases h), fun x h => h.elim⟩
theorem Least.iff {S L L' : At → Prop} (h : Least S L) (e : ∀ x, L x ↔ L' x) : Least S L' := ⟨fun x hx => (e x).mp (h.1 x hx), fun x hx => h.2 x ((e x).mpr hx)⟩
theorem Least.self {ss : List At} : Least (setOf ss) (setOf ss) := ⟨fun x h => h, fun x h => ⟨x, h, rfl, .inl rfl⟩⟩
/-! ### what pruning leaves -/
/-- ahead of the i-th column: what is kept, and the least so far -/
structure Pr (seen kept : List At) (m : Option At) : Prop where
  sub : ∀ x ∈ kept, x ∈ seen
  none_ : m = none → seen = []
  one : ∀ y, m = some y → y ∈ kept ∧ ∀ x ∈ seen, LeA y.2 x.2
  by_ : ∀ x ∈ seen, x ∈ kept ∨ ∃ y ∈ kept, y.1 ≤ x.1 ∧ LtA y.2 x.2 ∧ ¬ (y.2.ex = x.2.ex ∧ y.2.ln = x.2.ln ∧ y.2.rs = x.2.rs ∧ y.2.ow = x.2.ow ∧ y.2.z <+: x.2.z)
theorem Pr.nil : Pr [] [] none := ⟨fun x h => h, fun _ => rfl, fun y h => (by cases h), fun x h => (by cases h)⟩
theorem Pr.first {x : At} : Pr [x] [x] (some x) := ⟨fun y h => h, fun h => (by cases h), fun y h => by
  cases h
  exact ⟨List.mem_singleton.mpr rfl, fun z hz => by
    rw [List.mem_singleton.mp hz]
    exact .inl rfl⟩, fun y h => .inl h⟩
theorem Pr.less {seen kept : List At} {y x : At} (h : Pr seen kept (some y)) (l : LeA x.2 y.2) : Pr (seen ++ [x]) (kept ++ [x]) (some x) := by
  obtain ⟨h1, h2⟩ := h.one y rfl
  refine ⟨fun z hz => ?_, fun e => (by cases e), fun z e => ?_, fun z hz => ?_⟩
  · exact List.mem_append.mpr ((List.mem_append.mp hz).imp (h.sub z) id)
  · cases e
    refine ⟨List.mem_append_right _ (List.mem_singleton.mpr rfl), fun z hz => ?_⟩
    rcases List.mem_append.mp hz with hz | hz
    · exact l.trans (h2 z hz)
    · rw [List.mem_singleton.mp hz]
      exact .inl rfl
  · rcases List.mem_append.mp hz with hz | hz
    · rcases h.by_ z hz with g | ⟨u, hu, g⟩
      · exact .inl (List.mem_append_left _ g)
      · exact .inr ⟨u, List.mem_append_left _ hu, g⟩
    · exact .inl (List.mem_append_right _ hz)
theorem Pr.keep {seen kept : List At} {y x : At} (h : Pr seen kept (some y)) (l : LeA y.2 x.2) : Pr (seen ++ [x]) (kept ++ [x]) (some y) := by
  obtain ⟨h1, h2⟩ := h.one y rfl
  refine ⟨fun z hz => List.mem_append.mpr ((List.mem_append.mp hz).imp (h.sub z) id), fun e => (by cases e), fun z e => ?_, fun z hz => ?_⟩
  · cases e
    refine ⟨List.mem_append_left _ h1, fun z hz => ?_⟩
    rcases List.mem_append.mp hz with hz | hz
    · exact h2 z hz
    · rw [List.mem_singleton.mp hz]
      exact l
  · rcases List.mem_append.mp hz with hz | hz
    · rcases h.by_ z hz with g | ⟨u, hu, g⟩
      · exact .inl (List.mem_append_left _ g)
      · exact .inr ⟨u, List.mem_append_left _ hu, g⟩
    · exact .inl (List.mem_append_right _ hz)
theorem Pr.drop {seen kept : List At} {y x : At} (h : Pr seen kept (some y)) (c : y.1 ≤ x.1) (l : LeA y.2 x.2) (n : ¬ (y.2.ex = x.2.ex ∧ y.2.ln = x.2.ln ∧ y.2.rs = x.2.rs ∧ y.2.ow = x.2.ow ∧ y.2.z <+: x.2.z)) : Pr (seen ++ [x]) kept (some y) := by
  obtain ⟨h1, h2⟩ := h.one y rfl
  refine ⟨fun z hz => List.mem_append_left _ (h.sub z hz), fun e => (by cases e), fun z e => ?_, fun z hz => ?_⟩
  · cases e
    refine ⟨h1, fun z hz => ?_⟩
    rcases List.mem_append.mp hz with hz | hz
    · exact h2 z hz
    · rw [List.mem_singleton.mp hz]
      exact l
  · rcases List.mem_append.mp hz with hz | hz
    · exact h.by_ z hz
    · rw [List.mem_singleton.mp hz]
      rcases l with e | l
      · exact absurd ⟨by rw [e], by rw [e], by rw [e], by rw [e], by rw [e]; exact List.prefix_rfl⟩ n
      · exact .inr ⟨y, h1, c, l, n⟩
theorem Pr.cov {seen kept : List At} {m : Option At} (h : Pr seen kept m) : Cov (setOf kept) (setOf seen) := .prune h.sub h.by_
end M32

namespace K33
open PySem PySem.Spec PyProof.Rows L2 Vk
/-! ### states with what they are -/
open M32 in
/-- a state's size and signs are in order -/
structure SzOk (s : M32.St) (B : Nat) : Prop where
  len : s.z.length + s.rs.length ≤ B
  z : ∀ c ∈ s.z, c < 0x110000
  rs : ∀ r ∈ s.rs, ∀ c ∈ r.2, c < 0x110000
  num : M32.Num s
/-- the values of a dict, as states -/
inductive Par (K : PySem.W.Frag) (H : Hp) (B : Nat) : List (Key × V) → List M32.At → Prop
  | nil : Par K H B [] []
  | cons {c : Int} {v : V} {s : M32.St} {kvs : List (Key × V)} {ss : List M32.At} : Dp K H v (M32.toD s) → SzOk s B → Par K H B kvs ss → Par K H B ((Sum.inl c, v) :: kvs) ((c, s) :: ss)
structure StsG (K : PySem.W.Frag) (H : Hp) (kvs : List (Key × V)) (ss : List M32.At) (B : Nat) (W : Int) : Prop where
  par : Par K H B kvs ss
  keys : M32.Keys ss
  rng : ∀ p ∈ ss, 0 ≤ p.1 ∧ p.1 ≤ W
theorem strOk_of {z : List Nat} (h : ∀ c ∈ z, c < 0x110000) : PyData.strOk ⟨z.toArray⟩ = true := by
  show (z.toArray.all (· < 0x110000)) = true
  rw [Array.all_eq_true']
  intro c hc
  exact decide_eq_true (h c (by simpa using hc))
def sRow (r : M32.Rw) : Row := (r.1, ⟨r.2.toArray⟩)
/-- a state's pages, and its last one -/
def sfs (s : M32.St) : List (List Row) := (M32.pgs s.rs).1.map fun q => q.map sRow
def srs (s : M32.St) : List Row := (M32.pgs s.rs).2.map sRow
theorem toD_is (s : M32.St) : M32.toD s = stD s.ex s.ln (sfs s) (srs s) s.ow ⟨s.z.toArray⟩ := by
  unfold M32.toD stD sfs srs
  rw [List.map_map, List.map_map]
  have e : (fun q => pgD (q.map sRow)) = M32.pageD := funext fun q => by
    unfold pgD M32.pageD
    rw [List.map_map]
    rfl
  show _ = PyData.tuple [_, _, .tuple ((M32.pgs s.rs).1.map fun q => pgD (q.map sRow)), _, _, _]
  rw [e]
  rfl
theorem s_all (s : M32.St) : (sfs s).flatten ++ srs s = s.rs.map sRow := by
  unfold sfs srs
  rw [← List.map_flatten, ← List.map_append, (M32.pgs_ok s.rs).fl]
section
variable {K : PySem.W.Frag} {H H' : Hp} {kvs : List (Key × V)} {ss : List M32.At} {B B' : Nat} {W : Int}
theorem SzOk.le {s : M32.St} (hb : B ≤ B') (h : SzOk s B) : SzOk s B' := ⟨Nat.le_trans h.len hb, h.z, h.rs, h.num⟩
theorem SzOk.fin {s : M32.St} (h : SzOk s B) : Fin4 B (sfs s) (srs s) ⟨s.z.toArray⟩ := by
  refine ⟨?_, fun p hp => ?_, strOk_of h.z, fun r hr => ?_⟩
  · have e : (⟨s.z.toArray⟩ : Str).length = s.z.length := by
      show s.z.toArray.size = _
      simp
    have l := congrArg List.length (s_all s)
    rw [List.length_append, List.length_map] at l
    have := h.len
    rw [e]
    omega
  · obtain ⟨q, hq, rfl⟩ := List.mem_map.mp hp
    have := (M32.pgs_ok s.rs).full q hq
    intro z
    have z' := congrArg List.length z
    rw [List.length_map, this] at z'
    cases z'
  · rw [s_all] at hr
    obtain ⟨q, hq, rfl⟩ := List.mem_map.mp hr
    exact strOk_of (h.rs q hq)
theorem SzOk.val {s : M32.St} {v : V} (h : SzOk s B) (d : Dp K H v (M32.toD s)) : StV K H v B := by
  rw [toD_is] at d
  exact ⟨_, _, _, _, _, _, d, h.fin⟩
theorem Par.keys : ∀ {kvs : List (Key × V)} {ss : List M32.At}, Par K H B kvs ss → kvs.map (·.1) = (ss.map (·.1)).map Sum.inl
  | _, _, .nil => rfl
  | _, _, .cons _ _ r => by rw [List.map_cons, List.map_cons, List.map_cons, Par.keys r]
theorem Par.all : ∀ {kvs : List (Key × V)} {ss : List M32.At}, Par K H B kvs ss → ∀ p ∈ kvs, StV K H p.2 B
  | _, _, .nil, _, h => by cases h
  | _, _, .cons d z r, p, h => by
    rcases List.mem_cons.mp h with rfl | h
    · exact z.val d
    · exact Par.all r p h
/-- as before: shape and size -/
theorem StsG.old (h : StsG K H kvs ss B W) : Sts K H kvs B W := ⟨⟨ss.map (fun p => p.1), h.par.keys, (show (ss.map (fun p => p.1)).Nodup from h.keys), fun c hc => by
  obtain ⟨p, hp, rfl⟩ := List.mem_map.mp hc
  exact h.rng p hp⟩, h.par.all⟩
theorem Par.same (s : Same H H') : ∀ {kvs : List (Key × V)} {ss : List M32.At}, Par K H B kvs ss → Par K H' B kvs ss
  | _, _, .nil => .nil
  | _, _, .cons d z r => .cons (Dp.same s d) z (Par.same s r)
theorem toD_noL (s : M32.St) : noL (M32.toD s) = true := by
  rw [toD_is]
  exact st_noL ..
theorem Par.updD {p : Addr} {o : HO} (hp : NT H p) : ∀ {kvs : List (Key × V)} {ss : List M32.At}, Par K H B kvs ss → Par K (upd H p o) B kvs ss
  | _, _, .nil => .nil
  | _, _, .cons d z r => .cons (Dp.updD hp d (toD_noL _)) z (Par.updD hp r)
theorem Par.le (hb : B ≤ B') : ∀ {kvs : List (Key × V)} {ss : List M32.At}, Par K H B kvs ss → Par K H B' kvs ss
  | _, _, .nil => .nil
  | _, _, .cons d z r => .cons d (z.le hb) (Par.le hb r)
theorem StsG.same (s : Same H H') (h : StsG K H kvs ss B W) : StsG K H' kvs ss B W := ⟨h.par.same s, h.keys, h.rng⟩
theorem StsG.updD {p : Addr} {o : HO} (hp : NT H p) (h : StsG K H kvs ss B W) : StsG K (upd H p o) kvs ss B W := ⟨h.par.updD hp, h.keys, h.rng⟩
theorem StsG.le (hb : B ≤ B') (h : StsG K H kvs ss B W) : StsG K H kvs ss B' W := ⟨h.par.le hb, h.keys, h.rng⟩
theorem StsG.nil : StsG K H [] [] B W := ⟨.nil, List.nodup_nil, fun p hp => by cases hp⟩
theorem Par.at_ : ∀ {kvs : List (Key × V)} {ss : List M32.At} {i : Nat} {k : Key} {v : V}, Par K H B kvs ss → kvs[i]? = some (k, v) → ∃ c s, k = Sum.inl c ∧ ss[i]? = some (c, s) ∧ Dp K H v (M32.toD s) ∧ SzOk s B
  | _, _, _, _, _, .nil, e => by simp at e
  | _, _, 0, _, _, .cons d z _, e => by
    cases Option.some.inj e
    exact ⟨_, _, rfl, rfl, d, z⟩
  | _, _, i + 1, _, _, .cons _ _ r, e => Par.at_ (i := i) r (by simpa using e)
theorem Par.any : ∀ {kvs : List (Key × V)} {ss : List M32.At} {c : Int}, Par K H B kvs ss → (kvs.any fun kv => decide (kv.1 = Sum.inl c)) = ss.any fun p => decide (p.1 = c)
  | _, _, _, .nil => rfl
  | _, _, c, .cons (c := d) _ _ r => by
    rw [List.any_cons, List.any_cons, Par.any r]
    have e : decide ((Sum.inl d : Key) = Sum.inl c) = decide (d = c) := by
      by_cases h : d = c
      · simp [h]
      · rw [decide_eq_false h, decide_eq_false fun z => h (Sum.inl.inj z)]
    rw [e]
theorem Par.put_map {c : Int} {v : V} {s : M32.St} (d : Dp K H v (M32.toD s)) (z : SzOk s B) : ∀ {kvs : List (Key × V)} {ss : List M32.At}, Par K H B kvs ss → Par K H B (kvs.map fun kv => if kv.1 = Sum.inl c then (kv.1, v) else kv) (ss.map fun p => if p.1 = c then (p.1, s) else p)
  | _, _, .nil => .nil
  | _, _, .cons (c := e) d' z' r => by
    have ih := Par.put_map (c := c) d z r
    rw [List.map_cons, List.map_cons]
    by_cases h : e = c
    · rw [if_pos (show (Sum.inl e : Key) = Sum.inl c by rw [h]), if_pos h]
      exact .cons d z ih
    · rw [if_neg (fun q => h (Sum.inl.inj q)), if_neg h]
      exact .cons d' z' ih
theorem Par.append : ∀ {kvs lvs : List (Key × V)} {ss ts : List M32.At}, Par K H B kvs ss → Par K H B lvs ts → Par K H B (kvs ++ lvs) (ss ++ ts)
  | _, _, _, _, .nil, h => h
  | _, _, _, _, .cons d z r, h => .cons d z (Par.append r h)
theorem StsG.put {c : Int} {v : V} {s : M32.St} (h : StsG K H kvs ss B W) (c0 : 0 ≤ c) (c1 : c ≤ W) (d : Dp K H v (M32.toD s)) (z : SzOk s B) : StsG K H (putK kvs (Sum.inl c) v) (M32.putL ss c s) B W := by
  refine ⟨?_, M32.put_keys h.keys, fun p hp => ?_⟩
  · unfold putK M32.putL
    rw [h.par.any]
    split
    · exact h.par.put_map d z
    · exact h.par.append (.cons d z .nil)
  · rcases M32.mem_put.mp hp with rfl | ⟨hp, _⟩
    · exact ⟨c0, c1⟩
    · exact h.rng p hp
theorem Par.find {c : Int} : ∀ {kvs : List (Key × V)} {ss : List M32.At}, Par K H B kvs ss → (valV kvs (Sum.inl c) = none ∧ M32.getL ss c = none) ∨ ∃ v s, valV kvs (Sum.inl c) = some v ∧ M32.getL ss c = some s ∧ Dp K H v (M32.toD s) ∧ SzOk s B
  | _, _, .nil => .inl ⟨rfl, rfl⟩
  | _, _, .cons (c := e) (v := v) (s := s) (kvs := kvs) (ss := ss) d z r => by
    by_cases h : e = c
    · refine .inr ⟨v, s, ?_, ?_, d, z⟩
      · unfold valV
        rw [List.find?_cons_of_pos (by simp [h])]
        rfl
      · unfold M32.getL
        rw [List.find?_cons_of_pos (by simp [h])]
        rfl
    · have e1 : valV ((Sum.inl e, v) :: kvs) (Sum.inl c) = valV kvs (Sum.inl c) := by
        unfold valV
        rw [List.find?_cons_of_neg (by simp [h])]
      have e2 : M32.getL ((e, s) :: ss) c = M32.getL ss c := by
        unfold M32.getL
        rw [List.find?_cons_of_neg (by simp [h])]
      rw [e1, e2]
      exact Par.find r
end
end K33

namespace K33
open PySem PySem.Spec PyProof.Rows L2 Vk
/-! ### written, with content -/
def StAt (K : PySem.W.Frag) (H : Hp) (d : Addr) (ss : List M32.At) (B : Nat) (W : Int) : Prop := ∃ kvs, H d = some (.dK kvs) ∧ StsG K H kvs ss B W
def spWrG (K : PySem.W.Frag) : Sp := fun vs H Q _ => ∃ (d : Addr) (z : Str) (W : Int) (B : Nat) (ss : List M32.At) (col left : Int), vs = [.ref d, .str z, .int W] ∧ StAt K H d ss B W ∧ ss ≠ [] ∧ 0 ≤ W ∧ W ≤ 60 ∧ B + z.length ≤ 1000000 ∧ PyData.strOk z = true ∧ M32.AllVal W col left (M32.setOf ss) ∧
  ∀ u H' ss', Same H H' → StAt K H' u ss' (B + z.length) W → ss' ≠ [] → M32.Cov (M32.setOf ss') (M32.wSet W z.cps.toList (M32.setOf ss)) → Q (.ref u) H'
theorem wset_nil {W : Int} {ss : List M32.At} (h : ∀ p ∈ ss, p.1 ≤ W) : M32.wSet W [] (M32.setOf ss) = M32.setOf ss := by
  have e : ∀ p : M32.At, p.1 ≤ W → (M32.wCol W p.1 [], M32.write W p.1 [] p.2) = p := fun ⟨c, s⟩ l => by
    have l' : c ≤ W := l
    refine Prod.ext ?_ ?_
    · show min (c + ((0 : Nat) : Int)) W = c
      omega
    · cases s
      unfold M32.write
      simp only [List.append_nil, M32.St.mk.injEq, and_true]
      show _ + max 0 (c + ((0 : Nat) : Int) - W) = _
      omega
  refine funext fun x => propext ⟨?_, fun hx => ⟨x, hx, (e x (h x hx)).symm⟩⟩
  rintro ⟨y, hy, rfl⟩
  rw [e y (h y hy)]
  exact hy
theorem str_app (a b : List Nat) : (⟨a.toArray⟩ : Str) ++ ⟨b.toArray⟩ = ⟨(a ++ b).toArray⟩ := by
  show (⟨a.toArray ++ b.toArray⟩ : Str) = _
  simp
theorem len_cps (z : Str) : ((z.cps.toList.length : Nat) : Int) = (z.length : Nat) := by
  have : z.cps.toList.length = z.cps.size := by simp
  rw [this]
  rfl
theorem wr_eq {W c : Int} {z : Str} {a : M32.St} : M32.toD (M32.write W c z.cps.toList a) = stD (a.ex + (if c + (z.length : Nat) - W > 0 then c + (z.length : Nat) - W else 0)) a.ln (sfs a) (srs a) a.ow ((⟨a.z.toArray⟩ : Str) ++ z) := by
  rw [toD_is]
  have e1 : (M32.write W c z.cps.toList a).ex = a.ex + (if c + (z.length : Nat) - W > 0 then c + (z.length : Nat) - W else 0) := by
    show a.ex + max 0 (c + ((z.cps.toList.length : Nat) : Int) - W) = _
    rw [len_cps]
    split <;> omega
  have e2 : (⟨(M32.write W c z.cps.toList a).z.toArray⟩ : Str) = (⟨a.z.toArray⟩ : Str) ++ z := by
    show (⟨(a.z ++ z.cps.toList).toArray⟩ : Str) = _
    rw [← str_app]
  rw [e1, e2]
  rfl
theorem wcol_eq {W c : Int} {z : Str} : M32.wCol W c z.cps.toList = if W < c + (z.length : Nat) then W else c + (z.length : Nat) := by
  unfold M32.wCol
  rw [len_cps]
  split <;> omega
theorem SzOk.write {W c : Int} {z : Str} {a : M32.St} {B : Nat} (h : SzOk a B) (zok : PyData.strOk z = true) : SzOk (M32.write W c z.cps.toList a) (B + z.length) := by
  have el : z.cps.toList.length = z.length := by
    have : z.cps.toList.length = z.cps.size := by simp
    exact this
  refine ⟨?_, fun c hc => ?_, h.rs, h.num⟩
  · show (a.z ++ z.cps.toList).length + a.rs.length ≤ B + z.length
    have := h.len
    rw [List.length_append, el]
    omega
  · rcases List.mem_append.mp hc with hc | hc
    · exact h.z c hc
    · have q : z.cps.all (· < 0x110000) = true := zok
      rw [Array.all_eq_true'] at q
      exact of_decide_eq_true (q c (by simpa using hc))
/-- the i-th one more -/
theorem wset_snoc {W : Int} {w : List Nat} {ss : List M32.At} {i : Nat} {p : M32.At} (h : ss[i]? = some p) (x : M32.At) :
    (M32.wSet W w (M32.setOf (ss.take i)) x ∨ x = (M32.wCol W p.1 w, M32.write W p.1 w p.2)) ↔ M32.wSet W w (M32.setOf (ss.take (i + 1))) x := by
  have e : ss.take (i + 1) = ss.take i ++ [p] := by
    rw [List.take_add_one, h]
    rfl
  rw [e]
  constructor
  · rintro (⟨y, hy, r⟩ | r)
    · exact ⟨y, List.mem_append_left _ hy, r⟩
    · exact ⟨p, List.mem_append_right _ (List.mem_singleton.mpr rfl), r⟩
  · rintro ⟨y, hy, r⟩
    rcases List.mem_append.mp hy with hy | hy
    · exact .inl ⟨y, hy, r⟩
    · rw [List.mem_singleton.mp hy] at r
      exact .inr r
def WrG (K : PySem.W.Frag) (H : Hp) (d D : Addr) (z : Str) (W : Int) (B : Nat) (kvs : List (Key × V)) (ss : List M32.At) (od : Obj) (i : Nat) (σ : L2.St) (H' : Hp) : Prop :=
  ∃ (kvs' : List (Key × V)) (ss' : List M32.At) (w4 w5 w6 w7 w8 w9 w10 w11 w12 w13 : Option V), σ = [some (.ref d), some (.str z), some (.int W), some (.ref D), w4, w5, w6, w7, w8, w9, w10, w11, w12, w13] ∧ (∀ b o, H b = some o → b ≠ d → H' b = some o) ∧ H' d = some (.frz od (.dK kvs)) ∧ H' D = some (.dK kvs') ∧
  StsG K H' kvs' ss' (B + z.length) W ∧ StsG K H' kvs ss B W ∧ M32.Least (M32.setOf ss') (M32.wSet W z.cps.toList (M32.setOf (ss.take i)))
section
variable {P : Program} {w : World} {K : PySem.W.Frag} {mg : Str → Option Value} {base : Heap} {k : Nat}
theorem ok_wrG (T : Tx K mg) : FnOk P w K mg base CX0 (k + 1) T.a_written T.d_written P_written (spWrG K) := by
  refine T.F_written.ok sc_written (fun vs H Q E h => ?_) (fun cdv A outer s H vs Q E hr h => ?_)
  · obtain ⟨d, z, W, B, ss, col, left, rfl, _⟩ := h
    rfl
  obtain ⟨d, z, W, B, ss, col, left, rfl, hd, nss, W0, W1, B1, zok, av, hq⟩ := h
  have hu := hu_of hr
  refine ⟨_, (pss_cons (ps_if (pt_not (pt_truth (pv 1) (fun _ => rfl)))
(pss_one (ps_ret (pv 0)))
pss_nil)
(pss_cons (ps_set (i := 3) sc_written.nd rfl (Or.inl rfl) pe_dnewK)
(pss_cons (ps_lock (ps_for PassesOwn.never rfl (pi_items (pv 0)) (pg_tup rfl (pgs_cons (pg_name (i := 4) sc_written.nd rfl (Or.inl rfl)) (pgs_cons (pg_tup rfl (pgs_cons (pg_name (i := 5) sc_written.nd rfl (Or.inl rfl)) (pgs_cons (pg_name (i := 6) sc_written.nd rfl (Or.inl rfl)) (pgs_cons (pg_name (i := 7) sc_written.nd rfl (Or.inl rfl)) (pgs_cons (pg_name (i := 8) sc_written.nd rfl (Or.inl rfl)) (pgs_cons (pg_name (i := 9) sc_written.nd rfl (Or.inl rfl)) (pgs_cons (pg_name (i := 10) sc_written.nd rfl (Or.inl rfl)) pgs_nil))))))) pgs_nil)))
(pss_cons (ps_set (i := 11) sc_written.nd rfl (Or.inl rfl) (pe_op op_add (pv 4) (pe_callB call_len rfl T.z_len (by decide +kernel) (pa_cons (pv 1) pa_nil))))
(pss_cons (ps_set (i := 12) sc_written.nd rfl (Or.inl rfl) (pe_tup (pa_cons (pe_op op_add (pv 5) (pe_callB (call_max2 rfl) rfl T.z_max (by decide +kernel) (pa_cons pe_int (pa_cons (pe_op op_sub (pv 11) (pv 2)) pa_nil)))) (pa_cons (pv 6) (pa_cons (pv 7) (pa_cons (pv 8) (pa_cons (pv 9) (pa_cons (pe_op op_add_str (pv 10) (pv 1)) pa_nil))))))))
(pss_cons (ps_set (i := 13) sc_written.nd rfl (Or.inl rfl) (pe_callB (call_min2 rfl) rfl T.z_min (by decide +kernel) (pa_cons (pv 11) (pa_cons (pv 2) pa_nil))))
(pss_one (ps_if (PW.pt (pw_or (pt_cmp (pc_dnotin hu (pv 13) (pv 3))) (pw_or1 (pt_cmpR (op_ltD hr.units) (pv 12) (pe_dget hu (pv 3) (pv 13) (fun _ _ => rfl)) (nomark _)))))
(pss_one (ps_dput hu (pv 3) (pv 13) (pv 12) rfl))
pss_nil)))))))
(pss_one (ps_ret (pv 3)))))), ?_⟩
  obtain ⟨kvs, hkv, S⟩ := hd
  have lkv : kvs.length = ss.length := by
    have := congrArg List.length S.par.keys
    simpa using this
  have lz0 : z.length ≤ sizeLine := Nat.le_trans (m := 1000000) (by omega) (by decide)
  refine ⟨_, rfl, _, ⟨lz0, rfl⟩, ?_⟩
  by_cases h0 : z.length = 0
  · have ez : z.cps.toList = [] := by
      have : z.cps.size = 0 := h0
      exact List.eq_nil_of_length_eq_zero (by simpa using this)
    rw [h0]
    refine iteT ⟨_, rfl, hq d H ss (.refl _) ⟨kvs, hkv, S.le (by omega)⟩ nss ?_⟩
    rw [ez, wset_nil fun p hp => (S.rng p hp).2]
    exact .refl _
  have hnz : (((z.length : Nat) : Int) != 0) = true := by simp; omega
  rw [hnz]
  refine iteF ?_
  intro D hD
  have s1 := same_new (o := .dK []) hD
  have nD : D ≠ d := (ne_of_none hkv hD).symm
  have g1 := s1 _ _ hkv
  have gD : upd H D (.dK []) D = some (.dK []) := upd_same
  have S1 := S.same s1
  generalize upd H D (.dK []) = H1 at s1 g1 gD S1 ⊢
  refine ⟨d, .dK kvs, g1, trivial, fun od => ?_⟩
  refine ⟨_, rfl, d, od, kvs, rfl, upd_same, ?_⟩
  refine for_it walk_items (WrG K H d D z W B kvs ss od)
    ⟨[], [], none, none, none, none, none, none, none, none, none, none, rfl, fun b o e n => by rw [upd_ne n]; exact s1 b o e, upd_same, by rw [upd_ne nD]; exact gD, .nil, S1.updD (.dK g1), ?_⟩ (fun i σ H' _ q => by obtain ⟨_, _, _, _, _, _, _, _, _, _, _, _, _, _, q, _⟩ := q; exact q) ?_ ?_
  · refine ⟨fun x hx => (by cases hx), fun x hx => ?_⟩
    obtain ⟨y, hy, _⟩ := hx
    cases hy
  · rintro i x σ H2 H3 hi ⟨kvs', ss', w4, w5, w6, w7, w8, w9, w10, w11, w12, w13, rfl, sa, sb, sc, S', S2', lst⟩ ⟨T1, x1, x2, rfl, hT, rfl, y1, y2⟩
    obtain ⟨⟨kk, v⟩, hpq, rfl⟩ := Option.map_eq_some_iff.mp y2
    have y1' : (kvs[i]?.map fun kv => kV kv.1) = some x1 := y1
    rw [hpq] at y1'
    obtain rfl := Option.some.inj y1'
    obtain ⟨c, a0, rfl, hss, _, zz⟩ := S2'.par.at_ hpq
    obtain ⟨w0, w1⟩ := S2'.rng _ (List.mem_of_getElem? hss)
    have sT := same_new (o := .tup [.int c, v]) hT
    have sD := sT _ _ sc
    have sb' := sT _ _ sb
    have fr : ∀ b o, H b = some o → b ≠ d → upd H2 T1 (.tup [.int c, v]) b = some o := fun b o e n => sT _ _ (sa b o e n)
    have STT := S'.same sT
    have ST2 := S2'.same sT
    have kT : upd H2 T1 (.tup [.int c, v]) T1 = some (.tup [.int c, v]) := upd_same
    have lz : kvs'.length < sizeLine := Nat.lt_of_le_of_lt (S'.old.len W0 W1) (by decide)
    show gTup K 2 _ _ _ (upd H2 T1 (.tup [.int c, v])) _
    generalize upd H2 T1 (.tup [.int c, v]) = H3 at sD sb' fr STT ST2 kT ⊢
    obtain ⟨c', a0', ec, hss', dy, _⟩ := ST2.par.at_ hpq
    obtain rfl : c = c' := Sum.inl.inj ec
    obtain rfl : a0 = a0' := congrArg (·.2) (Option.some.inj (hss.symm.trans hss'))
    have dy0 := dy
    rw [toD_is] at dy
    obtain ⟨a, f, r, rfl, ta, df, dr⟩ := st_at dy
    obtain ⟨ra, rxs, rfl, rs1, rds⟩ := Dp.ofTup dr
    obtain ⟨fa, fxs, rfl, ft1, fds⟩ := Dp.ofTup df
    refine ⟨T1, _, rfl, .of kT, rfl, _, _, rfl, _, _, rfl, ⟨a, _, rfl, ta, rfl, _, _, rfl, _, _, rfl, _, _, rfl, _, _, rfl, _, _, rfl, _, _, rfl, rfl, rfl, ?_⟩⟩
    refine ⟨_, rfl, _, rfl, _, _, rfl, ⟨lz0, rfl⟩, _, _, rfl, rfl, ?_⟩
    have ly : (⟨a0.z.toArray⟩ : Str).length = a0.z.length := by
      show a0.z.toArray.size = _
      simp
    have lyz : (⟨a0.z.toArray⟩ : Str).length + z.length ≤ sizeLine := by
      have := zz.len
      rw [ly]
      exact Nat.le_trans (m := 1000000) (by omega) (by decide)
    refine ⟨_, rfl, _, rfl, _, rfl, _, _, rfl, rfl, _, _, rfl, _, _, rfl, rfl, _, rfl, _, rfl, _, rfl, _, rfl, _, rfl, _, rfl, _, _, rfl, rfl, lyz, (by show 6 ≤ sizeLine; decide), fun p hp => ?_⟩
    refine ⟨_, rfl, _, rfl, _, _, rfl, ?_⟩
    have sp := same_new (o := .tup [.int (a0.ex + (if c + (z.length : Nat) - W > 0 then c + (z.length : Nat) - W else 0)), .int a0.ln, .ref fa, .ref ra, .int a0.ow, .str ((⟨a0.z.toArray⟩ : Str) ++ z)]) hp
    have dst : Dp K (upd H3 p (.tup [.int (a0.ex + (if c + (z.length : Nat) - W > 0 then c + (z.length : Nat) - W else 0)), .int a0.ln, .ref fa, .ref ra, .int a0.ow, .str ((⟨a0.z.toArray⟩ : Str) ++ z)])) (.ref p) (M32.toD (M32.write W c z.cps.toList a0)) := by
      rw [wr_eq]
      exact .tup (.of upd_same) (.cons (.int _) (.cons (.int _) (.cons (.tup (Same.seqT sp ft1) (DpAll.same sp fds)) (.cons (.tup (Same.seqT sp rs1) (DpAll.same sp rds)) (.cons (.int _) (.cons (.str _) .nil))))))
    have szb := zz.write (W := W) (c := c) zok
    have cw : 0 ≤ M32.wCol W c z.cps.toList ∧ M32.wCol W c z.cps.toList ≤ W := by
      rw [wcol_eq]
      split <;> omega
    rw [← wcol_eq]
    have sD2 := sp _ _ sD
    have fr2 := fun b u (q : H b = some u) (n : b ≠ d) => sp _ _ (fr b u q n)
    have sb2 := sp _ _ sb'
    have ST4 := STT.same sp
    have ST5 := ST2.same sp
    generalize upd H3 p _ = H4 at dst sD2 fr2 sb2 ST4 ST5 ⊢
    have wl := wset_snoc (W := W) (w := z.cps.toList) hss
    have store : ∀ lst', M32.Least (M32.setOf (M32.putL ss' (M32.wCol W c z.cps.toList) (M32.write W c z.cps.toList a0))) lst' → (∀ x, lst' x ↔ M32.wSet W z.cps.toList (M32.setOf (ss.take (i + 1))) x) → ∃ H5, DPut H4 D (.int (M32.wCol W c z.cps.toList)) (.ref p) H5 ∧ ∀ w4 w5 w6 w7 w8 w9 w10 w11 w12 w13 : Option V, WrG K H d D z W B kvs ss od (i + 1) [some (.ref d), some (.str z), some (.int W), some (.ref D), w4, w5, w6, w7, w8, w9, w10, w11, w12, w13] H5 := by
      intro lst' l1 l2
      refine ⟨_, DPut.k (k := Sum.inl (M32.wCol W c z.cps.toList)) sD2 lz, fun w4 w5 w6 w7 w8 w9 w10 w11 w12 w13 => ⟨_, _, w4, w5, w6, w7, w8, w9, w10, w11, w12, w13, rfl, fun b o e n => ?_, by rw [upd_ne nD.symm]; exact sb2, upd_same, (ST4.put cw.1 cw.2 dst szb).updD (.dK sD2), ST5.updD (.dK sD2), l1.iff l2⟩⟩
      rw [upd_ne (ne_of_none e hD)]
      exact fr2 b o e n
    refine ⟨_, rfl, _, rfl, D, valV kvs' (Sum.inl (M32.wCol W c z.cps.toList)), rfl, DGet.k (k := Sum.inl (M32.wCol W c z.cps.toList)) sD2, _, rfl, ?_⟩
    rcases ST4.par.find (c := M32.wCol W c z.cps.toList) with ⟨hv, hg⟩ | ⟨u, m, hv, hg, du, zu⟩
    · rw [hv]
      obtain ⟨H5, g5, r5⟩ := store _ (M32.least_new lst hg) wl
      exact iteT (iteT ⟨_, rfl, _, rfl, _, rfl, D, H5, rfl, g5, r5 _ _ _ _ _ _ _ _ _ _⟩)
    · rw [hv]
      refine iteF ?_
      have dep := st_depth (M32.write W c z.cps.toList a0).ex (M32.write W c z.cps.toList a0).ln (sfs (M32.write W c z.cps.toList a0)) (srs (M32.write W c z.cps.toList a0)) (M32.write W c z.cps.toList a0).ow ⟨(M32.write W c z.cps.toList a0).z.toArray⟩
      rw [← toD_is] at dep
      have g := DGet.k (k := Sum.inl (M32.wCol W c z.cps.toList)) sD2
      rw [hv] at g
      refine ⟨_, rfl, _, rfl, _, rfl, D, u, rfl, g, _, _, dst, du, M32.alike_st _ _, (by intro z; cases z), (by omega), _, rfl, ite2 (fun q => ?_) (fun q => ?_)⟩
      · obtain ⟨H5, g5, r5⟩ := store _ (M32.least_put ST4.keys lst hg (M32.le_of_lt szb.num zu.num q)) wl
        exact ⟨_, rfl, _, rfl, _, rfl, D, H5, rfl, g5, r5 _ _ _ _ _ _ _ _ _ _⟩
      · exact ⟨kvs', ss', _, _, _, _, _, _, _, _, _, _, rfl, fr2, sb2, sD2, ST4, ST5, (M32.least_not lst hg (M32.le_of_not szb.num zu.num (by simpa using q))).iff wl⟩
  · rintro σ H2 ⟨kvs', ss', w4, w5, w6, w7, w8, w9, w10, w11, w12, w13, rfl, sa, sb, sc, S', S2', lst⟩
    refine ⟨sb, ?_⟩
    have s2 : Same H (upd H2 d (.dK kvs)) := fun b o e => by
      by_cases h : b = d
      · rw [h, hkv] at e
        rw [h, upd_same]
        exact e
      · rw [upd_ne h]
        exact sa b o e h
    rw [lkv, List.take_length] at lst
    have av' : M32.AllVal W col left (M32.wSet W z.cps.toList (M32.setOf ss)) := fun x hx => by
      obtain ⟨y, hy, rfl⟩ := hx
      exact (av y hy).write
    refine ⟨_, rfl, hq D _ ss' s2 ⟨kvs', by rw [upd_ne nD]; exact sc, S'.updD (.fz sb)⟩ ?_ (lst.cov av')⟩
    intro e
    obtain ⟨p, hp⟩ := List.exists_mem_of_ne_nil ss nss
    obtain ⟨y, hy, _⟩ := lst.2 _ ⟨p, hp, rfl⟩
    rw [e] at hy
    cases hy
end
end K33

namespace K33
open PySem PySem.Spec PyProof.Rows L2 Vk
/-! ### broken, with content -/
def spBrG (K : PySem.W.Frag) : Sp := fun vs H Q _ => ∃ (d : Addr) (st L W : Int) (B : Nat) (ss : List M32.At), vs = [.ref d, .int st, .int L, .int W] ∧ StAt K H d ss B W ∧ ss ≠ [] ∧ 0 ≤ st ∧ 0 ≤ L ∧ 0 ≤ W ∧ W ≤ 60 ∧ B ≤ 1000000 ∧
  ∀ u H' ss', Same H H' → StAt K H' u ss' (B + 1) W → ss' ≠ [] → M32.Cov (M32.setOf ss') (M32.bSet W L st (M32.setOf ss)) → Q (.ref u) H'
theorem Par.snd {K : PySem.W.Frag} {H : Hp} {B : Nat} : ∀ {kvs : List (Key × V)} {ss : List M32.At}, Par K H B kvs ss → DpAll K H (kvs.map Prod.snd) ((ss.map Prod.snd).map M32.toD)
  | _, _, .nil => .nil
  | _, _, .cons d _ r => .cons d (Par.snd r)
theorem Par.sz {K : PySem.W.Frag} {H : Hp} {B : Nat} : ∀ {kvs : List (Key × V)} {ss : List M32.At}, Par K H B kvs ss → ∀ p ∈ ss, SzOk p.2 B
  | _, _, .nil, _, h => by cases h
  | _, _, .cons _ z r, p, h => by
    rcases List.mem_cons.mp h with rfl | h
    · exact z
    · exact Par.sz r p h
theorem toD_depth (s : M32.St) : (M32.toD s).depth ≤ 4 := by
  rw [toD_is]
  exact st_depth ..
theorem toDs_depth : ∀ xs : List M32.St, PyData.depthAll (xs.map M32.toD) ≤ 4
  | [] => by decide
  | x :: xs => by
    have h1 := toD_depth x
    have h2 := toDs_depth xs
    show max (M32.toD x).depth (PyData.depthAll (xs.map M32.toD)) ≤ 4
    omega
theorem toD_none (s : M32.St) : M32.toD s ≠ .none := fun z => by cases z
/-- min(list(d.values())), with content -/
theorem stg_min {K : PySem.W.Frag} {H : Hp} {kvs : List (Key × V)} {ss : List M32.At} {B : Nat} {W : Int} {r : Addr} (hr : H r = none) (S : StsG K H kvs ss B W) (ne : ss ≠ []) :
    ∃ (d : PyData) (ds : List PyData) (m : M32.At), DpAll K (upd H r (.lst (kvs.map Prod.snd))) (kvs.map Prod.snd) (d :: ds) ∧ PySem.W.AlikeAll (d :: ds) ∧ PyData.depthAll (d :: ds) ≤ 60 ∧ PySem.W.minD d ds = M32.toD m.2 ∧ m ∈ ss ∧ SzOk m.2 B ∧ ∀ x ∈ ss, M32.LeA m.2 x.2 := by
  have s := same_new (o := .lst (kvs.map Prod.snd)) hr
  have dd := (S.same s).par.snd
  have sz := S.par.sz
  cases ss with
  | nil => exact absurd rfl ne
  | cons p ss =>
    obtain ⟨m, hm, em, lm⟩ := M32.min_st (ss.map Prod.snd) p.2 fun y hy => by
      have hy' : y ∈ (p :: ss).map Prod.snd := hy
      obtain ⟨q, hq, rfl⟩ := List.mem_map.mp hy'
      exact (sz q hq).num
    have hm' : m ∈ (p :: ss).map Prod.snd := hm
    obtain ⟨q, hq, rfl⟩ := List.mem_map.mp hm'
    have dp := toDs_depth ((p :: ss).map Prod.snd)
    refine ⟨M32.toD p.2, (ss.map Prod.snd).map M32.toD, q, dd, ⟨fun x hx y hy => ?_, fun x hx => ?_⟩, Nat.le_trans dp (by decide), em, hq, sz q hq, fun x hx => lm x.2 (show x.2 ∈ (p :: ss).map Prod.snd from List.mem_map.mpr ⟨x, hx, rfl⟩)⟩
    · have hx' : x ∈ ((p :: ss).map Prod.snd).map M32.toD := hx
      have hy' : y ∈ ((p :: ss).map Prod.snd).map M32.toD := hy
      obtain ⟨a, _, rfl⟩ := List.mem_map.mp hx'
      obtain ⟨b, _, rfl⟩ := List.mem_map.mp hy'
      exact M32.alike_st a b
    · have hx' : x ∈ ((p :: ss).map Prod.snd).map M32.toD := hx
      obtain ⟨a, _, rfl⟩ := List.mem_map.mp hx'
      exact toD_none a
theorem brk_rs {W L st : Int} {a : M32.St} : M32.pgs (M32.brk W L st a).rs = M32.pstep (M32.pgs a.rs) (a.ow, a.z) := M32.pgs_snoc _ _
theorem srs_len (a : M32.St) : (srs a).length = (M32.pgs a.rs).2.length := by
  unfold srs
  rw [List.length_map]
/-- the page is full -/
theorem brk_full {W L st : Int} {a : M32.St} (h : (srs a).length + 1 = 50) : sfs (M32.brk W L st a) = sfs a ++ [srs a ++ [(a.ow, (⟨a.z.toArray⟩ : Str))]] ∧ srs (M32.brk W L st a) = [] := by
  have c : ((M32.pgs a.rs).2 ++ [(a.ow, a.z)]).length = 50 := by
    rw [List.length_append, ← srs_len]
    exact h
  have e : M32.pgs (M32.brk W L st a).rs = ((M32.pgs a.rs).1 ++ [(M32.pgs a.rs).2 ++ [(a.ow, a.z)]], []) := by
    rw [brk_rs]
    unfold M32.pstep
    rw [if_pos c]
  constructor
  · show (M32.pgs (M32.brk W L st a).rs).1.map _ = _
    rw [e, List.map_append]
    show (M32.pgs a.rs).1.map _ ++ [((M32.pgs a.rs).2 ++ [(a.ow, a.z)]).map sRow] = _
    rw [List.map_append]
    rfl
  · show (M32.pgs (M32.brk W L st a).rs).2.map _ = _
    rw [e]
    rfl
theorem brk_not {W L st : Int} {a : M32.St} (h : ¬ (srs a).length + 1 = 50) : sfs (M32.brk W L st a) = sfs a ∧ srs (M32.brk W L st a) = srs a ++ [(a.ow, (⟨a.z.toArray⟩ : Str))] := by
  have c : ¬ ((M32.pgs a.rs).2 ++ [(a.ow, a.z)]).length = 50 := by
    rw [List.length_append, ← srs_len]
    exact h
  have e : M32.pgs (M32.brk W L st a).rs = ((M32.pgs a.rs).1, (M32.pgs a.rs).2 ++ [(a.ow, a.z)]) := by
    rw [brk_rs]
    unfold M32.pstep
    rw [if_neg c]
  constructor
  · show (M32.pgs (M32.brk W L st a).rs).1.map _ = _
    rw [e]
    rfl
  · show (M32.pgs (M32.brk W L st a).rs).2.map _ = _
    rw [e, List.map_append]
    rfl
theorem br_eq {W L st : Int} {a : M32.St} : M32.toD (M32.brk W L st a) = stD (a.ex + (if L + st - W > 0 then L + st - W else 0)) (a.ln + 1) (sfs (M32.brk W L st a)) (srs (M32.brk W L st a)) st "" := by
  rw [toD_is]
  have e1 : (M32.brk W L st a).ex = a.ex + (if L + st - W > 0 then L + st - W else 0) := by
    show a.ex + max 0 (L + st - W) = _
    split <;> omega
  rw [e1]
  rfl
theorem SzOk.brk {W L st : Int} {a : M32.St} {B : Nat} (h : SzOk a B) : SzOk (M32.brk W L st a) (B + 1) := by
  refine ⟨?_, fun c hc => (by cases hc), fun r hr => ?_, h.num.brk⟩
  · show 0 + (a.rs ++ [(a.ow, a.z)]).length ≤ B + 1
    have := h.len
    rw [List.length_append]
    show 0 + (a.rs.length + 1) ≤ B + 1
    omega
  · rcases List.mem_append.mp hr with hr | hr
    · exact h.rs r hr
    · rw [List.mem_singleton.mp hr]
      exact h.z
section
variable {P : Program} {w : World} {K : PySem.W.Frag} {mg : Str → Option Value} {base : Heap} {k : Nat}
theorem ok_brG (T : Tx K mg) : FnOk P w K mg base CX0 (k + 1) T.a_broken T.d_broken P_broken (spBrG K) := by
  refine T.F_broken.ok sc_broken (fun vs H Q E h => ?_) (fun cdv A outer s H vs Q E hr h => ?_)
  · obtain ⟨d, st, L, W, B, ss, rfl, _⟩ := h
    rfl
  obtain ⟨d, st, L, W, B, ss, rfl, hd, nss, s0, L0, W0, W1, B1, hq⟩ := h
  have hu := hu_of hr
  refine ⟨_, (pss_cons (ps_asg (pe_callB (cr_minD rfl hr.units) rfl T.z_min (by decide +kernel) (pa_cons (pe_listVals rfl (pv 0) rfl T.z_list (by decide +kernel)) pa_nil)) (pg_tup rfl (pgs_cons (pg_name (i := 4) sc_broken.nd rfl (Or.inl rfl)) (pgs_cons (pg_name (i := 5) sc_broken.nd rfl (Or.inl rfl)) (pgs_cons (pg_name (i := 6) sc_broken.nd rfl (Or.inl rfl)) (pgs_cons (pg_name (i := 7) sc_broken.nd rfl (Or.inl rfl)) (pgs_cons (pg_name (i := 8) sc_broken.nd rfl (Or.inl rfl)) (pgs_cons (pg_name (i := 9) sc_broken.nd rfl (Or.inl rfl)) pgs_nil))))))))
(pss_cons (ps_set (i := 7) sc_broken.nd rfl (Or.inl rfl) (pe_op op_catA (pv 7) (pe_tup (pa_cons (pe_tup (pa_cons (pv 8) (pa_cons (pv 9) pa_nil))) pa_nil))))
(pss_cons (ps_if (pt_cmpR (op_eqD hr.units) (pe_callB call_len rfl T.z_len (by decide +kernel) (pa_cons (pv 7) pa_nil)) (pe_glob (v := .int 50) rfl T.c_PAGE T.r_PAGE) (nomark _))
(pss_one (ps_par (i := 6) (j := 7) rfl sc_broken.nd rfl rfl (by decide) rfl rfl (pa_cons (pe_op op_catA (pv 6) (pe_tup (pa_cons (pv 7) pa_nil))) (pa_cons (pe_tup pa_nil) pa_nil)) rfl))
pss_nil)
(pss_cons (ps_set (i := 10) sc_broken.nd rfl (Or.inl rfl) (pe_op op_add (pv 2) (pv 1)))
(pss_one (ps_ret (pe_disp (pps_cons (pe_callB (call_min2 rfl) rfl T.z_min (by decide +kernel) (pa_cons (pv 10) (pa_cons (pv 3) pa_nil))) (pe_tup (pa_cons (pe_op op_add (pv 4) (pe_callB (call_max2 rfl) rfl T.z_max (by decide +kernel) (pa_cons pe_int (pa_cons (pe_op op_sub (pv 10) (pv 3)) pa_nil)))) (pa_cons (pe_op op_add (pv 5) pe_int) (pa_cons (pv 6) (pa_cons (pv 7) (pa_cons (pv 1) (pa_cons pe_str pa_nil))))))) pps_nil) rfl rfl (by simp) (by decide)))))))), ?_⟩
  obtain ⟨kvs, hkv, S⟩ := hd
  refine ⟨_, rfl, d, kvs, rfl, hkv, fun q0 hq0 => ?_⟩
  obtain ⟨d0, ds, m, dd, al, dp, em, hm, zm, lm⟩ := stg_min hq0 S nss
  have s1 := same_new (o := .lst (kvs.map Prod.snd)) hq0
  refine ⟨q0, _, d0, ds, rfl, .of upd_same, dd, al, dp, fun y hy dy => ?_⟩
  rw [em, toD_is] at dy
  generalize upd H q0 (.lst (kvs.map Prod.snd)) = H1 at s1 dy ⊢
  obtain ⟨bz, nz, kz, qz⟩ := zm.fin
  have fullE := brk_full (W := W) (L := L) (st := st) (a := m.2)
  have notE := brk_not (W := W) (L := L) (st := st) (a := m.2)
  have brE := br_eq (W := W) (L := L) (st := st) (a := m.2)
  obtain ⟨e, he⟩ : ∃ e, e = m.2.ex := ⟨_, rfl⟩
  obtain ⟨l, hl⟩ : ∃ l, l = m.2.ln := ⟨_, rfl⟩
  obtain ⟨o, ho⟩ : ∃ o, o = m.2.ow := ⟨_, rfl⟩
  obtain ⟨z, hz⟩ : ∃ z : Str, z = ⟨m.2.z.toArray⟩ := ⟨_, rfl⟩
  obtain ⟨fs, hfs⟩ : ∃ fs, fs = sfs m.2 := ⟨_, rfl⟩
  obtain ⟨rs, hrs⟩ : ∃ rs, rs = srs m.2 := ⟨_, rfl⟩
  obtain ⟨fs2, hfs2⟩ : ∃ fs, fs = sfs (M32.brk W L st m.2) := ⟨_, rfl⟩
  obtain ⟨rs2, hrs2⟩ : ∃ rs, rs = srs (M32.brk W L st m.2) := ⟨_, rfl⟩
  rw [← hfs2, ← hrs2] at fullE notE brE
  rw [← he, ← hl] at brE
  rw [← hrs, ← hfs, ← ho, ← hz] at fullE notE
  rw [← hz, ← hrs, ← hfs] at bz
  rw [← hfs] at nz
  rw [← he, ← hl, ← hfs, ← hrs, ← ho, ← hz] at dy
  have lf := flat_len nz
  obtain ⟨a, f, r, rfl, ta, df, dr⟩ := st_at dy
  refine ⟨a, _, rfl, ta, rfl, _, _, rfl, _, _, rfl, _, _, rfl, _, _, rfl, _, _, rfl, _, _, rfl, rfl, ?_⟩
  obtain ⟨ra, rxs, rfl, rs1, rds⟩ := Dp.ofTup dr
  obtain ⟨fa, fxs, rfl, ft1, fds⟩ := Dp.ofTup df
  have lrx : rxs.length = rs.length := by
    have := DpAll.length rds
    simpa using this
  have lfx : fxs.length = fs.length := by
    have := DpAll.length fds
    simpa using this
  refine nxI ?_
  refine seq_cut (fun σ' H' => ∃ (u : Addr), σ' = [some (.ref d), some (.int st), some (.int L), some (.int W), some (.int e), some (.int l), some (.ref fa), some (.ref u), some (.int o), some (.str z), none] ∧ Same H1 H' ∧ Dp K H' (.ref u) (.tuple ((rs ++ [(o, z)]).map rowD))) (fun σ' H' hR => ?_) (fun nx => ?_)
  rotate_left
  · refine ⟨_, rfl, _, rfl, _, rfl, (by show 2 ≤ sizeLine; decide), fun t1 ht1 => ⟨(by show 1 ≤ sizeLine; decide), fun t2 ht2 => ?_⟩⟩
    have s2 := same_new (o := .tup [.int o, .str z]) ht1
    have s3 := same_new (o := .tup [.ref t1]) ht2
    have d1 : Dp K (upd (upd H1 t1 (.tup [.int o, .str z])) t2 (.tup [.ref t1])) (.ref t1) (rowD (o, z)) := .tup (Same.seqT s3 (.of upd_same)) (.cons (.int o) (.cons (.str z) .nil))
    have d2 : SqT K (upd (upd H1 t1 (.tup [.int o, .str z])) t2 (.tup [.ref t1])) t2 [.ref t1] := .of upd_same
    have s13 := s2.trans s3
    generalize upd (upd H1 t1 (.tup [.int o, .str z])) t2 (.tup [.ref t1]) = H2 at d1 d2 s13 ⊢
    have lim : rxs.length + 1 ≤ sizeLine := by
      rw [lrx]
      refine Nat.le_trans (m := 1000001) ?_ (by decide)
      show rs.length + 1 ≤ 1000001
      omega
    have drs : Dp K H2 (.ref ra) (.tuple (rs.map rowD)) := Dp.same s13 (.tup rs1 rds)
    refine ⟨ra, t2, rxs, [.ref t1], rfl, rfl, Same.seqT s13 rs1, d2, lim, fun h0 => ?_, (fun _ h => by cases h), fun _ _ u hu => ?_⟩
    · have e0 : rs = [] := List.eq_nil_of_length_eq_zero (by rw [← lrx, h0]; rfl)
      refine gn (nx _ _ ⟨t2, rfl, s13, ?_⟩)
      rw [e0]
      exact .tup d2 (.cons d1 .nil)
    · have s4 := same_new (o := .tup (rxs ++ [.ref t1])) hu
      refine gn (nx _ _ ⟨u, rfl, s13.trans s4, ?_⟩)
      rw [List.map_append]
      exact .tup (.of upd_same) (DpAll.append (DpAll.same (s13.trans s4) rds) (.cons (Dp.same s4 d1) .nil))
  obtain ⟨u, rfl, s5, du⟩ := hR
  refine seq_cut (fun σ'' H'' => ∃ (fu v : Addr), σ'' = [some (.ref d), some (.int st), some (.int L), some (.int W), some (.int e), some (.int l), some (.ref fu), some (.ref v), some (.int o), some (.str z), none] ∧ Same H1 H'' ∧ Dp K H'' (.ref fu) (.tuple (fs2.map pgD)) ∧ Dp K H'' (.ref v) (.tuple (rs2.map rowD))) (fun σ'' H2 hR => ?_) (fun nx => ?_)
  rotate_left
  · obtain ⟨_, uxs, e0, us, uds⟩ := Dp.ofTup du
    cases e0
    have lux : uxs.length = rs.length + 1 := by
      have := DpAll.length uds
      simpa using this
    refine ⟨_, rfl, _, _, rfl, .inr ⟨_, us, rfl⟩, _, _, .int _, .int _, rfl, rfl, _, rfl, ite2 (fun q5 => ?_) (fun q5 => ?_)⟩
    · rw [M32.eqv_int, lux] at q5
      obtain ⟨f1, f2⟩ := fullE (by have := of_decide_eq_true q5; omega)
      rw [f1, f2] at nx
      refine ⟨_, rfl, _, rfl, (by show 1 ≤ sizeLine; decide), fun t3 ht3 => ?_⟩
      have s3 := same_new (o := .tup [.ref u]) ht3
      have dt : Dp K (upd H' t3 (.tup [.ref u])) (.ref t3) (.tuple [pgD (rs ++ [(o, z)])]) := .tup (.of upd_same) (.cons (Dp.same s3 (.tup us uds)) .nil)
      have d3 : SqT K (upd H' t3 (.tup [.ref u])) t3 [.ref u] := .of upd_same
      have s53 := s5.trans s3
      generalize upd H' t3 (.tup [.ref u]) = H3 at dt d3 s3 s53 ⊢
      have lim : fxs.length + 1 ≤ sizeLine := by
        rw [lfx]
        refine Nat.le_trans (m := 1000001) ?_ (by decide)
        omega
      refine ⟨fa, t3, fxs, [.ref u], rfl, rfl, Same.seqT s53 ft1, d3, lim, fun h0 => ?_, (fun _ h => by cases h), fun _ _ fu hfu => ?_⟩
      · have e0 : fs = [] := List.eq_nil_of_length_eq_zero (by rw [← lfx, h0]; rfl)
        refine ⟨(by show 0 ≤ sizeLine; decide), fun r0 hr0 => ?_⟩
        have s4 := same_new (o := .tup []) hr0
        refine ⟨_, _, rfl, nx _ _ ⟨t3, r0, rfl, s53.trans s4, ?_, .tup (.of upd_same) .nil⟩⟩
        rw [e0]
        exact Dp.same s4 dt
      · have s4 := same_new (o := .tup (fxs ++ [.ref u])) hfu
        refine ⟨(by show 0 ≤ sizeLine; decide), fun r0 hr0 => ?_⟩
        have s6 := same_new (o := .tup []) hr0
        refine ⟨_, _, rfl, nx _ _ ⟨fu, r0, rfl, s53.trans (s4.trans s6), ?_, .tup (.of upd_same) .nil⟩⟩
        obtain ⟨_, _, e1, dx, dy⟩ := Dp.ofTup dt
        cases e1
        rw [List.map_append]
        exact .tup (Same.seqT s6 (.of upd_same)) (DpAll.append (DpAll.same (s53.trans (s4.trans s6)) fds) (.cons (Dp.same (s3.trans (s4.trans s6)) (.tup us uds)) .nil))
    · rw [M32.eqv_int, lux] at q5
      obtain ⟨f1, f2⟩ := notE fun h => q5 (decide_eq_true (by omega))
      rw [f1, f2] at nx
      exact nx _ _ ⟨fa, u, rfl, s5, Dp.same s5 (.tup ft1 fds), .tup us uds⟩
  obtain ⟨fu, v, rfl, s6, dfu, dv⟩ := hR
  have mn : ∀ c : Int, c = L + st → 0 ≤ (if W < c then W else c) ∧ (if W < c then W else c) ≤ W := fun c hc => by
    split <;> omega
  refine ⟨_, rfl, _, rfl, _, _, rfl, rfl, fun q hq' => ?_⟩
  have nqd : ∀ b u, H2 b = some u → b ≠ q := fun b u e => ne_of_none e hq'
  have sq := same_new (o := .dK []) hq'
  refine ⟨_, rfl, _, rfl, _, _, rfl, _, rfl, _, rfl, _, rfl, _, _, rfl, rfl, _, _, rfl, _, _, rfl, rfl, _, rfl, _, _, rfl, rfl, _, rfl, _, rfl, _, rfl, (by show 6 ≤ sizeLine; decide), fun p hp => ?_⟩
  have sp := same_new (o := .tup [.int (e + (if L + st - W > 0 then L + st - W else 0)), .int (l + 1), .ref fu, .ref v, .int st, .str ""]) hp
  have kq : upd (upd H2 q (.dK [])) p (.tup [.int (e + (if L + st - W > 0 then L + st - W else 0)), .int (l + 1), .ref fu, .ref v, .int st, .str ""]) q = some (.dK []) := sp _ _ upd_same
  refine ⟨kq, [(Sum.inl _, .ref p)], rfl, by simp, ?_⟩
  obtain ⟨m0, m1⟩ := mn _ rfl
  have ec : min (L + st) W = if W < L + st then W else L + st := by split <;> omega
  refine hq q _ [((if W < L + st then W else L + st), M32.brk W L st m.2)] (s1.trans (s6.trans (same_updD hq' (sq.trans sp)))) ⟨_, upd_same, ⟨.cons ?_ zm.brk .nil, by simp [M32.Keys], fun c hc => ?_⟩⟩ (by simp) ?_
  · refine Dp.updD (.dK kq) ?_ (toD_noL _)
    rw [brE]
    exact .tup (.of upd_same) (.cons (.int _) (.cons (.int _) (.cons (Dp.same (sq.trans sp) dfu) (.cons (Dp.same (sq.trans sp) dv) (.cons (.int _) (.cons (.str _) .nil))))))
  · rw [List.mem_singleton.mp hc]
    exact ⟨m0, m1⟩
  · rw [← ec]
    have c := (M32.Cov.refl (M32.setOf ss)).brk (W := W) (left := L) (st := st) (m := m) hm lm
    have e : M32.setOf [(min (L + st) W, M32.brk W L st m.2)] = fun x => x = (min (L + st) W, M32.brk W L st m.2) := funext fun x => propext List.mem_singleton
    rw [e]
    exact c
end
end K33

namespace K33
open PySem PySem.Spec PyProof.Rows L2 Vk
/-! ### pruned, with content: the pure part -/
theorem starts_iff (x y : List Nat) : Txt.startswith (⟨x.toArray⟩ : Str) (⟨y.toArray⟩ : Str) = true ↔ y <+: x := by
  have e : Txt.startswith (⟨x.toArray⟩ : Str) (⟨y.toArray⟩ : Str) = (decide (y.length ≤ x.length) && decide (x.take y.length = y)) := by
    have l1 : (⟨x.toArray⟩ : Str).length = x.length := by
      show x.toArray.size = _
      simp
    have l2 : (⟨y.toArray⟩ : Str).length = y.length := by
      show y.toArray.size = _
      simp
    unfold Txt.startswith Builtin.Str.subAt
    rw [l1, l2, Nat.zero_add]
    have q : (x.toArray.extract 0 y.length == y.toArray) = decide (x.take y.length = y) := by
      have q1 : x.toArray.extract 0 y.length = (x.take y.length).toArray := by simp
      rw [q1]
      by_cases h : x.take y.length = y
      · rw [h]
        simp
      · rw [decide_eq_false h]
        refine Bool.eq_false_iff.mpr fun z => h ?_
        have z' := beq_iff_eq.mp z
        simpa using congrArg Array.toList z'
    exact congrArg (decide (y.length ≤ x.length) && ·) q
  rw [e, Bool.and_eq_true, decide_eq_true_eq, decide_eq_true_eq]
  constructor
  · rintro ⟨_, h⟩
    rw [← h]
    exact List.take_prefix ..
  · intro h
    exact ⟨h.length_le, (List.prefix_iff_eq_take.mp h).symm⟩
theorem eqv_five (a b : M32.St) : PyData.eqv (.tuple [.int a.ex, .int a.ln, .tuple ((M32.pgs a.rs).1.map M32.pageD), .tuple ((M32.pgs a.rs).2.map M32.rD), .int a.ow]) (.tuple [.int b.ex, .int b.ln, .tuple ((M32.pgs b.rs).1.map M32.pageD), .tuple ((M32.pgs b.rs).2.map M32.rD), .int b.ow]) = decide (a.ex = b.ex ∧ a.ln = b.ln ∧ a.rs = b.rs ∧ a.ow = b.ow) := by
  have e : ∀ (x y : PyData) (xs ys : List PyData), PyData.eqvAll (x :: xs) (y :: ys) = (PyData.eqv x y && PyData.eqvAll xs ys) := fun x y xs ys => by rw [PyData.eqvAll]
  have n : PyData.eqvAll [] [] = true := by simp [PyData.eqvAll]
  rw [PyData.eqv, e, e, e, e, e, n, M32.eqv_int, M32.eqv_int, M32.eqv_pages, M32.eqv_rs, M32.eqv_int]
  have q : (decide ((M32.pgs a.rs).1 = (M32.pgs b.rs).1) && decide ((M32.pgs a.rs).2 = (M32.pgs b.rs).2)) = decide (a.rs = b.rs) := by
    by_cases h : a.rs = b.rs
    · rw [h]
      simp
    · rw [decide_eq_false h]
      refine Bool.eq_false_iff.mpr fun z => h ?_
      rw [Bool.and_eq_true, decide_eq_true_eq, decide_eq_true_eq] at z
      exact M32.pgs_inj z.1 z.2
  rw [← Bool.and_assoc (decide ((M32.pgs a.rs).1 = (M32.pgs b.rs).1)), q]
  by_cases h1 : a.ex = b.ex <;> by_cases h2 : a.ln = b.ln <;> by_cases h3 : a.rs = b.rs <;> by_cases h4 : a.ow = b.ow <;> simp [h1, h2, h3, h4]
/-- the states of some columns, in their order -/
def seenL (ss : List M32.At) (cs : List Int) : List M32.At := cs.filterMap fun c => (M32.getL ss c).map fun s => (c, s)
theorem seen_mem {ss : List M32.At} {cs : List Int} {x : M32.At} : x ∈ seenL ss cs ↔ x.1 ∈ cs ∧ M32.getL ss x.1 = some x.2 := by
  unfold seenL
  rw [List.mem_filterMap]
  constructor
  · rintro ⟨c, hc, e⟩
    obtain ⟨s, hs, rfl⟩ := Option.map_eq_some_iff.mp e
    exact ⟨hc, hs⟩
  · rintro ⟨hc, hs⟩
    exact ⟨x.1, hc, by rw [hs]; rfl⟩
theorem get_of_mem : ∀ {ss : List M32.At}, M32.Keys ss → ∀ {x : M32.At}, x ∈ ss → M32.getL ss x.1 = some x.2 := fun {ss} k {x} hx => by
  cases h : M32.getL ss x.1 with
  | none => exact absurd rfl (M32.getL_none h x hx)
  | some m => rw [M32.keys_one k (M32.getL_mem h) hx]
theorem seen_all {ss : List M32.At} {cs : List Int} (k : M32.Keys ss) (p : cs.Perm (ss.map (·.1))) : ∀ x, x ∈ seenL ss cs ↔ x ∈ ss := fun x => by
  rw [seen_mem]
  constructor
  · rintro ⟨_, h⟩
    exact M32.getL_mem h
  · exact fun h => ⟨p.mem_iff.mpr (List.mem_map.mpr ⟨x, h, rfl⟩), get_of_mem k h⟩
theorem seen_snoc {ss : List M32.At} {ys : List Int} {i : Nat} {c : Int} {s : M32.St} (h : ys[i]? = some c) (g : M32.getL ss c = some s) : seenL ss (ys.take (i + 1)) = seenL ss (ys.take i) ++ [(c, s)] := by
  unfold seenL
  rw [List.take_add_one, h, List.filterMap_append]
  show _ ++ [c].filterMap _ = _
  rw [List.filterMap_cons, g]
  rfl
/-- a column that was not seen is put behind -/
theorem put_new {ss : List M32.At} {c : Int} {s : M32.St} (h : ∀ p ∈ ss, p.1 ≠ c) : M32.putL ss c s = ss ++ [(c, s)] := by
  unfold M32.putL
  rw [if_neg]
  intro e
  obtain ⟨p, hp, q⟩ := List.any_eq_true.mp e
  exact h p hp (of_decide_eq_true q)
theorem take_le {ys : List Int} (p : ys.Pairwise (· ≤ ·)) {i : Nat} {c a : Int} (h : ys[i]? = some c) (m : a ∈ ys.take i) : a ≤ c := by
  obtain ⟨j, hj⟩ := List.mem_iff_getElem?.mp m
  obtain ⟨hi, e⟩ := List.getElem?_eq_some_iff.mp h
  rw [List.getElem?_take] at hj
  split at hj
  · rename_i l
    obtain ⟨hj', e'⟩ := List.getElem?_eq_some_iff.mp hj
    rw [← e, ← e']
    exact List.pairwise_iff_getElem.mp p j i hj' hi l
  · cases hj
theorem take_ne {ys : List Int} (p : ys.Nodup) {i : Nat} {c a : Int} (h : ys[i]? = some c) (m : a ∈ ys.take i) : a ≠ c := by
  obtain ⟨j, hj⟩ := List.mem_iff_getElem?.mp m
  obtain ⟨hi, e⟩ := List.getElem?_eq_some_iff.mp h
  rw [List.getElem?_take] at hj
  split at hj
  · rename_i l
    obtain ⟨hj', e'⟩ := List.getElem?_eq_some_iff.mp hj
    rw [← e, ← e']
    exact List.pairwise_iff_getElem.mp p j i hj' hi l
  · cases hj
def spPrG (K : PySem.W.Frag) : Sp := fun vs H Q _ => ∃ (d : Addr) (B : Nat) (W : Int) (ss : List M32.At), vs = [.ref d] ∧ StAt K H d ss B W ∧ 0 ≤ W ∧ W ≤ 60 ∧ ∀ u H' ss', Same H H' → StAt K H' u ss' B W → M32.Cov (M32.setOf ss') (M32.setOf ss) → Q (.ref u) H'
def PrG (K : PySem.W.Frag) (H : Hp) (d p1 p : Addr) (B : Nat) (W : Int) (ss : List M32.At) (ys : List Int) (i : Nat) (σ : L2.St) (H' : Hp) : Prop :=
  ∃ (kvs' : List (Key × V)) (ss' : List M32.At) (lv : V) (v3 v4 : Option V) (m : Option M32.At), σ = [some (.ref d), some (.ref p1), some lv, v3, v4] ∧ Same H H' ∧ H' p = some (.lst (ys.map V.int)) ∧ H' p1 = some (.dK kvs') ∧ StsG K H' kvs' ss' B W ∧
  M32.Pr (seenL ss (ys.take i)) ss' m ∧ (m = none → lv = .non) ∧ ∀ y, m = some y → Dp K H' lv (M32.toD y.2) ∧ SzOk y.2 B ∧ y.1 ∈ ys.take i
section
variable {P : Program} {w : World} {K : PySem.W.Frag} {mg : Str → Option Value} {base : Heap} {k : Nat}
theorem ok_prG (T : Tx K mg) : FnOk P w K mg base CX0 (k + 1) T.a_pruned T.d_pruned P_pruned (spPrG K) := by
  refine T.F_pruned.ok sc_pruned (fun vs H Q E h => ?_) (fun cdv A outer s H vs Q E hr h => ?_)
  · obtain ⟨d, B, W, ss, rfl, _⟩ := h
    rfl
  obtain ⟨d, B, W, ss, rfl, hd, W0, W1, hq⟩ := h
  have hu := hu_of hr
  refine ⟨_, (pss_cons (ps_set (i := 1) sc_pruned.nd rfl (Or.inl rfl) pe_dnewK)
(pss_cons (ps_set (i := 2) sc_pruned.nd rfl (Or.inl rfl) pe_non)
(pss_cons (ps_for PassesOwn.never rfl (pi_list (pe_callB (call_sortedDI rfl) rfl T.z_sorted (by decide +kernel) (pa_cons (pv 0) pa_nil))) (pg_name (i := 3) sc_pruned.nd rfl (Or.inl rfl))
(pss_cons (ps_set (i := 4) sc_pruned.nd rfl (Or.inl rfl) (pe_dget hu (pv 0) (pv 3) (fun _ _ => rfl)))
(pss_one (ps_if (PW.pt (pw_or (pt_cmpR op_isN (pv 2) pe_non (nomark _)) (pw_or1 (pt_cmpR (op_ltD hr.units) (pv 4) (pv 2) (nomark _)))))
(pss_cons (ps_set (i := 2) sc_pruned.nd rfl (Or.inl rfl) (pv 4))
(pss_one (ps_dput hu (pv 1) (pv 3) (pv 4) rfl)))
(pss_one (ps_if (PW.pt (pw_and (pt_cmpR (op_eqD hr.units) (pe_slice sl_tupA (pv 4) po_none (po_some pe_int)) (pe_slice sl_tupA (pv 2) po_none (po_some pe_int)) (nomark _)) (pw_and1 (pt_val (pe_m1 PySem.F.slot_str_startswith PySem.F.type_str_startswith mt_startswith (pe_ix ix_tup (pv 4) pe_int (fun _ _ => rfl)) (pe_ix ix_tup (pv 2) pe_int (fun _ _ => rfl)))))))
(pss_one (ps_dput hu (pv 1) (pv 3) (pv 4) rfl))
pss_nil))))))
(pss_one (ps_ret (pv 1)))))), ?_⟩
  obtain ⟨kvs, hkv, S⟩ := hd
  have ek := S.par.keys
  have l64 : (ss.map (·.1)).length < 64 := by
    have l1 := S.old.len W0 W1
    have l2 : kvs.length = (ss.map (·.1)).length := by simpa using congrArg List.length ek
    omega
  intro p1 hp1
  have s1 := same_new (o := .dK []) hp1
  refine ⟨_, rfl, d, kvs, ss.map (·.1), rfl, .inl (s1 _ _ hkv), ek, l64, fun ys p pm srt hp => ?_⟩
  have nd : ys.Nodup := pm.nodup_iff.mpr S.keys
  have n1 : p ≠ p1 := (ne_of_none upd_same hp).symm
  have s2 := s1.trans (same_new (o := .lst (ys.map V.int)) hp)
  have kp : upd (upd H p1 (.dK [])) p (.lst (ys.map V.int)) p1 = some (.dK []) := by rw [upd_ne n1.symm, upd_same]
  have kl : upd (upd H p1 (.dK [])) p (.lst (ys.map V.int)) p = some (.lst (ys.map V.int)) := upd_same
  generalize upd (upd H p1 (.dK [])) p (.lst (ys.map V.int)) = Hb at s2 kp kl ⊢
  refine ⟨p, rfl, ⟨_, .of kl⟩, for_list (a := p) (xs := ys.map V.int) (PrG K H d p1 p B W ss ys)
    ⟨[], [], .non, none, none, none, rfl, s2, kl, kp, .nil, .nil, fun _ => rfl, fun y h => (by cases h)⟩ (fun i σ H' _ q => by obtain ⟨_, _, _, _, _, _, _, _, q, _⟩ := q; exact .of q) ?_ ?_⟩
  · rintro i x σ H1 hx ⟨kvs', ss', lv, v3, v4, m, rfl, sa, ka, kb, S', pr, hn, hs⟩
    rw [List.getElem?_map] at hx
    obtain ⟨c1, hc1, rfl⟩ := Option.map_eq_some_iff.mp hx
    have m1 : c1 ∈ ss.map (·.1) := pm.mem_iff.mp (List.mem_of_getElem? hc1)
    obtain ⟨q1, hq1, eq1⟩ := List.mem_map.mp m1
    have g1 : M32.getL ss c1 = some q1.2 := by
      have := get_of_mem S.keys hq1
      rw [eq1] at this
      exact this
    obtain ⟨w0, w1⟩ : 0 ≤ c1 ∧ c1 ≤ W := by
      have := S.rng q1 hq1
      rw [eq1] at this
      exact this
    obtain ⟨_, e⟩ | ⟨sv, a1, hsv, hg, dv, zv⟩ := S.par.find (c := c1)
    · rw [g1] at e
      cases e
    have gd : DGet H1 d (.int c1) (some sv) := by
      have g := DGet.k (k := Sum.inl c1) (sa _ _ hkv)
      rw [hsv] at g
      exact g
    have dv1 := Dp.same sa dv
    have lz : kvs'.length < sizeLine := Nat.lt_of_le_of_lt (S'.old.len W0 W1) (by decide)
    have sn := seen_snoc hc1 hg
    have new : ∀ q ∈ ss', q.1 ≠ c1 := fun q hq => take_ne nd hc1 (seen_mem.mp (pr.sub q hq)).1
    have mi : ∀ {a : Int}, a ∈ ys.take i → a ∈ ys.take (i + 1) := fun {a} h => by
      rw [List.take_add_one]
      exact List.mem_append_left _ h
    have mc : c1 ∈ ys.take (i + 1) := by
      rw [List.take_add_one, hc1]
      exact List.mem_append_right _ (List.mem_singleton.mpr rfl)
    have store : ∀ (H2 : Hp), Same H1 H2 → ∀ (lv' : V) (y : M32.At), Dp K H2 lv' (M32.toD y.2) → SzOk y.2 B → y.1 ∈ ys.take (i + 1) → M32.Pr (seenL ss (ys.take i) ++ [(c1, a1)]) (ss' ++ [(c1, a1)]) (some y) →
        ∃ H4, DPut H2 p1 (.int c1) sv H4 ∧ PrG K H d p1 p B W ss ys (i + 1) [some (V.ref d), some (.ref p1), some lv', some (.int c1), some sv] H4 := by
      intro H2 s12 lv' y dl zl ml pl
      have kb2 := s12 _ _ kb
      refine ⟨_, DPut.k (k := Sum.inl c1) kb2 lz, _, ss' ++ [(c1, a1)], lv', _, _, some y, rfl, same_updD hp1 (sa.trans s12), by rw [upd_ne n1]; exact s12 _ _ ka, upd_same, ?_, by rw [sn]; exact pl, fun e => (by cases e), fun z e => ?_⟩
      · have g := (S'.same s12).put w0 w1 (Dp.same s12 dv1) zv
        rw [put_new new] at g
        exact g.updD (.dK kb2)
      · cases e
        exact ⟨Dp.updD (.dK kb2) dl (toD_noL _), zl, ml⟩
    refine ⟨_, rfl, _, rfl, d, sv, rfl, gd, ?_⟩
    cases m with
    | none =>
      obtain rfl := hn rfl
      have e0 := pr.none_ rfl
      have e1 : ss' = [] := List.eq_nil_iff_forall_not_mem.mpr fun q hq => by
        have := pr.sub q hq
        rw [e0] at this
        cases this
      refine ⟨_, rfl, rfl, _, rfl, iteT (iteT ?_)⟩
      refine ⟨_, rfl, ?_⟩
      obtain ⟨H4, g4, r4⟩ := store H1 (.refl _) sv (c1, a1) dv1 zv mc (by rw [e0, e1]; exact .first)
      exact ⟨_, rfl, _, rfl, _, rfl, p1, H4, rfl, g4, r4⟩
    | some y =>
      obtain ⟨dl, zl, ml⟩ := hs y rfl
      have ly := take_le srt hc1 ml
      have dv2 := dv1
      have dl2 := dl
      rw [toD_is] at dv2 dl2
      obtain ⟨b1, f1', r1, rfl, t1, v1', u1⟩ := st_at dv2
      obtain ⟨b2, f2', r2, rfl, t2, v2', u2⟩ := st_at dl2
      have dep := toD_depth a1
      refine ⟨_, rfl, rfl, _, rfl, iteF ?_⟩
      refine ⟨_, rfl, _, rfl, _, _, dv1, dl, M32.alike_st _ _, toD_none _, (by omega), _, rfl, ite2 (fun q => ?_) (fun q => ?_)⟩
      · refine ⟨_, rfl, ?_⟩
        obtain ⟨H4, g4, r4⟩ := store H1 (.refl _) (.ref b1) (c1, a1) dv1 zv mc (pr.less (M32.le_of_lt zv.num zl.num q))
        exact ⟨_, rfl, _, rfl, _, rfl, p1, H4, rfl, g4, r4⟩
      · have le : M32.LeA y.2 a1 := M32.le_of_not zv.num zl.num (by simpa using q)
        refine ⟨_, rfl, _, rfl, st_five dv2 fun f1 hf1 y1 w1 x1 => ?_⟩
        have s12 := same_new (o := .tup [.int a1.ex, .int a1.ln, y1, w1, .int a1.ow]) hf1
        refine ⟨_, rfl, _, rfl, st_five (Dp.same s12 dl2) fun f2 hf2 y2 w2 x2 => ?_⟩
        have s23 := same_new (o := .tup [.int y.2.ex, .int y.2.ln, y2, w2, .int y.2.ow]) hf2
        have s13 := s12.trans s23
        have skip : ∀ (H2 : Hp), Same H1 H2 → ¬ (y.2.ex = a1.ex ∧ y.2.ln = a1.ln ∧ y.2.rs = a1.rs ∧ y.2.ow = a1.ow ∧ y.2.z <+: a1.z) → PrG K H d p1 p B W ss ys (i + 1) [some (V.ref d), some (.ref p1), some (.ref b2), some (.int c1), some (.ref b1)] H2 := fun H2 s12 n =>
          ⟨kvs', ss', .ref b2, _, _, some y, rfl, sa.trans s12, s12 _ _ ka, s12 _ _ kb, S'.same s12, by rw [sn]; exact pr.drop ly le n, fun e => (by cases e), fun z e => by
            cases e
            exact ⟨Dp.same s12 dl, zl, mi ml⟩⟩
        have er : ∀ b : M32.St, (srs b).map rowD = (M32.pgs b.rs).2.map M32.rD := fun b => by
          unfold srs
          rw [List.map_map]
          rfl
        have ef : ∀ b : M32.St, (sfs b).map pgD = (M32.pgs b.rs).1.map M32.pageD := fun b => by
          unfold sfs
          rw [List.map_map]
          refine List.map_congr_left fun q _ => ?_
          show PyData.tuple ((q.map sRow).map rowD) = .tuple (q.map M32.rD)
          rw [List.map_map]
          rfl
        have sh1 := five_shaped (e := a1.ex) (l := a1.ln) (o := a1.ow) zv.fin.rk
        have sh2 := five_shaped (e := y.2.ex) (l := y.2.ln) (o := y.2.ow) zl.fin.rk
        have x1' := Dp.same s23 x1
        rw [er, ef] at x1' x2 sh1 sh2
        refine ⟨_, _, x1', x2, sh1, sh2, _, rfl, ite2 (fun q4 => ?_) (fun q4 => ?_)⟩
        · rw [eqv_five] at q4
          obtain ⟨h1, h2, h3, h4⟩ := of_decide_eq_true q4
          refine ⟨_, rfl, b1, _, 5, _, rfl, rfl, Same.seqT s13 t1, rfl, ⟨_, rfl⟩, _, rfl, b2, _, 5, _, rfl, rfl, Same.seqT s13 t2, rfl, _, _, rfl, rfl, _, rfl, ite2 (fun q5 => ?_) (fun q5 => ?_)⟩
          · obtain ⟨H4, g4, r4⟩ := store _ s13 (.ref b2) y (Dp.same s13 dl) zl (mi ml) (pr.keep le)
            exact ⟨_, rfl, _, rfl, _, rfl, p1, H4, rfl, g4, r4⟩
          · exact skip _ s13 fun n => q5 ((starts_iff _ _).mpr n.2.2.2.2)
        · rw [eqv_five] at q4
          exact skip _ s13 fun n => q4 (decide_eq_true ⟨n.1.symm, n.2.1.symm, n.2.2.1.symm, n.2.2.2.1.symm⟩)
  · rintro σ H1 ⟨kvs', ss', lv, v3, v4, m, rfl, sa, ka, kb, S', pr, hn, hs⟩
    rw [List.length_map, List.take_length] at pr
    refine ⟨_, rfl, hq p1 H1 ss' sa ⟨kvs', kb, S'⟩ ?_⟩
    have e : M32.setOf (seenL ss ys) = M32.setOf ss := funext fun x => propext (seen_all S.keys pm x)
    have c := pr.cov
    rw [e] at c
    exact c
end
end K33

namespace K33
open PySem PySem.Spec PyProof.Rows L2 Vk
/-! ### merged, with content -/
def spMgG (K : PySem.W.Frag) : Sp := fun vs H Q _ => ∃ (d1 d2 : Addr) (B : Nat) (W : Int) (ss1 ss2 : List M32.At) (col left : Int), vs = [.ref d1, .ref d2] ∧ StAt K H d1 ss1 B W ∧ StAt K H d2 ss2 B W ∧ 0 ≤ W ∧ W ≤ 60 ∧ M32.AllVal W col left (M32.setOf ss1) ∧ M32.AllVal W col left (M32.setOf ss2) ∧
  ∀ u H' ss', Same H H' → StAt K H' u ss' B W → M32.Cov (M32.setOf ss') (fun x => M32.setOf ss1 x ∨ M32.setOf ss2 x) → Q (.ref u) H'
theorem or_take {L : M32.At → Prop} {ss : List M32.At} {i : Nat} {p : M32.At} (h : ss[i]? = some p) (x : M32.At) : ((L x ∨ M32.setOf (ss.take i) x) ∨ x = p) ↔ (L x ∨ M32.setOf (ss.take (i + 1)) x) := by
  have e : ss.take (i + 1) = ss.take i ++ [p] := by
    rw [List.take_add_one, h]
    rfl
  rw [e]
  constructor
  · rintro ((g | g) | g)
    · exact .inl g
    · exact .inr (List.mem_append_left _ g)
    · exact .inr (List.mem_append_right _ (List.mem_singleton.mpr g))
  · rintro (g | g)
    · exact .inl (.inl g)
    · rcases List.mem_append.mp g with g | g
      · exact .inl (.inr g)
      · exact .inr (List.mem_singleton.mp g)
section
variable {P : Program} {w : World} {K : PySem.W.Frag} {mg : Str → Option Value} {base : Heap} {k : Nat}
theorem ok_mgG (T : Tx K mg) (G_pruned : FnOk P w K mg base CX0 k T.a_pruned T.d_pruned P_pruned (spPrG K)) : FnOk P w K mg base CX0 (k + 1) T.a_merged T.d_merged P_merged (spMgG K) := by
  refine T.F_merged.ok sc_merged (fun vs H Q E h => ?_) (fun cdv A outer s H vs Q E hr h => ?_)
  · obtain ⟨d1, d2, B, W, ss1, ss2, col, left, rfl, _⟩ := h
    rfl
  obtain ⟨d1, d2, B, W, ss1, ss2, col, left, rfl, h1, h2, W0, W1, av1, av2, hq⟩ := h
  have hu := hu_of hr
  refine ⟨_, (pss_cons (ps_lock (ps_setDc (j := 2) (ow := [("column", 3)]) (gt := gName 3) (tt := tYes) ⟨rfl, sc_merged.nd, (pi_keys (pv 0)), (blkOk_by (own := [("column", 3)]) (N := N_merged) (sc := defScope s_merged) (by decide +kernel)), (fun _ _ _ _ _ => (pg_name (i := 3) sc_merged.nd rfl (Or.inl rfl))), (fun _ _ _ _ _ => pts_nil), (fun _ _ _ _ _ => (pv 3)), (fun _ _ _ _ _ => (pe_dget hu (pv 0) (pv 3) (fun _ _ => rfl)))⟩ rfl rfl (swD_true rfl rfl rfl (by decide +kernel))))
(pss_cons (ps_lock (ps_for PassesOwn.never rfl (pi_items (pv 1)) (pg_tup rfl (pgs_cons (pg_name (i := 3) sc_merged.nd rfl (Or.inl rfl)) (pgs_cons (pg_name (i := 4) sc_merged.nd rfl (Or.inl rfl)) pgs_nil)))
(pss_one (ps_if (PW.pt (pw_or (pt_cmp (pc_dnotin hu (pv 3) (pv 2))) (pw_or1 (pt_cmpR (op_ltD hr.units) (pv 4) (pe_dget hu (pv 2) (pv 3) (fun _ _ => rfl)) (nomark _)))))
(pss_one (ps_dput hu (pv 2) (pv 3) (pv 4) rfl))
pss_nil))))
(pss_one (ps_ret (pe_call G_pruned hr rfl T.m_pruned T.F_pruned.kp T.b_pruned .nil pass0 (pa_cons (pv 2) pa_nil)))))), ?_⟩
  obtain ⟨k1, hk1, S1⟩ := h1
  obtain ⟨k2, hk2, S2⟩ := h2
  have l1 : k1.length = ss1.length := by
    have := congrArg List.length S1.par.keys
    simpa using this
  have l2 : k2.length = ss2.length := by
    have := congrArg List.length S2.par.keys
    simpa using this
  -- made: a copy of one
  refine ⟨d1, .dK k1, hk1, trivial, fun od => ?_⟩
  have f1 : upd H d1 (.frz od (.dK k1)) d1 = some (.frz od (.dK k1)) := upd_same
  refine ⟨_, rfl, d1, od, rfl, .inl ⟨k1, f1, fun D hD => ?_⟩⟩
  have nD : D ≠ d1 := (ne_of_none f1 hD).symm
  have hD0 : H D = none := by
    rw [upd_ne nD] at hD
    exact hD
  refine dc_it walk_keys (fun i H' => ∃ (kvs' : List (Key × V)) (ss' : List M32.At), H' = upd (upd H d1 (.frz od (.dK k1))) D (.dK kvs') ∧ StsG K H kvs' ss' B W ∧ M32.Least (M32.setOf ss') (M32.setOf (ss1.take i)) ∧ ∀ x ∈ ss', x ∈ ss1) ⟨[], [], rfl, .nil, ⟨fun x h => (by cases h), fun x h => (by cases h)⟩, fun x h => (by cases h)⟩ (fun i H' _ q => by obtain ⟨_, _, rfl, _⟩ := q; rw [upd_ne nD.symm]; exact f1) ?_ ?_
  · rintro i x _ _ hi ⟨kvs', ss', rfl, S', ls, sb⟩ ⟨rfl, kk, v, hkv, rfl⟩
    obtain ⟨c, a0, rfl, hss, dv, zv⟩ := S1.par.at_ hkv
    have ms := List.mem_of_getElem? hss
    obtain ⟨w0, w1⟩ := S1.rng _ ms
    have lz : kvs'.length < sizeLine := Nat.lt_of_le_of_lt (S'.old.len W0 W1) (by decide)
    obtain ⟨hv, hg⟩ | ⟨sv, m, hsv, hg, du, zu⟩ := S1.par.find (c := c)
    · exact absurd rfl (M32.getL_none hg _ ms)
    obtain rfl : a0 = m := M32.keys_one S1.keys ms (M32.getL_mem hg)
    refine ⟨rfl, yesT (iteT ?_)⟩
    refine ⟨_, rfl, _, rfl, _, rfl, d1, sv, rfl, .inl ⟨k1, Sum.inl c, .inr ⟨od, by rw [upd_ne nD.symm]; exact f1⟩, rfl, hsv.symm⟩, kvs', Sum.inl c, rfl, upd_same, lz, _, M32.putL ss' c a0, upd_upd, S'.put w0 w1 du zu, ?_, fun x hx => ?_⟩
    · have e : ∀ x, (M32.setOf (ss1.take i) x ∨ x = (c, a0)) ↔ M32.setOf (ss1.take (i + 1)) x := fun x => by
        have q := or_take (L := fun _ => False) hss x
        simpa using q
      cases hg' : M32.getL ss' c with
      | none => exact (M32.least_new ls hg').iff e
      | some m' =>
        have e' : m' = a0 := M32.keys_one S1.keys (sb _ (M32.getL_mem hg')) ms
        exact (M32.least_put S'.keys ls hg' (.inl e'.symm)).iff e
    · rcases M32.mem_put.mp hx with rfl | ⟨hx, _⟩
      · exact ms
      · exact sb x hx
  rintro _ ⟨k3, ss3, rfl, S3, ls3, _⟩
  rw [l1, List.take_length] at ls3
  refine ⟨by rw [upd_ne nD.symm]; exact f1, ?_⟩
  rw [unlock hk1 nD]
  have s1 := same_new (o := .dK k3) hD0
  have g2 := s1 _ _ hk2
  have gD : upd H D (.dK k3) D = some (.dK k3) := upd_same
  have S3' : StsG K (upd H D (.dK k3)) k3 ss3 B W := S3.same s1
  generalize upd H D (.dK k3) = H1 at s1 g2 gD S3' ⊢
  have nD2 : D ≠ d2 := (ne_of_none hk2 hD0).symm
  -- the states of the other
  refine ⟨d2, .dK k2, g2, trivial, fun od2 => ?_⟩
  refine ⟨_, rfl, d2, od2, k2, rfl, upd_same, ?_⟩
  refine for_it walk_items (fun i σ H' => ∃ (kvs' : List (Key × V)) (ss' : List M32.At) (v3 v4 : Option V), σ = [some (.ref d1), some (.ref d2), some (.ref D), v3, v4] ∧ (∀ b o, H b = some o → b ≠ d2 → H' b = some o) ∧ H' d2 = some (.frz od2 (.dK k2)) ∧ H' D = some (.dK kvs') ∧ StsG K H' kvs' ss' B W ∧ StsG K H' k2 ss2 B W ∧ M32.Least (M32.setOf ss') (fun x => M32.setOf ss1 x ∨ M32.setOf (ss2.take i) x))
    ⟨k3, ss3, none, none, rfl, fun b o e n => by rw [upd_ne n]; exact s1 b o e, upd_same, by rw [upd_ne nD2]; exact gD, S3'.updD (.dK g2), (S2.same s1).updD (.dK g2), ls3.iff fun x => ⟨.inl, fun h => h.elim id fun h => (by cases h)⟩⟩ (fun i σ H' _ q => by obtain ⟨_, _, _, _, _, _, q, _⟩ := q; exact q) ?_ ?_
  · rintro i x σ H2 H3 hi ⟨kvs', ss', v3, v4, rfl, sa, sb, sc, S', S2', ls⟩ ⟨T1, x1, x2, rfl, hT, rfl, y1, y2⟩
    obtain ⟨⟨kk, v⟩, hpq, rfl⟩ := Option.map_eq_some_iff.mp y2
    have y1' : (k2[i]?.map fun kv => kV kv.1) = some x1 := y1
    rw [hpq] at y1'
    obtain rfl := Option.some.inj y1'
    obtain ⟨c, a0, rfl, hss, _, zz⟩ := S2'.par.at_ hpq
    obtain ⟨w0, w1⟩ := S2'.rng _ (List.mem_of_getElem? hss)
    have sT := same_new (o := .tup [.int c, v]) hT
    have sD := sT _ _ sc
    have sb' := sT _ _ sb
    have fr : ∀ b o, H b = some o → b ≠ d2 → upd H2 T1 (.tup [.int c, v]) b = some o := fun b o e n => sT _ _ (sa b o e n)
    have STT := S'.same sT
    have ST2 := S2'.same sT
    have kT : upd H2 T1 (.tup [.int c, v]) T1 = some (.tup [.int c, v]) := upd_same
    have lz : kvs'.length < sizeLine := Nat.lt_of_le_of_lt (S'.old.len W0 W1) (by decide)
    show gTup K 2 _ _ _ (upd H2 T1 (.tup [.int c, v])) _
    generalize upd H2 T1 (.tup [.int c, v]) = H3 at sD sb' fr STT ST2 kT ⊢
    obtain ⟨c', a0', ec, hss', dy, _⟩ := ST2.par.at_ hpq
    obtain rfl : c = c' := Sum.inl.inj ec
    obtain rfl : a0 = a0' := congrArg (·.2) (Option.some.inj (hss.symm.trans hss'))
    refine ⟨T1, _, rfl, .of kT, rfl, _, _, rfl, _, _, rfl, rfl, ?_⟩
    have wl := or_take (L := M32.setOf ss1) hss
    have store : ∀ lst', M32.Least (M32.setOf (M32.putL ss' c a0)) lst' → (∀ x, lst' x ↔ (M32.setOf ss1 x ∨ M32.setOf (ss2.take (i + 1)) x)) → ∃ H4, DPut H3 D (.int c) v H4 ∧ ∃ (kvs' : List (Key × V)) (ss' : List M32.At) (v3 v4 : Option V), [some (V.ref d1), some (.ref d2), some (.ref D), some (.int c), some v] = [some (.ref d1), some (.ref d2), some (.ref D), v3, v4] ∧ (∀ b o, H b = some o → b ≠ d2 → H4 b = some o) ∧ H4 d2 = some (.frz od2 (.dK k2)) ∧ H4 D = some (.dK kvs') ∧ StsG K H4 kvs' ss' B W ∧ StsG K H4 k2 ss2 B W ∧ M32.Least (M32.setOf ss') (fun x => M32.setOf ss1 x ∨ M32.setOf (ss2.take (i + 1)) x) := by
      intro lst' e1 e2
      refine ⟨_, DPut.k (k := Sum.inl c) sD lz, _, M32.putL ss' c a0, _, _, rfl, fun b o e n => ?_, by rw [upd_ne nD2.symm]; exact sb', upd_same, (STT.put w0 w1 dy zz).updD (.dK sD), ST2.updD (.dK sD), e1.iff e2⟩
      rw [upd_ne (ne_of_none e hD0)]
      exact fr b o e n
    refine ⟨_, rfl, _, rfl, D, valV kvs' (Sum.inl c), rfl, DGet.k (k := Sum.inl c) sD, _, rfl, ?_⟩
    rcases STT.par.find (c := c) with ⟨hv, hg⟩ | ⟨u, m, hv, hg, du, zu⟩
    · rw [hv]
      obtain ⟨H4, g4, r4⟩ := store _ (M32.least_new ls hg) wl
      exact iteT (iteT ⟨_, rfl, _, rfl, _, rfl, D, H4, rfl, g4, r4⟩)
    · rw [hv]
      refine iteF ?_
      have dep := toD_depth a0
      have g := DGet.k (k := Sum.inl c) sD
      rw [hv] at g
      refine ⟨_, rfl, _, rfl, _, rfl, D, u, rfl, g, _, _, dy, du, M32.alike_st _ _, toD_none _, (by omega), _, rfl, ite2 (fun q => ?_) (fun q => ?_)⟩
      · obtain ⟨H4, g4, r4⟩ := store _ (M32.least_put STT.keys ls hg (M32.le_of_lt zz.num zu.num q)) wl
        exact ⟨_, rfl, _, rfl, _, rfl, D, H4, rfl, g4, r4⟩
      · exact ⟨kvs', ss', _, _, rfl, fr, sb', sD, STT, ST2, (M32.least_not ls hg (M32.le_of_not zz.num zu.num (by simpa using q))).iff wl⟩
  · rintro σ H2 ⟨kvs', ss', v3, v4, rfl, sa, sb, sc, S', S2', ls⟩
    refine ⟨sb, ?_⟩
    rw [l2, List.take_length] at ls
    have s2 : Same H (upd H2 d2 (.dK k2)) := fun b o e => by
      by_cases h : b = d2
      · rw [h, hk2] at e
        rw [h, upd_same]
        exact e
      · rw [upd_ne h]
        exact sa b o e h
    have c := ls.cov (W := W) (col := col) (left := left) fun x hx => hx.elim (av1 x) (av2 x)
    exact ⟨_, rfl, D, B, W, ss', rfl, ⟨kvs', by rw [upd_ne nD2]; exact sc, S'.updD (.fz sb)⟩, W0, W1, fun u H' st s h cv => hq u H' st (s2.trans s) h (cv.trans c)⟩
end
end K33

namespace K33
open PySem PySem.Spec PyProof.Rows L2 Vk
/-! ### the search's object, with content -/
def StW (K : PySem.W.Frag) (H : Hp) (d : Addr) (B : Nat) (W : Int) (ss : List M32.At) : Prop := StAt K H d ss B W
inductive KpG (K : PySem.W.Frag) (H : Hp) (B : Nat) (W : Int) : List Addr → List (List M32.At) → Prop
  | nil : KpG K H B W [] []
  | cons {d : Addr} {c : List M32.At} {ds : List Addr} {cs : List (List M32.At)} : StW K H d B W c → KpG K H B W ds cs → KpG K H B W (d :: ds) (c :: cs)
structure SG (K : PySem.W.Frag) (CN CS : Addr) (H : Hp) (s : Addr) (W L : Int) (kp td : Addr) (B : Nat) (c : List M32.At) (kb : List (List M32.At)) (ts : List Tk) : Prop where
  ob : ∃ dx st, H s = some (.ins CS dx (sf W L st kp td)) ∧ StW K H st B W c
  ke : ∃ ks, H kp = some (.lst (ks.reverse.map V.ref)) ∧ KpG K H B W ks kb
  ne : kp ≠ td
  w0 : 0 ≤ W ∧ W ≤ 60 ∧ 0 ≤ L
  to : ∃ qs, H td = some (.lst (qs.reverse.map V.ref)) ∧ TksAt K CN H qs ts
section
variable {K : PySem.W.Frag} {CN CD : Addr} {H H' : Hp} {B B' : Nat} {W : Int}
theorem StW.fix {d : Addr} {c : List M32.At} (e : Fix CN CD H H') (h : StW K H d B W c) : StW K H' d B W c := by
  obtain ⟨kvs, h1, h2, h3, h4⟩ := h
  refine ⟨kvs, e _ _ h1 trivial, ?_, h3, h4⟩
  clear h1 h3 h4
  induction h2 with
  | nil => exact .nil
  | cons d z _ ih => exact .cons (Dp.fix e d (toD_noL _)) z ih
theorem StW.le {d : Addr} {c : List M32.At} (hb : B ≤ B') (h : StW K H d B W c) : StW K H d B' W c := let ⟨kvs, h1, h2⟩ := h; ⟨kvs, h1, h2.le hb⟩
theorem KpG.fix (e : Fix CN CD H H') : ∀ {ds : List Addr} {cs : List (List M32.At)}, KpG K H B W ds cs → KpG K H' B W ds cs
  | _, _, .nil => .nil
  | _, _, .cons h t => .cons (h.fix e) (KpG.fix e t)
theorem KpG.le (hb : B ≤ B') : ∀ {ds : List Addr} {cs : List (List M32.At)}, KpG K H B W ds cs → KpG K H B' W ds cs
  | _, _, .nil => .nil
  | _, _, .cons h t => .cons (h.le hb) (KpG.le hb t)
theorem KpG.len {ds : List Addr} {cs : List (List M32.At)} (h : KpG K H B W ds cs) : ds.length = cs.length := by
  induction h with
  | nil => rfl
  | cons _ _ ih => exact congrArg Nat.succ ih
section
variable {CS s kp td : Addr} {L : Int} {c : List M32.At} {kb : List (List M32.At)} {ts : List Tk}
theorem SG.same (e : Same H H') (S : SG K CN CS H s W L kp td B c kb ts) : SG K CN CS H' s W L kp td B c kb ts := by
  obtain ⟨⟨dx, st, o1, o2⟩, ⟨ks, e1, e2⟩, ne, w0, ⟨qs, g1, g2⟩⟩ := S
  have f : Fix CN CN H H' := .of e
  exact ⟨⟨dx, st, e _ _ o1, o2.fix f⟩, ⟨ks, e _ _ e1, e2.fix f⟩, ne, w0, ⟨qs, e _ _ g1, g2.fix f⟩⟩
theorem SG.push {q : Addr} {t : Tk} (S : SG K CN CS H s W L kp td B c kb ts) (ht : TkAt K CN H q t) :
    ∃ xs, H td = some (.lst xs) ∧ xs.length = ts.length ∧ SG K CN CS (upd H td (.lst (xs ++ [.ref q]))) s W L kp td B c kb (t :: ts) ∧ But s kp td H (upd H td (.lst (xs ++ [.ref q]))) := by
  obtain ⟨⟨dx, st, o1, o2⟩, ⟨ks, e1, e2⟩, ne, w0, ⟨qs, g1, g2⟩⟩ := S
  have nst : s ≠ td := fun z => by rw [z, g1] at o1; cases o1
  have bt : But s kp td H (upd H td (.lst (qs.reverse.map V.ref ++ [.ref q]))) := fun b o e n1 n2 n3 => by
    rw [upd_ne n3]
    exact e
  have fx := fix_of (CN := CN) (CD := CN) o1 e1 g1 bt
  refine ⟨_, g1, by rw [List.length_map, List.length_reverse, g2.len], ⟨⟨dx, st, by rw [upd_ne nst]; exact o1, o2.fix fx⟩, ⟨ks, by rw [upd_ne ne]; exact e1, e2.fix fx⟩, ne, w0, ⟨q :: qs, by rw [upd_same]; simp, .cons (ht.fix fx) (g2.fix fx)⟩⟩, bt⟩
theorem SG.keep (S : SG K CN CS H s W L kp td B c kb ts) :
    ∃ dx st xs, H s = some (.ins CS dx (sf W L st kp td)) ∧ H kp = some (.lst xs) ∧ xs.length = kb.length ∧ SG K CN CS (upd H kp (.lst (xs ++ [.ref st]))) s W L kp td B c (c :: kb) ts ∧ But s kp td H (upd H kp (.lst (xs ++ [.ref st]))) := by
  obtain ⟨⟨dx, st, o1, o2⟩, ⟨ks, e1, e2⟩, ne, w0, ⟨qs, g1, g2⟩⟩ := S
  have nsk : s ≠ kp := fun z => by rw [z, e1] at o1; cases o1
  have bt : But s kp td H (upd H kp (.lst (ks.reverse.map V.ref ++ [.ref st]))) := fun b o e n1 n2 n3 => by
    rw [upd_ne n2]
    exact e
  have fx := fix_of (CN := CN) (CD := CN) o1 e1 g1 bt
  refine ⟨dx, st, _, o1, e1, by rw [List.length_map, List.length_reverse, e2.len], ⟨⟨dx, st, by rw [upd_ne nsk]; exact o1, o2.fix fx⟩, ⟨st :: ks, by rw [upd_same]; simp, .cons (o2.fix fx) (e2.fix fx)⟩, ne, w0, ⟨qs, by rw [upd_ne ne.symm]; exact g1, g2.fix fx⟩⟩, bt⟩
theorem SG.obj (S : SG K CN CS H s W L kp td B c kb ts) : ∃ dx st, H s = some (.ins CS dx (sf W L st kp td)) := let ⟨dx, st, o1, _⟩ := S.ob; ⟨dx, st, o1⟩
theorem SG.fixs (S : SG K CN CS H s W L kp td B c kb ts) (e : But s kp td H H') : Fix CN CD H H' := by
  obtain ⟨⟨dx, st, o1, o2⟩, ⟨ks, e1, e2⟩, ne, w0, ⟨qs, g1, g2⟩⟩ := S
  exact fix_of o1 e1 g1 e
/-- self.states = .. -/
theorem SG.put {u : Addr} {c' : List M32.At} (S : SG K CN CS H s W L kp td B c kb ts) (hb : B ≤ B') (hu : StW K H u B' W c') :
    ∃ dx st, H s = some (.ins CS dx (sf W L st kp td)) ∧ SG K CN CS (upd H s (.ins CS dx (putF "states" (.ref u) (sf W L st kp td)))) s W L kp td B' c' kb ts ∧ But s kp td H (upd H s (.ins CS dx (putF "states" (.ref u) (sf W L st kp td)))) := by
  obtain ⟨⟨dx, st, o1, o2⟩, ⟨ks, e1, e2⟩, ne, w0, ⟨qs, g1, g2⟩⟩ := S
  have nsk : s ≠ kp := fun z => by rw [z, e1] at o1; cases o1
  have nst : s ≠ td := fun z => by rw [z, g1] at o1; cases o1
  have bt : But s kp td H (upd H s (.ins CS dx (putF "states" (.ref u) (sf W L st kp td)))) := fun b o e n1 n2 n3 => by
    rw [upd_ne n1]
    exact e
  have fx := fix_of (CN := CN) (CD := CN) o1 e1 g1 bt
  exact ⟨dx, st, o1, ⟨⟨dx, u, upd_same, hu.fix fx⟩, ⟨ks, by rw [upd_ne nsk.symm]; exact e1, (e2.le hb).fix fx⟩, ne, w0, ⟨qs, by rw [upd_ne nst.symm]; exact g1, g2.fix fx⟩⟩, bt⟩
end
end
def spTnG (K : PySem.W.Frag) (CN CS : Addr) : Sp := fun vs H Q _ => ∃ (s kp td : Addr) (W L : Int) (B : Nat) (c k0 : List M32.At) (kb : List (List M32.At)) (ts : List Tk), vs = [.ref s] ∧ SG K CN CS H s W L kp td B c (k0 :: kb) ts ∧ kb.length ≤ 1000000 ∧
  ∀ H', But s kp td H H' → SG K CN CS H' s W L kp td B k0 (c :: kb) ts → Q .non H'
def spFkG (K : PySem.W.Frag) (CN CS : Addr) : Sp := fun vs H Q _ => ∃ (s kp td q1 q2 : Addr) (W L : Int) (B : Nat) (c : List M32.At) (kb : List (List M32.At)) (ts : List Tk) (t1 t2 : Tk), vs = [.ref s, .ref q1, .ref q2] ∧ SG K CN CS H s W L kp td B c kb ts ∧ kb.length ≤ 1000000 ∧ ts.length ≤ 1000000 ∧ TkAt K CN H q1 t1 ∧ TkAt K CN H q2 t2 ∧
  ∀ H', But s kp td H H' → SG K CN CS H' s W L kp td B c (c :: kb) (t1 :: .turn :: t2 :: .merge :: ts) → Q .non H'
section
variable {P : Program} {w : World} {K : PySem.W.Frag} {mg : Str → Option Value} {base : Heap} {k : Nat}
theorem ok_tnG (T : Tx K mg) : FnOk P w K mg base CX0 (k + 1) T.a_Search_turn T.d_Search_turn P_Search_turn (spTnG K T.C_Node T.C_Search) := by
  refine T.F_Search_turn.ok sc_Search_turn (fun vs H Q E h => ?_) (fun cdv A outer s H vs Q E hr h => ?_)
  · obtain ⟨s, kp, td, W, L, B, c, k0, kb, ts, rfl, _⟩ := h
    rfl
  obtain ⟨s, kp, td, W, L, B, c, k0, kb, ts, rfl, ⟨⟨dx, st, o1, o2⟩, ⟨ks, e1, e2⟩, ne, w0, ⟨qs, g1, g2⟩⟩, lk, hq⟩ := h
  refine ⟨_, (pss_cons (ps_set (i := 1) sc_Search_turn.nd rfl (Or.inl rfl) (pe_fld (pv 0) rfl))
(pss_cons (ps_fld (pv 0) (pe_bm0 PySem.F.plainAttrs_list PySem.F.slot_list_pop PySem.F.type_list_pop mt_pop (pe_fld (pv 0) rfl)) rfl)
(pss_one (ps_expr (pe_bm PySem.F.plainAttrs_list PySem.F.slot_list_append PySem.F.type_list_append mt_append (pe_fld (pv 0) rfl) (pa_cons (pv 1) pa_nil)))))), ?_⟩
  cases e2 with
  | @cons d0 _ ds _ m1 m2 =>
  have nsk : s ≠ kp := fun z => by rw [z, e1] at o1; cases o1
  have nst : s ≠ td := fun z => by rw [z, g1] at o1; cases o1
  have er : ((d0 :: ds).reverse.map V.ref) = ds.reverse.map V.ref ++ [.ref d0] := by simp
  rw [er] at e1
  refine ⟨_, rfl, s, T.C_Search, dx, _, _, rfl, o1, T.cls_Search, T.na_Search_states, rfl, ?_⟩
  refine ⟨_, rfl, s, T.C_Search, dx, _, _, rfl, o1, T.cls_Search, T.na_Search_kept, rfl, .inl ⟨rfl, _, .of e1⟩, kp, _, .ref d0, rfl, rfl, e1, by simp, ?_⟩
  refine ⟨_, rfl, s, T.C_Search, dx, _, rfl, (by rw [upd_ne nsk]; exact o1), T.cls_Search, T.na_Search_states, (by show 5 < 1000; decide), ?_⟩
  refine ⟨_, rfl, s, T.C_Search, dx, _, _, rfl, upd_same, T.cls_Search, T.na_Search_kept, rfl, ?_⟩
  rw [List.dropLast_concat]
  have k2 : upd (upd H kp (.lst (ds.reverse.map V.ref))) s (.ins T.C_Search dx (putF "states" (.ref d0) (sf W L st kp td))) kp = some (.lst (ds.reverse.map V.ref)) := by rw [upd_ne nsk.symm, upd_same]
  have ll : (ds.reverse.map V.ref).length < sizeLine := by
    rw [List.length_map, List.length_reverse, m2.len]
    exact Nat.lt_of_le_of_lt lk (by decide)
  refine ⟨.inl ⟨rfl, _, .of k2⟩, _, rfl, kp, _, .ref st, rfl, rfl, k2, ll, ?_⟩
  have bt : But s kp td H (upd (upd (upd H kp (.lst (ds.reverse.map V.ref))) s (.ins T.C_Search dx (putF "states" (.ref d0) (sf W L st kp td)))) kp (.lst (ds.reverse.map V.ref ++ [.ref st]))) := fun b o e n1 n2 n3 => by
    rw [upd_ne n2, upd_ne n1, upd_ne n2]
    exact e
  have fx := fix_of (CN := T.C_Node) (CD := T.C_Doc) o1 e1 g1 bt
  refine hq _ bt ⟨⟨dx, d0, by rw [upd_ne nsk, upd_same]; rfl, m1.fix fx⟩, ⟨st :: ds, by rw [upd_same]; simp, .cons (o2.fix fx) (m2.fix fx)⟩, ne, w0, ⟨qs, by rw [upd_ne ne.symm, upd_ne nst.symm, upd_ne ne.symm]; exact g1, g2.fix fx⟩⟩
theorem ok_fkG (T : Tx K mg) : FnOk P w K mg base CX0 (k + 1) T.a_Search_fork T.d_Search_fork P_Search_fork (spFkG K T.C_Node T.C_Search) := by
  refine T.F_Search_fork.ok sc_Search_fork (fun vs H Q E h => ?_) (fun cdv A outer s H vs Q E hr h => ?_)
  · obtain ⟨s, kp, td, q1, q2, W, L, B, c, kb, ts, t1, t2, rfl, _⟩ := h
    rfl
  obtain ⟨s, kp, td, q1, q2, W, L, B, c, kb, ts, t1, t2, rfl, S, lk, lt, h1, h2, hq⟩ := h
  refine ⟨_, (pss_cons (ps_expr (pe_bm PySem.F.plainAttrs_list PySem.F.slot_list_append PySem.F.type_list_append mt_append (pe_fld (pv 0) rfl) (pa_cons (pe_fld (pv 0) rfl) pa_nil)))
(pss_cons (ps_expr (pe_bm PySem.F.plainAttrs_list PySem.F.slot_list_append PySem.F.type_list_append mt_append (pe_fld (pv 0) rfl) (pa_cons (pe_tup (pa_cons (pe_glob (v := .int 2) rfl T.c_MERGE T.r_MERGE) (pa_cons pe_non (pa_cons pe_bl (pa_cons pe_int pa_nil))))) pa_nil)))
(pss_cons (ps_expr (pe_bm PySem.F.plainAttrs_list PySem.F.slot_list_append PySem.F.type_list_append mt_append (pe_fld (pv 0) rfl) (pa_cons (pv 2) pa_nil)))
(pss_cons (ps_expr (pe_bm PySem.F.plainAttrs_list PySem.F.slot_list_append PySem.F.type_list_append mt_append (pe_fld (pv 0) rfl) (pa_cons (pe_tup (pa_cons (pe_glob (v := .int 1) rfl T.c_TURN T.r_TURN) (pa_cons pe_non (pa_cons pe_bl (pa_cons pe_int pa_nil))))) pa_nil)))
(pss_one (ps_expr (pe_bm PySem.F.plainAttrs_list PySem.F.slot_list_append PySem.F.type_list_append mt_append (pe_fld (pv 0) rfl) (pa_cons (pv 1) pa_nil)))))))), ?_⟩
  have lim : ∀ n m : Nat, n = m → m ≤ 1000010 → n < sizeLine := fun n m e h => Nat.lt_of_le_of_lt (m := 1000010) (by omega) (by decide)
  -- self.kept.append(self.states)
  obtain ⟨dx, st, xs, o1, e1, l1, S1, b1⟩ := S.keep
  refine ⟨_, rfl, s, T.C_Search, dx, _, _, rfl, o1, T.cls_Search, T.na_Search_kept, rfl, .inl ⟨rfl, _, .of e1⟩, _, rfl, s, T.C_Search, dx, _, _, rfl, o1, T.cls_Search, T.na_Search_states, rfl, kp, _, .ref st, rfl, rfl, e1, lim _ _ l1 (by omega), ?_⟩
  have h1' := h1.fix (S.fixs (CD := T.C_Doc) b1)
  have h2' := h2.fix (S.fixs (CD := T.C_Doc) b1)
  generalize upd H kp _ = H1 at S1 b1 h1' h2' ⊢
  -- (MERGE, None, False, 0)
  obtain ⟨dx1, st1, p1⟩ := S1.obj
  obtain ⟨ks, e2, _⟩ := S1.to
  refine ⟨_, rfl, s, T.C_Search, dx1, _, _, rfl, p1, T.cls_Search, T.na_Search_todo, rfl, .inl ⟨rfl, _, .of e2⟩, (by show 4 ≤ sizeLine; decide), fun n1 hn1 => ?_⟩
  have s1 := same_new (o := .tup [.int 2, .non, .bl false, .int 0]) hn1
  have S1' := S1.same s1
  have tm : TkAt K T.C_Node (upd H1 n1 (.tup [.int 2, .non, .bl false, .int 0])) n1 .merge := .of upd_same
  have h1'' := h1'.fix (CD := T.C_Doc) (.of s1)
  have h2'' := h2'.fix (CD := T.C_Doc) (.of s1)
  have b1' := b1.trans (.of s1)
  generalize upd H1 n1 _ = H2 at S1' tm h1'' h2'' b1' ⊢
  obtain ⟨xs2, f2, l2, S2, b2⟩ := S1'.push tm
  refine ⟨td, _, .ref n1, rfl, rfl, f2, lim _ _ l2 (by omega), ?_⟩
  have h1a := h1''.fix (S1'.fixs (CD := T.C_Doc) b2)
  have h2a := h2''.fix (S1'.fixs (CD := T.C_Doc) b2)
  have b2' := b1'.trans b2
  generalize upd H2 td _ = H3 at S2 h1a h2a b2' ⊢
  -- second
  obtain ⟨dx3, st3, p3⟩ := S2.obj
  obtain ⟨xs3, f3, l3, S3, b3⟩ := S2.push h2a
  refine ⟨_, rfl, s, T.C_Search, dx3, _, _, rfl, p3, T.cls_Search, T.na_Search_todo, rfl, .inl ⟨rfl, _, .of f3⟩, _, rfl, td, _, .ref q2, rfl, rfl, f3, lim _ _ l3 (by rw [List.length_cons]; omega), ?_⟩
  have h1b := h1a.fix (S2.fixs (CD := T.C_Doc) b3)
  have b3' := b2'.trans b3
  generalize upd H3 td _ = H4 at S3 h1b b3' ⊢
  -- (TURN, None, False, 0)
  obtain ⟨dx4, st4, p4⟩ := S3.obj
  obtain ⟨ks4, e4, _⟩ := S3.to
  refine ⟨_, rfl, s, T.C_Search, dx4, _, _, rfl, p4, T.cls_Search, T.na_Search_todo, rfl, .inl ⟨rfl, _, .of e4⟩, (by show 4 ≤ sizeLine; decide), fun n2 hn2 => ?_⟩
  have s4 := same_new (o := .tup [.int 1, .non, .bl false, .int 0]) hn2
  have S3' := S3.same s4
  have tt : TkAt K T.C_Node (upd H4 n2 (.tup [.int 1, .non, .bl false, .int 0])) n2 .turn := .of upd_same
  have h1c := h1b.fix (CD := T.C_Doc) (.of s4)
  have b4 := b3'.trans (.of s4)
  generalize upd H4 n2 _ = H5 at S3' tt h1c b4 ⊢
  obtain ⟨xs5, f5, l5, S5, b5⟩ := S3'.push tt
  refine ⟨td, _, .ref n2, rfl, rfl, f5, lim _ _ l5 (by simp only [List.length_cons]; omega), ?_⟩
  have h1d := h1c.fix (S3'.fixs (CD := T.C_Doc) b5)
  have b5' := b4.trans b5
  generalize upd H5 td _ = H6 at S5 h1d b5' ⊢
  -- first
  obtain ⟨dx6, st6, p6⟩ := S5.obj
  obtain ⟨xs6, f6, l6, S6, b6⟩ := S5.push h1d
  refine ⟨_, rfl, s, T.C_Search, dx6, _, _, rfl, p6, T.cls_Search, T.na_Search_todo, rfl, .inl ⟨rfl, _, .of f6⟩, _, rfl, td, _, .ref q1, rfl, rfl, f6, lim _ _ l6 (by simp only [List.length_cons]; omega), ?_⟩
  exact hq _ (b5'.trans b6) S6
end
end K33

namespace K33
open PySem PySem.Spec PyProof.Rows L2 Vk
theorem eqv_int0 (a : Int) : PyData.eqv (.int a) (.int 0) = decide (a = 0) := by
  unfold PyData.eqv
  by_cases h : a = 0
  · subst h
    rfl
  · rw [decide_eq_false h]
    simpa using h
theorem safe_in {t : Nd} {f : Bool} {st : Int} {ts : List Tk} {kb : List Bool} {b : Bool} (e : decide (t.w2 f ≠ 0) = b) (h : safe (.enter t f st :: ts) kb true) : safe ts kb b := by
  rw [← e]
  exact h.2
theorem mul_ne {a b : Int} (h : a * b ≠ 0) : a ≠ 0 ∧ b ≠ 0 := ⟨fun z => h (by rw [z, Int.zero_mul]), fun z => h (by rw [z, Int.mul_zero])⟩
theorem dne {a : Int} (h : a ≠ 0) : decide (a ≠ 0) = true := decide_eq_true h
theorem safe_in2 {t : Nd} {f : Bool} {st : Int} {ts : List Tk} {kb : List Bool} (h : safe (.enter t f st :: ts) kb true) (z : t.w2 f ≠ 0) : safe ts kb true := safe_in (decide_eq_true z) h
theorem safe_eq {ts : List Tk} {kb : List Bool} {b c : Bool} (e : b = c) (h : safe ts kb b) : safe ts kb c := e ▸ h
theorem safe_mg {ts : List Tk} {kb : List Bool} {x y : Bool} (h : safe ts kb (x || y)) : safe (.merge :: ts) (x :: kb) y := h
theorem or_ne {a b : Bool} (h : a = true) : (a || b) = true := by rw [h]; rfl
theorem or_sum {a b : Int} (h : a + b ≠ 0) : (decide (a ≠ 0) || decide (b ≠ 0)) = true := by
  by_cases h1 : a = 0
  · have h2 : b ≠ 0 := fun z => h (by omega)
    simp [h2]
  · simp [h1]
theorem wts_one (t : Tk) : wts [t] = t.wt := by
  rw [wts_cons]
  rfl
theorem wts_app (a b : List Tk) : wts (a ++ b) = wts a + wts b := by
  unfold wts
  rw [List.map_append, List.sum_append]
theorem kin_all : ∀ j : Fin 8, inV (.str (kindOf j)) [.str (kindOf 3), .str (kindOf 5)] = decide (j = 3 ∨ j = 5) := by decide +kernel
theorem kin (t : Nd) : inV (.str t.kind) [.str "join", .str "nested"] = decide (t.kx = 3 ∨ t.kx = 5) := by
  rw [Nd.kind_is]
  exact kin_all _
theorem kin2_all : ∀ j : Fin 8, inV (.str (kindOf j)) [.str (kindOf 0), .str (kindOf 1)] = decide (j = 0 ∨ j = 1) := by decide +kernel
theorem kin2 (t : Nd) : inV (.str t.kind) [.str "text", .str "break"] = decide (t.kx = 0 ∨ t.kx = 1) := by
  rw [Nd.kind_is]
  exact kin2_all _
theorem NodeAt.nf {K : PySem.W.Frag} {CN : Addr} {H : Hp} {p : Addr} {t : Nd} {gs : List Str} (N : NodeAt K CN H p t gs) : ∃ dx ow inn gp sz mo, H p = some (.ins CN dx (nf t.kind ow inn gp t.ways.1 t.ways.2 sz mo (stl t))) := by
  cases N with
  | mk n1 _ _ _ _ => exact ⟨_, _, _, _, _, _, n1⟩
/-! ### a step of the search: nothing is lost -/
def fl (l : List M32.At) : Bool := !l.isEmpty
def DS (W L : Int) (ts : List Tk) (kb : List (List M32.At)) (c : List M32.At) : M32.At → Prop := M32.den W L ts (kb.map M32.setOf) (M32.setOf c)
def AVs (W col L : Int) (c : List M32.At) (kb : List (List M32.At)) : Prop := M32.AllVal W col L (M32.setOf c) ∧ ∀ l ∈ kb, M32.AllVal W col L (M32.setOf l)
structure Stp (W col L : Int) (t0 : List Tk) (k0 : List (List M32.At)) (c0 : List M32.At) (t1 : List Tk) (k1 : List (List M32.At)) (c1 : List M32.At) : Prop where
  sf : safe t0 (k0.map fl) (fl c0) → safe t1 (k1.map fl) (fl c1)
  dn : ∀ X, M32.Cov (DS W L t0 k0 c0) X → M32.Cov (DS W L t1 k1 c1) X
  av : AVs W col L c0 k0 → AVs W col L c1 k1
section
variable {W col L : Int} {t0 t1 t2 ts : List Tk} {k0 k1 k2 kb : List (List M32.At)} {c0 c1 c2 c : List M32.At} {t a b : Nd} {f f1 f2 : Bool} {st st1 : Int}
theorem Stp.refl : Stp W col L t0 k0 c0 t0 k0 c0 := ⟨id, fun _ => id, id⟩
theorem Stp.trans (h : Stp W col L t0 k0 c0 t1 k1 c1) (g : Stp W col L t1 k1 c1 t2 k2 c2) : Stp W col L t0 k0 c0 t2 k2 c2 := ⟨fun x => g.sf (h.sf x), fun X x => g.dn X (h.dn X x), fun x => g.av (h.av x)⟩
theorem fl_ne (h : c ≠ []) : fl c = true := by
  cases c with
  | nil => exact absurd rfl h
  | cons _ _ => rfl
theorem dec_eq {x y : Int} (hx : x ≠ 0) (hy : y ≠ 0) : decide (x ≠ 0) = decide (y ≠ 0) := by rw [decide_eq_true hx, decide_eq_true hy]
/-- no way: no state -/
theorem Stp.zero (z : t.w2 f = 0) : Stp W col L (.enter t f st :: ts) kb c ts kb [] := ⟨fun h => safe_eq (decide_eq_false fun q => q z) h.2, fun X h => M32.den_step h ⟨fun x hx => (by cases hx), fun x hx => absurd hx (M32.pth_zero t f st z x)⟩, fun h => ⟨fun x hx => (by cases hx), h.2⟩⟩
/-- other states -/
theorem Stp.sts (z : t.w2 f ≠ 0) (n : c1 ≠ []) (cv : M32.Cov (M32.setOf c1) (M32.pth W L t f st (M32.setOf c))) : Stp W col L (.enter t f st :: ts) kb c ts kb c1 := ⟨fun h => safe_eq ((decide_eq_true z).trans (fl_ne n).symm) h.2, fun X h => M32.den_step h cv, fun h => ⟨fun x hx => h.1.pth t f st x (cv.of x hx), h.2⟩⟩
/-- another task in its place -/
theorem Stp.one (z : t.w2 f ≠ 0) (z1 : a.w2 f1 ≠ 0) (cv : M32.Cov (M32.pth W L a f1 st1 (M32.setOf c)) (M32.pth W L t f st (M32.setOf c))) : Stp W col L (.enter t f st :: ts) kb c (.enter a f1 st1 :: ts) kb c := ⟨fun h => ⟨h.1, safe_eq (dec_eq z z1) h.2⟩, fun X h => M32.den_step (c := M32.pth W L a f1 st1 (M32.setOf c)) h cv, id⟩
theorem Stp.join (z : (Nd.jn a b).w2 f ≠ 0) (z1 : a.w2 f ≠ 0) (z2 : b.w2 f ≠ 0) : Stp W col L (.enter (.jn a b) f st :: ts) kb c (.enter a f st :: .enter b f st :: ts) kb c := ⟨fun h => ⟨h.1, decide_eq_true z1, safe_eq (dec_eq z z2) h.2⟩, fun X h => h, id⟩
theorem Stp.fork (z : t.w2 f ≠ 0) (n : c ≠ []) (o : (decide (a.w2 f1 ≠ 0) || decide (b.w2 f2 ≠ 0)) = true) (cv : M32.Cov (fun x => M32.pth W L a f1 st (M32.setOf c) x ∨ M32.pth W L b f2 st (M32.setOf c) x) (M32.pth W L t f st (M32.setOf c))) :
    Stp W col L (.enter t f st :: ts) kb c (.enter a f1 st :: .turn :: .enter b f2 st :: .merge :: ts) (c :: kb) c := ⟨fun h => ⟨fl_ne n, fl_ne n, safe_mg (safe_eq ((decide_eq_true z).trans o.symm) h.2)⟩, fun X h => M32.den_step (c := fun x => M32.pth W L a f1 st (M32.setOf c) x ∨ M32.pth W L b f2 st (M32.setOf c) x) h cv, fun h => ⟨h.1, fun l hl => by
  rcases List.mem_cons.mp hl with rfl | hl
  · exact h.1
  · exact h.2 l hl⟩⟩
end
/-- on the way down through joins and nested ones -/
def EnInv (K : PySem.W.Frag) (CN CS : Addr) (H : Hp) (s kp td : Addr) (f : Bool) (st : Int) (W L col : Int) (B : Nat) (c : List M32.At) (kb : List (List M32.At)) (ts : List Tk) (t : Nd) (m : Nat) (σ : L2.St) (H' : Hp) : Prop :=
  ∃ (p' : Addr) (t' : Nd) (gs' : List Str) (st' : Int) (ts' : List Tk), σ = [some (.ref s), some (.ref p'), some (.bl f), some (.int st')] ∧ But s kp td H H' ∧ SG K CN CS H' s W L kp td B c kb (ts' ++ ts) ∧ NodeAt K CN H' p' t' gs' ∧ t'.ok ∧ 0 ≤ st' ∧ t'.w2 f ≠ 0 ∧
    t'.wt + wts ts' ≤ t.wt ∧ (∀ x ∈ ts', x.ok) ∧ Stp W col L (.enter t f st :: ts) kb c (.enter t' f st' :: (ts' ++ ts)) kb c ∧ m = t'.wt
def spEnG (K : PySem.W.Frag) (CN CS : Addr) : Sp := fun vs H Q _ => ∃ (s kp td p : Addr) (f : Bool) (st W L col : Int) (B : Nat) (c : List M32.At) (kb : List (List M32.At)) (ts : List Tk) (t : Nd) (gs : List Str), vs = [.ref s, .ref p, .bl f, .int st] ∧ SG K CN CS H s W L kp td B c kb ts ∧ c ≠ [] ∧ AVs W col L c kb ∧ NodeAt K CN H p t gs ∧ t.ok ∧ 0 ≤ st ∧ t.wt + wts ts + B ≤ 1000000 ∧ kb.length ≤ 1000000 ∧
  ∀ H' c' kb' ts' B', But s kp td H H' → SG K CN CS H' s W L kp td B' c' kb' (ts' ++ ts) → Stp W col L (.enter t f st :: ts) kb c (ts' ++ ts) kb' c' → wts ts' + B' < t.wt + B → (∀ x ∈ ts', x.ok) → Q .non H'
section
variable {P : Program} {w : World} {K : PySem.W.Frag} {mg : Str → Option Value} {base : Heap} {k : Nat}
theorem ok_enG (T : Tx K mg) (G_written : FnOk P w K mg base CX0 k T.a_written T.d_written P_written (spWrG K)) (G_broken : FnOk P w K mg base CX0 k T.a_broken T.d_broken P_broken (spBrG K)) (G_Search_fork : FnOk P w K mg base CX0 k T.a_Search_fork T.d_Search_fork P_Search_fork (spFkG K T.C_Node T.C_Search)) :
    FnOk P w K mg base CX0 (k + 1) T.a_Search_enter T.d_Search_enter P_Search_enter (spEnG K T.C_Node T.C_Search) := by
  refine T.F_Search_enter.ok sc_Search_enter (fun vs H Q E h => ?_) (fun cdv A outer s H vs Q E hr h => ?_)
  · obtain ⟨s, kp, td, p, f, st, W, L, col, B, c, kb, ts, t, gs, rfl, _⟩ := h
    rfl
  obtain ⟨s, kp, td, pO, f, stO, W, L, col, B, c, kb, tsO, tO, gsO, rfl, SO, nc, av, NO, tokO, stO0, lB, lk, hqO⟩ := h
  have hu := hu_of hr
  refine ⟨_, (pss_cons (ps_if (pt_cmpR (op_eqD hr.units) (pe_ifExp (pt_val (pv 2)) (pe_fld (pv 1) rfl) (pe_fld (pv 1) rfl)) pe_int (nomark _))
(pss_cons (ps_fld (pv 0) pe_dnewK rfl)
(pss_one ps_retN))
pss_nil)
(pss_cons (ps_while PassesOwn.never (pt_cmpR op_in_seq (pe_fld (pv 1) rfl) (pe_tup (pa_cons pe_str (pa_cons pe_str pa_nil))) rfl)
(pss_cons (ps_if (pt_cmpR (op_eqD hr.units) (pe_fld (pv 1) rfl) pe_str (nomark _))
(pss_one (ps_expr (pe_bm PySem.F.plainAttrs_list PySem.F.slot_list_append PySem.F.type_list_append mt_append (pe_fld (pv 0) rfl) (pa_cons (pe_tup (pa_cons (pe_glob (v := .int 0) rfl T.c_ENTER T.r_ENTER) (pa_cons (pe_ix ix_tup (pe_fld (pv 1) rfl) pe_int (fun _ _ => rfl)) (pa_cons (pv 2) (pa_cons (pv 3) pa_nil))))) pa_nil))))
(pss_one (ps_set (i := 3) sc_Search_enter.nd rfl (Or.inl rfl) (pe_op op_add (pv 3) (pe_ix ix_tup (pe_fld (pv 1) rfl) pe_int (fun _ _ => rfl))))))
(pss_one (ps_set (i := 1) sc_Search_enter.nd rfl (Or.inl rfl) (pe_ix ix_tup (pe_fld (pv 1) rfl) pe_int (fun _ _ => rfl))))))
(pss_one (ps_if (PW.pt (pw_and (pt_cmpR (op_eqD hr.units) (pe_fld (pv 1) rfl) pe_str (nomark _)) (pw_and1 (pt_not (pt_val (pv 2))))))
(pss_one (ps_fld (pv 0) (pe_call G_broken hr rfl T.m_broken T.F_broken.kp T.b_broken .nil pass0 (pa_cons (pe_fld (pv 0) rfl) (pa_cons (pv 3) (pa_cons (pe_fld (pv 0) rfl) (pa_cons (pe_fld (pv 0) rfl) pa_nil))))) rfl))
(pss_one (ps_if (pt_cmpR op_in_seq (pe_fld (pv 1) rfl) (pe_tup (pa_cons pe_str (pa_cons pe_str pa_nil))) rfl)
(pss_one (ps_fld (pv 0) (pe_call G_written hr rfl T.m_written T.F_written.kp T.b_written .nil pass0 (pa_cons (pe_fld (pv 0) rfl) (pa_cons (pe_ix ix_tup (pe_fld (pv 1) rfl) pe_int (fun _ _ => rfl)) (pa_cons (pe_fld (pv 0) rfl) pa_nil)))) rfl))
(pss_one (ps_if (pt_cmpR (op_eqD hr.units) (pe_fld (pv 1) rfl) pe_str (nomark _))
(pss_one (ps_expr (pe_meth (pv 0) T.cls_Search T.me_Search_fork G_Search_fork hr T.b_Search_fork .nil pass0 (pa_cons (pe_tup (pa_cons (pe_glob (v := .int 0) rfl T.c_ENTER T.r_ENTER) (pa_cons (pe_ix ix_tup (pe_fld (pv 1) rfl) pe_int (fun _ _ => rfl)) (pa_cons (pv 2) (pa_cons (pv 3) pa_nil))))) (pa_cons (pe_tup (pa_cons (pe_glob (v := .int 0) rfl T.c_ENTER T.r_ENTER) (pa_cons (pe_ix ix_tup (pe_fld (pv 1) rfl) pe_int (fun _ _ => rfl)) (pa_cons (pv 2) (pa_cons (pv 3) pa_nil))))) pa_nil)))))
(pss_one (ps_if (pt_cmpR (op_eqD hr.units) (pe_fld (pv 1) rfl) pe_str (nomark _))
(pss_one (ps_expr (pe_bm PySem.F.plainAttrs_list PySem.F.slot_list_append PySem.F.type_list_append mt_append (pe_fld (pv 0) rfl) (pa_cons (pe_tup (pa_cons (pe_glob (v := .int 0) rfl T.c_ENTER T.r_ENTER) (pa_cons (pe_ix ix_tup (pe_fld (pv 1) rfl) pe_int (fun _ _ => rfl)) (pa_cons pe_bl (pa_cons (pv 3) pa_nil))))) pa_nil))))
(pss_one (ps_if (PW.pt (pw_or (pt_val (pv 2)) (pw_or1 (pt_val (pe_fld (pe_ix ix_tup (pe_fld (pv 1) rfl) pe_int (fun _ _ => rfl)) rfl)))))
(pss_one (ps_expr (pe_bm PySem.F.plainAttrs_list PySem.F.slot_list_append PySem.F.type_list_append mt_append (pe_fld (pv 0) rfl) (pa_cons (pe_tup (pa_cons (pe_glob (v := .int 0) rfl T.c_ENTER T.r_ENTER) (pa_cons (pe_ix ix_tup (pe_fld (pv 1) rfl) pe_int (fun _ _ => rfl)) (pa_cons (pv 2) (pa_cons (pv 3) pa_nil))))) pa_nil))))
(pss_one (ps_expr (pe_meth (pv 0) T.cls_Search T.me_Search_fork G_Search_fork hr T.b_Search_fork .nil pass0 (pa_cons (pe_tup (pa_cons (pe_glob (v := .int 0) rfl T.c_ENTER T.r_ENTER) (pa_cons (pe_ix ix_tup (pe_fld (pv 1) rfl) pe_int (fun _ _ => rfl)) (pa_cons pe_bl (pa_cons (pv 3) pa_nil))))) (pa_cons (pe_tup (pa_cons (pe_glob (v := .int 0) rfl T.c_ENTER T.r_ENTER) (pa_cons (pe_ix ix_tup (pe_fld (pv 1) rfl) pe_int (fun _ _ => rfl)) (pa_cons pe_bl (pa_cons (pv 3) pa_nil))))) pa_nil))))))))))))))))), ?_⟩
  have ltd : ∀ (xs : List V) (n : Nat), xs.length = n → n ≤ 1000001 → xs.length < sizeLine := fun xs n e l => Nat.lt_of_le_of_lt (m := 1000001) (by omega) (by decide)
  -- no way at all
  refine seq_cut (fun σ' H' => σ' = [some (.ref s), some (.ref pO), some (.bl f), some (.int stO)] ∧ H' = H ∧ tO.w2 f ≠ 0) (fun σ' H' hR => ?_) (fun nx => ?_)
  rotate_left
  · obtain ⟨dxn, ow, inn, gp, sz, mo, n1⟩ := NO.nf
    have none_ : ∀ (d : Addr), H d = none → tO.w2 f = 0 → ∃ dx st1, upd H d (.dK []) s = some (.ins T.C_Search dx (sf W L st1 kp td)) ∧ Q .non (upd (upd H d (.dK [])) s (.ins T.C_Search dx (putF "states" (.ref d) (sf W L st1 kp td)))) := fun d hd z0 => by
      have s1 := same_new (o := .dK []) hd
      obtain ⟨dx1, st1, q1, S1, b1⟩ := (SO.same s1).put (u := d) (c' := []) (Nat.le_refl _) ⟨[], upd_same, .nil⟩
      exact ⟨dx1, st1, q1, hqO _ [] kb [] B ((But.of s1).trans b1) S1 (.zero z0) (by have := tO.wt_pos; show 0 + B < _; omega) (by simp)⟩
    cases f with
    | false =>
      refine ⟨_, rfl, false, rfl, iteF ⟨_, rfl, pO, T.C_Node, dxn, _, _, rfl, n1, T.cls_Node, T.na_Node_broken, rfl, _, _, .int _, .int _, rfl, rfl, decide (tO.ways.1 = 0), congrArg V.bl (eqv_int0 _), ?_⟩⟩
      by_cases z0 : tO.ways.1 = 0
      · rw [decide_eq_true z0]
        refine iteT fun d hd => ?_
        obtain ⟨dx1, st1, q1, q2⟩ := none_ d hd z0
        exact ⟨_, rfl, s, T.C_Search, dx1, _, rfl, q1, T.cls_Search, T.na_Search_states, (by show 5 < 1000; decide), q2⟩
      · rw [decide_eq_false z0]
        exact iteF (nx _ _ ⟨rfl, rfl, z0⟩)
    | true =>
      refine ⟨_, rfl, true, rfl, iteT ⟨_, rfl, pO, T.C_Node, dxn, _, _, rfl, n1, T.cls_Node, T.na_Node_flat, rfl, _, _, .int _, .int _, rfl, rfl, decide (tO.ways.2 = 0), congrArg V.bl (eqv_int0 _), ?_⟩⟩
      by_cases z0 : tO.ways.2 = 0
      · rw [decide_eq_true z0]
        refine iteT fun d hd => ?_
        obtain ⟨dx1, st1, q1, q2⟩ := none_ d hd z0
        exact ⟨_, rfl, s, T.C_Search, dx1, _, rfl, q1, T.cls_Search, T.na_Search_states, (by show 5 < 1000; decide), q2⟩
      · rw [decide_eq_false z0]
        exact iteF (nx _ _ ⟨rfl, rfl, z0⟩)
  obtain ⟨rfl, rfl, zO⟩ := hR
  -- down through joins and nested ones
  refine ⟨EnInv K T.C_Node T.C_Search H' s kp td f stO W L col B c kb tsO tO, ⟨tO.wt, pO, tO, gsO, stO, [], rfl, fun _ _ e _ _ _ => e, SO, NO, tokO, stO0, zO, by show tO.wt + 0 ≤ tO.wt; omega, by simp, .refl, rfl⟩, ?_⟩
  rintro m σ H ⟨p, t, gs, st, ts', rfl, bt, S, N, tok, st0, z0, lw, okts, sfs, rfl⟩
  have lts : (ts' ++ tsO).length + 1 ≤ 1000000 := by
    have h1 := wts_len (ts' ++ tsO)
    have h2 := wts_app ts' tsO
    have h3 := t.wt_pos
    omega
  have lw2 : t.wt + wts (ts' ++ tsO) + B ≤ 1000000 := by
    have h2 := wts_app ts' tsO
    omega
  have hq : ∀ H'' c' kb' ts'' B', But s kp td H H'' → SG K T.C_Node T.C_Search H'' s W L kp td B' c' kb' (ts'' ++ (ts' ++ tsO)) → Stp W col L (.enter t f st :: (ts' ++ tsO)) kb c (ts'' ++ (ts' ++ tsO)) kb' c' → wts ts'' + B' < t.wt + B → (∀ x ∈ ts'', x.ok) → Q .non H'' := fun H'' c' kb' ts'' B' b2 S2 sf2 lw3 ok2 =>
    hqO H'' c' kb' (ts'' ++ ts') B' (bt.trans b2) (by rw [List.append_assoc]; exact S2) (by rw [List.append_assoc]; exact sfs.trans sf2) (by rw [wts_app]; omega) (fun x hx => (List.mem_append.mp hx).elim (ok2 x) (okts x))
  have down : ∀ (p2 : Addr) (a : Nd) (ga : List Str) (st2 : Int) (x : List Tk) (H2 : Hp), But s kp td H H2 → SG K T.C_Node T.C_Search H2 s W L kp td B c kb (x ++ (ts' ++ tsO)) → NodeAt K T.C_Node H2 p2 a ga → a.ok → 0 ≤ st2 → a.w2 f ≠ 0 → a.wt + wts x < t.wt → (∀ y ∈ x, y.ok) →
      Stp W col L (.enter t f st :: (ts' ++ tsO)) kb c (.enter a f st2 :: (x ++ (ts' ++ tsO))) kb c → ∃ m', m' < t.wt ∧ EnInv K T.C_Node T.C_Search H' s kp td f stO W L col B c kb tsO tO m' [some (.ref s), some (.ref p2), some (.bl f), some (.int st2)] H2 := fun p2 a ga st2 x H2 b2 S2 N2 ok2 h0 z2 lw3 okx sf2 =>
    ⟨a.wt, by omega, p2, a, ga, st2, x ++ ts', rfl, bt.trans b2, by rw [List.append_assoc]; exact S2, N2, ok2, h0, z2, by rw [wts_app]; omega, fun y hy => (List.mem_append.mp hy).elim (okx y) (okts y), by rw [List.append_assoc]; exact sfs.trans sf2, rfl⟩
  clear hqO bt sfs
  generalize ts' ++ tsO = ts at *
  obtain ⟨dxs, sts, o1, o2⟩ := S.ob
  obtain ⟨W0, W1, L0⟩ := S.w0
  cases N with
  | @mk _ dxn ow inn gp sz mo _ ps _ gss n1 n2 n3 n4 n5 =>
  -- new states
  have sts_ : ∀ (u : Addr) (H1 : Hp) (B' : Nat) (c1 : List M32.At), Same H H1 → B ≤ B' → B' < t.wt + B → StW K H1 u B' W c1 → c1 ≠ [] → M32.Cov (M32.setOf c1) (M32.pth W L t f st (M32.setOf c)) → ∃ dx st1, H1 s = some (.ins T.C_Search dx (sf W L st1 kp td)) ∧ Q .non (upd H1 s (.ins T.C_Search dx (putF "states" (.ref u) (sf W L st1 kp td)))) := fun u H1 B' c1 s1 hb lb hu n1 cv => by
    obtain ⟨dx1, st1, q1, S1, b1⟩ := (S.same s1).put (u := u) hb hu
    exact ⟨dx1, st1, q1, hq _ c1 kb [] B' ((But.of s1).trans b1) S1 (.sts z0 n1 cv) (by show 0 + B' < _; omega) (by simp)⟩
  -- one task more
  have push_ : ∀ (a : Nd) (f1 : Bool) (q : Addr) (H1 : Hp), Same H H1 → TkAt K T.C_Node H1 q (.enter a f1 st) → a.wt < t.wt → a.ok → a.w2 f1 ≠ 0 → M32.Cov (M32.pth W L a f1 st (M32.setOf c)) (M32.pth W L t f st (M32.setOf c)) → ∃ xs, H1 td = some (.lst xs) ∧ xs.length < sizeLine ∧ Q .non (upd H1 td (.lst (xs ++ [.ref q]))) := fun a f1 q H1 s1 hx lw ok z1 cv => by
    obtain ⟨xs, e1, l1, S1, b1⟩ := (S.same s1).push hx
    exact ⟨xs, e1, ltd _ _ l1 (by omega), hq _ c kb [.enter a f1 st] B ((But.of s1).trans b1) S1 (.one z0 z1 cv) (by rw [wts_one]; show a.wt + B < t.wt + B; omega) (fun y hy => by rw [List.mem_singleton.mp hy]; exact ⟨ok, st0⟩)⟩
  -- the test of the loop
  refine ⟨_, rfl, p, T.C_Node, dxn, _, _, rfl, n1, T.cls_Node, T.na_Node_kind, rfl, (by show 2 ≤ sizeLine; decide), fun p1 hp1 => ⟨p1, _, rfl, .inr (.of upd_same), rfl, rfl, decide (t.kx = 3 ∨ t.kx = 5), congrArg V.bl (kin t), ?_⟩⟩
  have e1 := same_new (o := .tup [.str "join", .str "nested"]) hp1
  replace n1 := e1 _ _ n1
  replace n2 := Dp.same e1 n2
  replace n3 := Same.seqT e1 n3
  replace n5 := n5.fix (CD := T.C_Doc) (.of e1)
  replace o1 := e1 _ _ o1
  replace o2 := o2.fix (CN := T.C_Node) (CD := T.C_Doc) (.of e1)
  generalize upd H p1 _ = Hx at e1 n1 n2 n3 n5 o1 o2 ⊢
  cases t with
  | txt z =>
    refine iteF ?_
    obtain ⟨vz, hs, hz⟩ := brk_own (d := .str z) n2
    cases hz
    cases f with
    | false =>
      refine ⟨_, rfl, p, T.C_Node, dxn, _, _, rfl, n1, T.cls_Node, T.na_Node_kind, rfl, _, _, .str _, .str _, Nd.shaped (.txt z), kind_shaped 1, false, congrArg V.bl (kq (.txt z) 1), iteF ?_⟩
      refine iteF ?_
      refine ⟨_, rfl, p, T.C_Node, dxn, _, _, rfl, n1, T.cls_Node, T.na_Node_kind, rfl, (by show 2 ≤ sizeLine; decide), fun p2 hp2 => ⟨p2, _, rfl, .inr (.of upd_same), rfl, rfl, true, congrArg V.bl (kin2 (.txt z)), iteT ?_⟩⟩
      have e2 := same_new (o := .tup [.str "text", .str "break"]) hp2
      replace e1 := e1.trans e2
      replace n1 := e2 _ _ n1
      replace n3 := Same.seqT e2 n3
      replace o1 := e2 _ _ o1
      replace o2 := o2.fix (CN := T.C_Node) (CD := T.C_Doc) (.of e2)
      replace hs := Same.seqT e2 hs
      clear n2
      generalize upd Hx p2 _ = Hy at e1 n1 n3 o1 o2 hs ⊢
      refine ⟨_, rfl, s, T.C_Search, dxs, _, _, rfl, o1, T.cls_Search, T.na_Search_states, rfl, _, rfl, p, T.C_Node, dxn, _, _, rfl, n1, T.cls_Node, T.na_Node_own, rfl, ow, _, 0, _, rfl, rfl, hs, rfl, _, rfl, s, T.C_Search, dxs, _, _, rfl, o1, T.cls_Search, T.na_Search_limit, rfl, sts, z, W, B, c, col, L, rfl, o2, nc, W0, W1, (by have : (Nd.txt z).wt = z.length + 1 := rfl; omega), tok, av.1, fun u H1 c1 s1 hu n1 cv => ?_⟩
      obtain ⟨dx1, st1, q1, q2⟩ := sts_ u H1 _ c1 (e1.trans s1) (by omega) (by have : (Nd.txt z).wt = z.length + 1 := rfl; omega) hu n1 cv
      exact ⟨_, rfl, s, T.C_Search, dx1, _, rfl, q1, T.cls_Search, T.na_Search_states, (by show 5 < 1000; decide), q2⟩
    | true =>
      refine ⟨_, rfl, p, T.C_Node, dxn, _, _, rfl, n1, T.cls_Node, T.na_Node_kind, rfl, _, _, .str _, .str _, Nd.shaped (.txt z), kind_shaped 1, false, congrArg V.bl (kq (.txt z) 1), iteF ?_⟩
      refine iteF ?_
      refine ⟨_, rfl, p, T.C_Node, dxn, _, _, rfl, n1, T.cls_Node, T.na_Node_kind, rfl, (by show 2 ≤ sizeLine; decide), fun p2 hp2 => ⟨p2, _, rfl, .inr (.of upd_same), rfl, rfl, true, congrArg V.bl (kin2 (.txt z)), iteT ?_⟩⟩
      have e2 := same_new (o := .tup [.str "text", .str "break"]) hp2
      replace e1 := e1.trans e2
      replace n1 := e2 _ _ n1
      replace n3 := Same.seqT e2 n3
      replace o1 := e2 _ _ o1
      replace o2 := o2.fix (CN := T.C_Node) (CD := T.C_Doc) (.of e2)
      replace hs := Same.seqT e2 hs
      clear n2
      generalize upd Hx p2 _ = Hy at e1 n1 n3 o1 o2 hs ⊢
      refine ⟨_, rfl, s, T.C_Search, dxs, _, _, rfl, o1, T.cls_Search, T.na_Search_states, rfl, _, rfl, p, T.C_Node, dxn, _, _, rfl, n1, T.cls_Node, T.na_Node_own, rfl, ow, _, 0, _, rfl, rfl, hs, rfl, _, rfl, s, T.C_Search, dxs, _, _, rfl, o1, T.cls_Search, T.na_Search_limit, rfl, sts, z, W, B, c, col, L, rfl, o2, nc, W0, W1, (by have : (Nd.txt z).wt = z.length + 1 := rfl; omega), tok, av.1, fun u H1 c1 s1 hu n1 cv => ?_⟩
      obtain ⟨dx1, st1, q1, q2⟩ := sts_ u H1 _ c1 (e1.trans s1) (by omega) (by have : (Nd.txt z).wt = z.length + 1 := rfl; omega) hu n1 cv
      exact ⟨_, rfl, s, T.C_Search, dx1, _, rfl, q1, T.cls_Search, T.na_Search_states, (by show 5 < 1000; decide), q2⟩
  | brk o =>
    refine iteF ?_
    cases f with
    | false =>
      cases o with
      | none =>
        refine ⟨_, rfl, p, T.C_Node, dxn, _, _, rfl, n1, T.cls_Node, T.na_Node_kind, rfl, _, _, .str _, .str _, Nd.shaped (.brk none), kind_shaped 1, true, congrArg V.bl (kq (.brk none) 1), iteT ?_⟩
        refine ⟨_, rfl, false, rfl, iteT ?_⟩
        refine ⟨_, rfl, s, T.C_Search, dxs, _, _, rfl, o1, T.cls_Search, T.na_Search_states, rfl, _, rfl, _, rfl, s, T.C_Search, dxs, _, _, rfl, o1, T.cls_Search, T.na_Search_left, rfl, _, rfl, s, T.C_Search, dxs, _, _, rfl, o1, T.cls_Search, T.na_Search_limit, rfl, sts, st, L, W, B, c, rfl, o2, nc, st0, L0, W0, W1, (by omega), fun u H1 c1 s1 hu n1 cv => ?_⟩
        obtain ⟨dx1, st1, q1, q2⟩ := sts_ u H1 _ c1 (e1.trans s1) (by omega) (by have : (Nd.brk none).wt = 2 := rfl; omega) hu n1 cv
        exact ⟨_, rfl, s, T.C_Search, dx1, _, rfl, q1, T.cls_Search, T.na_Search_states, (by show 5 < 1000; decide), q2⟩
      | some z =>
        refine ⟨_, rfl, p, T.C_Node, dxn, _, _, rfl, n1, T.cls_Node, T.na_Node_kind, rfl, _, _, .str _, .str _, Nd.shaped (.brk (some z)), kind_shaped 1, true, congrArg V.bl (kq (.brk (some z)) 1), iteT ?_⟩
        refine ⟨_, rfl, false, rfl, iteT ?_⟩
        refine ⟨_, rfl, s, T.C_Search, dxs, _, _, rfl, o1, T.cls_Search, T.na_Search_states, rfl, _, rfl, _, rfl, s, T.C_Search, dxs, _, _, rfl, o1, T.cls_Search, T.na_Search_left, rfl, _, rfl, s, T.C_Search, dxs, _, _, rfl, o1, T.cls_Search, T.na_Search_limit, rfl, sts, st, L, W, B, c, rfl, o2, nc, st0, L0, W0, W1, (by omega), fun u H1 c1 s1 hu n1 cv => ?_⟩
        obtain ⟨dx1, st1, q1, q2⟩ := sts_ u H1 _ c1 (e1.trans s1) (by omega) (by have : (Nd.brk (some z)).wt = z.length + 2 := rfl; omega) hu n1 cv
        exact ⟨_, rfl, s, T.C_Search, dx1, _, rfl, q1, T.cls_Search, T.na_Search_states, (by show 5 < 1000; decide), q2⟩
    | true =>
      cases o with
      | none =>
        exact absurd rfl z0
      | some z =>
        refine ⟨_, rfl, p, T.C_Node, dxn, _, _, rfl, n1, T.cls_Node, T.na_Node_kind, rfl, _, _, .str _, .str _, Nd.shaped (.brk (some z)), kind_shaped 1, true, congrArg V.bl (kq (.brk (some z)) 1), iteT ?_⟩
        obtain ⟨vz, hs, hz⟩ := brk_own (d := .str z) n2
        cases hz
        refine ⟨_, rfl, true, rfl, iteF ?_⟩
        refine ⟨_, rfl, p, T.C_Node, dxn, _, _, rfl, n1, T.cls_Node, T.na_Node_kind, rfl, (by show 2 ≤ sizeLine; decide), fun p2 hp2 => ⟨p2, _, rfl, .inr (.of upd_same), rfl, rfl, true, congrArg V.bl (kin2 (.brk (some z))), iteT ?_⟩⟩
        have e2 := same_new (o := .tup [.str "text", .str "break"]) hp2
        replace e1 := e1.trans e2
        replace n1 := e2 _ _ n1
        replace n3 := Same.seqT e2 n3
        replace o1 := e2 _ _ o1
        replace o2 := o2.fix (CN := T.C_Node) (CD := T.C_Doc) (.of e2)
        replace hs := Same.seqT e2 hs
        clear n2
        generalize upd Hx p2 _ = Hy at e1 n1 n3 o1 o2 hs ⊢
        refine ⟨_, rfl, s, T.C_Search, dxs, _, _, rfl, o1, T.cls_Search, T.na_Search_states, rfl, _, rfl, p, T.C_Node, dxn, _, _, rfl, n1, T.cls_Node, T.na_Node_own, rfl, ow, _, 0, _, rfl, rfl, hs, rfl, _, rfl, s, T.C_Search, dxs, _, _, rfl, o1, T.cls_Search, T.na_Search_limit, rfl, sts, z, W, B, c, col, L, rfl, o2, nc, W0, W1, (by have : (Nd.brk (some z)).wt = z.length + 2 := rfl; omega), tok, av.1, fun u H1 c1 s1 hu n1 cv => ?_⟩
        obtain ⟨dx1, st1, q1, q2⟩ := sts_ u H1 _ c1 (e1.trans s1) (by omega) (by have : (Nd.brk (some z)).wt = z.length + 2 := rfl; omega) hu n1 cv
        exact ⟨_, rfl, s, T.C_Search, dx1, _, rfl, q1, T.cls_Search, T.na_Search_states, (by show 5 < 1000; decide), q2⟩
  | hol z => exact tok.elim
  | jn a b =>
    cases n5 with
    | @cons qa _ ga _ _ _ ma n5 =>
    cases n5 with
    | @cons qb _ gb _ _ _ mb n5 =>
    cases n5
    refine iteT ⟨_, fun _ _ h => h, ?_⟩
    refine ⟨_, rfl, p, T.C_Node, dxn, _, _, rfl, n1, T.cls_Node, T.na_Node_kind, rfl, _, _, .str _, .str _, Nd.shaped (.jn a b), kind_shaped 3, true, congrArg V.bl (kq (.jn a b) 3), iteT ?_⟩
    have z1 : a.w2 f ≠ 0 ∧ b.w2 f ≠ 0 := by
      cases f with
      | false => exact mul_ne z0
      | true => exact mul_ne z0
    obtain ⟨xs0, e0, _⟩ := (S.same e1).to
    refine ⟨_, rfl, s, T.C_Search, dxs, _, _, rfl, o1, T.cls_Search, T.na_Search_todo, rfl, .inl ⟨rfl, _, .of e0⟩, _, rfl, p, T.C_Node, dxn, _, _, rfl, n1, T.cls_Node, T.na_Node_inner, rfl, inn, _, 1, _, rfl, rfl, n3, rfl, _, rfl, _, rfl, (by show 4 ≤ sizeLine; decide), fun r1 hr1 => ?_⟩
    have s1 := same_new (o := .tup [.int 0, .ref qb, .bl f, .int st]) hr1
    have x1 : TkAt K T.C_Node _ r1 (.enter b f st) := ⟨qb, gb, .of upd_same, mb.fix (CD := T.C_Doc) (.of s1)⟩
    obtain ⟨xs1, e3, l1, S1, b1⟩ := (S.same (e1.trans s1)).push x1
    refine ⟨td, xs1, .ref r1, rfl, rfl, e3, ltd _ _ l1 (by omega), ?_⟩
    have bt := (But.of (s := s) (kp := kp) (td := td) s1).trans b1
    have fx : Fix T.C_Node T.C_Doc _ _ := (S.same e1).fixs bt
    have n1' := fx _ _ n1 (.inl ⟨_, _, rfl⟩)
    have n3' := fx.seqT n3
    have ma' := ma.fix fx
    generalize upd (upd Hx r1 _) td _ = H2 at S1 bt fx n1' n3' ma' ⊢
    refine ⟨_, rfl, p, T.C_Node, dxn, _, _, rfl, n1', T.cls_Node, T.na_Node_inner, rfl, inn, _, 0, _, rfl, rfl, n3', rfl, ?_⟩
    exact gn (down qa a ga st [.enter b f st] H2 ((But.of e1).trans bt) S1 ma' tok.1 st0 z1.1 (by rw [wts_one]; show a.wt + b.wt < a.wt + b.wt + 1; omega) (fun y hy => by rw [List.mem_singleton.mp hy]; exact ⟨tok.2, st0⟩) (.join z0 z1.1 z1.2))
  | ch a b =>
    cases n5 with
    | @cons qa _ ga _ _ _ ma n5 =>
    cases n5 with
    | @cons qb _ gb _ _ _ mb n5 =>
    cases n5
    refine iteF ?_
    cases f with
    | false =>
      refine ⟨_, rfl, p, T.C_Node, dxn, _, _, rfl, n1, T.cls_Node, T.na_Node_kind, rfl, _, _, .str _, .str _, Nd.shaped (.ch a b), kind_shaped 1, false, congrArg V.bl (kq (.ch a b) 1), iteF ?_⟩
      refine iteF ?_
      refine ⟨_, rfl, p, T.C_Node, dxn, _, _, rfl, n1, T.cls_Node, T.na_Node_kind, rfl, (by show 2 ≤ sizeLine; decide), fun p2 hp2 => ⟨p2, _, rfl, .inr (.of upd_same), rfl, rfl, false, congrArg V.bl (kin2 (.ch a b)), iteF ?_⟩⟩
      have e2 := same_new (o := .tup [.str "text", .str "break"]) hp2
      replace e1 := e1.trans e2
      replace n1 := e2 _ _ n1
      replace n3 := Same.seqT e2 n3
      replace o1 := e2 _ _ o1
      replace o2 := o2.fix (CN := T.C_Node) (CD := T.C_Doc) (.of e2)
      replace ma := ma.fix (CD := T.C_Doc) (.of e2)
      replace mb := mb.fix (CD := T.C_Doc) (.of e2)
      clear n2
      generalize upd Hx p2 _ = Hy at e1 n1 n3 o1 o2 ma mb ⊢
      refine ⟨_, rfl, p, T.C_Node, dxn, _, _, rfl, n1, T.cls_Node, T.na_Node_kind, rfl, _, _, .str _, .str _, Nd.shaped (.ch a b), kind_shaped 4, true, congrArg V.bl (kq (.ch a b) 4), iteT ?_⟩
      have wa := a.ways_pos
      have wb := b.ways_pos
      refine ⟨_, rfl, s, dxs, _, rfl, o1, rfl, _, rfl, p, T.C_Node, dxn, _, _, rfl, n1, T.cls_Node, T.na_Node_inner, rfl, inn, _, 0, _, rfl, rfl, n3, rfl, _, rfl, _, rfl, (by show 4 ≤ sizeLine; decide), fun r1 hr1 => ?_⟩
      have s1 := same_new (o := .tup [.int 0, .ref qa, .bl false, .int st]) hr1
      have n1' := s1 _ _ n1
      have n3' := Same.seqT s1 n3
      refine ⟨_, rfl, p, T.C_Node, dxn, _, _, rfl, n1', T.cls_Node, T.na_Node_inner, rfl, inn, _, 1, _, rfl, rfl, n3', rfl, _, rfl, _, rfl, (by show 4 ≤ sizeLine; decide), fun r2 hr2 => ?_⟩
      have s2 := same_new (o := .tup [.int 0, .ref qb, .bl false, .int st]) hr2
      have s12 := s1.trans s2
      have x1 : TkAt K T.C_Node _ r1 (.enter a false st) := ⟨qa, ga, Same.seqT s2 (.of upd_same), ma.fix (CD := T.C_Doc) (.of s12)⟩
      have x2 : TkAt K T.C_Node _ r2 (.enter b false st) := ⟨qb, gb, .of upd_same, mb.fix (CD := T.C_Doc) (.of s12)⟩
      refine ⟨s, kp, td, r1, r2, W, L, B, c, kb, ts, _, _, rfl, S.same (e1.trans s12), lk, by omega, x1, x2, fun H' bt S' => ?_⟩
      refine hq _ c (c :: kb) [.enter a false st, .turn, .enter b false st, .merge] B ((But.of (e1.trans s12)).trans bt) S' (.fork z0 nc (or_sum (a := a.ways.1) (b := b.ways.1) z0) (.refl _)) ?_ ?_
      · rw [wts_cons, wts_cons, wts_cons, wts_one]
        show a.wt + (1 + (b.wt + 1)) + B < a.wt + b.wt + 4 + B
        omega
      · intro y hy
        simp only [List.mem_cons, List.not_mem_nil, or_false] at hy
        rcases hy with rfl | rfl | rfl | rfl
        · exact ⟨tok.1, st0⟩
        · trivial
        · exact ⟨tok.2, st0⟩
        · trivial
    | true =>
      refine ⟨_, rfl, p, T.C_Node, dxn, _, _, rfl, n1, T.cls_Node, T.na_Node_kind, rfl, _, _, .str _, .str _, Nd.shaped (.ch a b), kind_shaped 1, false, congrArg V.bl (kq (.ch a b) 1), iteF ?_⟩
      refine iteF ?_
      refine ⟨_, rfl, p, T.C_Node, dxn, _, _, rfl, n1, T.cls_Node, T.na_Node_kind, rfl, (by show 2 ≤ sizeLine; decide), fun p2 hp2 => ⟨p2, _, rfl, .inr (.of upd_same), rfl, rfl, false, congrArg V.bl (kin2 (.ch a b)), iteF ?_⟩⟩
      have e2 := same_new (o := .tup [.str "text", .str "break"]) hp2
      replace e1 := e1.trans e2
      replace n1 := e2 _ _ n1
      replace n3 := Same.seqT e2 n3
      replace o1 := e2 _ _ o1
      replace o2 := o2.fix (CN := T.C_Node) (CD := T.C_Doc) (.of e2)
      replace ma := ma.fix (CD := T.C_Doc) (.of e2)
      replace mb := mb.fix (CD := T.C_Doc) (.of e2)
      clear n2
      generalize upd Hx p2 _ = Hy at e1 n1 n3 o1 o2 ma mb ⊢
      refine ⟨_, rfl, p, T.C_Node, dxn, _, _, rfl, n1, T.cls_Node, T.na_Node_kind, rfl, _, _, .str _, .str _, Nd.shaped (.ch a b), kind_shaped 4, true, congrArg V.bl (kq (.ch a b) 4), iteT ?_⟩
      have wa := a.ways_pos
      have wb := b.ways_pos
      refine ⟨_, rfl, s, dxs, _, rfl, o1, rfl, _, rfl, p, T.C_Node, dxn, _, _, rfl, n1, T.cls_Node, T.na_Node_inner, rfl, inn, _, 0, _, rfl, rfl, n3, rfl, _, rfl, _, rfl, (by show 4 ≤ sizeLine; decide), fun r1 hr1 => ?_⟩
      have s1 := same_new (o := .tup [.int 0, .ref qa, .bl true, .int st]) hr1
      have n1' := s1 _ _ n1
      have n3' := Same.seqT s1 n3
      refine ⟨_, rfl, p, T.C_Node, dxn, _, _, rfl, n1', T.cls_Node, T.na_Node_inner, rfl, inn, _, 1, _, rfl, rfl, n3', rfl, _, rfl, _, rfl, (by show 4 ≤ sizeLine; decide), fun r2 hr2 => ?_⟩
      have s2 := same_new (o := .tup [.int 0, .ref qb, .bl true, .int st]) hr2
      have s12 := s1.trans s2
      have x1 : TkAt K T.C_Node _ r1 (.enter a true st) := ⟨qa, ga, Same.seqT s2 (.of upd_same), ma.fix (CD := T.C_Doc) (.of s12)⟩
      have x2 : TkAt K T.C_Node _ r2 (.enter b true st) := ⟨qb, gb, .of upd_same, mb.fix (CD := T.C_Doc) (.of s12)⟩
      refine ⟨s, kp, td, r1, r2, W, L, B, c, kb, ts, _, _, rfl, S.same (e1.trans s12), lk, by omega, x1, x2, fun H' bt S' => ?_⟩
      refine hq _ c (c :: kb) [.enter a true st, .turn, .enter b true st, .merge] B ((But.of (e1.trans s12)).trans bt) S' (.fork z0 nc (or_sum (a := a.ways.2) (b := b.ways.2) z0) (.refl _)) ?_ ?_
      · rw [wts_cons, wts_cons, wts_cons, wts_one]
        show a.wt + (1 + (b.wt + 1)) + B < a.wt + b.wt + 4 + B
        omega
      · intro y hy
        simp only [List.mem_cons, List.not_mem_nil, or_false] at hy
        rcases hy with rfl | rfl | rfl | rfl
        · exact ⟨tok.1, st0⟩
        · trivial
        · exact ⟨tok.2, st0⟩
        · trivial
  | ne i a =>
    cases n5 with
    | @cons qa _ ga _ _ _ ma n5 =>
    cases n5
    obtain ⟨vi, hs, hi⟩ := brk_own (d := .int i) n2
    cases hi
    refine iteT ⟨_, fun _ _ h => h, ?_⟩
    refine ⟨_, rfl, p, T.C_Node, dxn, _, _, rfl, n1, T.cls_Node, T.na_Node_kind, rfl, _, _, .str _, .str _, Nd.shaped (.ne i a), kind_shaped 3, false, congrArg V.bl (kq (.ne i a) 3), iteF ?_⟩
    refine ⟨_, rfl, _, rfl, p, T.C_Node, dxn, _, _, rfl, n1, T.cls_Node, T.na_Node_own, rfl, ow, _, 0, _, rfl, rfl, hs, rfl, _, _, rfl, rfl, ?_⟩
    refine ⟨_, rfl, p, T.C_Node, dxn, _, _, rfl, n1, T.cls_Node, T.na_Node_inner, rfl, inn, _, 0, _, rfl, rfl, n3, rfl, ?_⟩
    have z1 : a.w2 f ≠ 0 := by
      cases f with
      | false => exact z0
      | true => exact z0
    exact gn (down qa a ga (st + i) [] Hx (.of e1) (S.same e1) ma tok.2 (by have := tok.1; omega) z1 (by show a.wt + 0 < a.wt + 1; omega) (by simp) (.one z0 z1 (.refl _)))
  | gr a =>
    cases n5 with
    | @cons qa _ ga _ _ _ ma n5 =>
    cases n5
    refine iteF ?_
    cases f with
    | false =>
      refine ⟨_, rfl, p, T.C_Node, dxn, _, _, rfl, n1, T.cls_Node, T.na_Node_kind, rfl, _, _, .str _, .str _, Nd.shaped (.gr a), kind_shaped 1, false, congrArg V.bl (kq (.gr a) 1), iteF ?_⟩
      refine iteF ?_
      refine ⟨_, rfl, p, T.C_Node, dxn, _, _, rfl, n1, T.cls_Node, T.na_Node_kind, rfl, (by show 2 ≤ sizeLine; decide), fun p2 hp2 => ⟨p2, _, rfl, .inr (.of upd_same), rfl, rfl, false, congrArg V.bl (kin2 (.gr a)), iteF ?_⟩⟩
      have e2 := same_new (o := .tup [.str "text", .str "break"]) hp2
      replace e1 := e1.trans e2
      replace n1 := e2 _ _ n1
      replace n3 := Same.seqT e2 n3
      replace o1 := e2 _ _ o1
      replace o2 := o2.fix (CN := T.C_Node) (CD := T.C_Doc) (.of e2)
      replace ma := ma.fix (CD := T.C_Doc) (.of e2)
      clear n2
      generalize upd Hx p2 _ = Hy at e1 n1 n3 o1 o2 ma ⊢
      refine ⟨_, rfl, p, T.C_Node, dxn, _, _, rfl, n1, T.cls_Node, T.na_Node_kind, rfl, _, _, .str _, .str _, Nd.shaped (.gr a), kind_shaped 4, false, congrArg V.bl (kq (.gr a) 4), iteF ?_⟩
      refine ⟨_, rfl, p, T.C_Node, dxn, _, _, rfl, n1, T.cls_Node, T.na_Node_kind, rfl, _, _, .str _, .str _, Nd.shaped (.gr a), kind_shaped 7, false, congrArg V.bl (kq (.gr a) 7), iteF ?_⟩
      have wp := a.ways_pos
      have z1 : a.ways.1 ≠ 0 := fun z => z0 (by show a.ways.1 + a.ways.2 = 0; omega)
      obtain ⟨dxa, owa, inna, gpa, sza, moa, m1⟩ := ma.nf
      refine ⟨_, rfl, false, rfl, iteF ⟨_, rfl, p, T.C_Node, dxn, _, _, rfl, n1, T.cls_Node, T.na_Node_inner, rfl, inn, _, 0, _, rfl, rfl, n3, rfl, qa, T.C_Node, dxa, _, _, rfl, m1, T.cls_Node, T.na_Node_settled, rfl, stl a, rfl, ?_⟩⟩
      cases hst : stl a with
      | true =>
        refine iteT ?_
        obtain ⟨xs0, e0, _⟩ := (S.same e1).to
        refine ⟨_, rfl, s, T.C_Search, dxs, _, _, rfl, o1, T.cls_Search, T.na_Search_todo, rfl, .inl ⟨rfl, _, .of e0⟩, _, rfl, p, T.C_Node, dxn, _, _, rfl, n1, T.cls_Node, T.na_Node_inner, rfl, inn, _, 0, _, rfl, rfl, n3, rfl, _, rfl, _, rfl, (by show 4 ≤ sizeLine; decide), fun r1 hr1 => ?_⟩
        have s1 := same_new (o := .tup [.int 0, .ref qa, .bl false, .int st]) hr1
        have x1 : TkAt K T.C_Node _ r1 (.enter a false st) := ⟨qa, ga, .of upd_same, ma.fix (CD := T.C_Doc) (.of s1)⟩
        obtain ⟨xs1, e3, l1, q1⟩ := push_ a false r1 _ (e1.trans s1) x1 (by show a.wt < 2 * a.wt + 4; omega) tok z1 (M32.group_stl hst)
        exact ⟨td, xs1, .ref r1, rfl, rfl, e3, l1, q1⟩
      | false =>
        refine iteF ?_
        refine ⟨_, rfl, s, dxs, _, rfl, o1, rfl, _, rfl, p, T.C_Node, dxn, _, _, rfl, n1, T.cls_Node, T.na_Node_inner, rfl, inn, _, 0, _, rfl, rfl, n3, rfl, _, rfl, (by show 4 ≤ sizeLine; decide), fun r1 hr1 => ?_⟩
        have s1 := same_new (o := .tup [.int 0, .ref qa, .bl false, .int st]) hr1
        have n1' := s1 _ _ n1
        have n3' := Same.seqT s1 n3
        refine ⟨_, rfl, p, T.C_Node, dxn, _, _, rfl, n1', T.cls_Node, T.na_Node_inner, rfl, inn, _, 0, _, rfl, rfl, n3', rfl, _, rfl, (by show 4 ≤ sizeLine; decide), fun r2 hr2 => ?_⟩
        have s2 := same_new (o := .tup [.int 0, .ref qa, .bl true, .int st]) hr2
        have s12 := s1.trans s2
        have x1 : TkAt K T.C_Node _ r1 (.enter a false st) := ⟨qa, ga, Same.seqT s2 (.of upd_same), ma.fix (CD := T.C_Doc) (.of s12)⟩
        have x2 : TkAt K T.C_Node _ r2 (.enter a true st) := ⟨qa, ga, .of upd_same, ma.fix (CD := T.C_Doc) (.of s12)⟩
        refine ⟨s, kp, td, r1, r2, W, L, B, c, kb, ts, _, _, rfl, S.same (e1.trans s12), lk, by omega, x1, x2, fun H' bt S' => ?_⟩
        refine hq _ c (c :: kb) [.enter a false st, .turn, .enter a true st, .merge] B ((But.of (e1.trans s12)).trans bt) S' (.fork z0 nc (or_ne (dne z1)) (.refl _)) ?_ ?_
        · rw [wts_cons, wts_cons, wts_cons, wts_one]
          show a.wt + (1 + (a.wt + 1)) + B < 2 * a.wt + 4 + B
          omega
        · intro y hy
          simp only [List.mem_cons, List.not_mem_nil, or_false] at hy
          rcases hy with rfl | rfl | rfl | rfl
          · exact ⟨tok, st0⟩
          · trivial
          · exact ⟨tok, st0⟩
          · trivial
    | true =>
      refine ⟨_, rfl, p, T.C_Node, dxn, _, _, rfl, n1, T.cls_Node, T.na_Node_kind, rfl, _, _, .str _, .str _, Nd.shaped (.gr a), kind_shaped 1, false, congrArg V.bl (kq (.gr a) 1), iteF ?_⟩
      refine iteF ?_
      refine ⟨_, rfl, p, T.C_Node, dxn, _, _, rfl, n1, T.cls_Node, T.na_Node_kind, rfl, (by show 2 ≤ sizeLine; decide), fun p2 hp2 => ⟨p2, _, rfl, .inr (.of upd_same), rfl, rfl, false, congrArg V.bl (kin2 (.gr a)), iteF ?_⟩⟩
      have e2 := same_new (o := .tup [.str "text", .str "break"]) hp2
      replace e1 := e1.trans e2
      replace n1 := e2 _ _ n1
      replace n3 := Same.seqT e2 n3
      replace o1 := e2 _ _ o1
      replace o2 := o2.fix (CN := T.C_Node) (CD := T.C_Doc) (.of e2)
      replace ma := ma.fix (CD := T.C_Doc) (.of e2)
      clear n2
      generalize upd Hx p2 _ = Hy at e1 n1 n3 o1 o2 ma ⊢
      refine ⟨_, rfl, p, T.C_Node, dxn, _, _, rfl, n1, T.cls_Node, T.na_Node_kind, rfl, _, _, .str _, .str _, Nd.shaped (.gr a), kind_shaped 4, false, congrArg V.bl (kq (.gr a) 4), iteF ?_⟩
      refine ⟨_, rfl, p, T.C_Node, dxn, _, _, rfl, n1, T.cls_Node, T.na_Node_kind, rfl, _, _, .str _, .str _, Nd.shaped (.gr a), kind_shaped 7, false, congrArg V.bl (kq (.gr a) 7), iteF ?_⟩
      refine ⟨_, rfl, true, rfl, iteT (iteT ?_)⟩
      obtain ⟨xs0, e0, _⟩ := (S.same e1).to
      refine ⟨_, rfl, s, T.C_Search, dxs, _, _, rfl, o1, T.cls_Search, T.na_Search_todo, rfl, .inl ⟨rfl, _, .of e0⟩, _, rfl, p, T.C_Node, dxn, _, _, rfl, n1, T.cls_Node, T.na_Node_inner, rfl, inn, _, 0, _, rfl, rfl, n3, rfl, _, rfl, _, rfl, (by show 4 ≤ sizeLine; decide), fun r1 hr1 => ?_⟩
      have s1 := same_new (o := .tup [.int 0, .ref qa, .bl true, .int st]) hr1
      have x1 : TkAt K T.C_Node _ r1 (.enter a true st) := ⟨qa, ga, .of upd_same, ma.fix (CD := T.C_Doc) (.of s1)⟩
      obtain ⟨xs1, e3, l1, q1⟩ := push_ a true r1 _ (e1.trans s1) x1 (by show a.wt < 2 * a.wt + 4; omega) tok z0 (.refl _)
      exact ⟨td, xs1, .ref r1, rfl, rfl, e3, l1, q1⟩
  | fl a =>
    cases n5 with
    | @cons qa _ ga _ _ _ ma n5 =>
    cases n5
    refine iteF ?_
    cases f with
    | false =>
      refine ⟨_, rfl, p, T.C_Node, dxn, _, _, rfl, n1, T.cls_Node, T.na_Node_kind, rfl, _, _, .str _, .str _, Nd.shaped (.fl a), kind_shaped 1, false, congrArg V.bl (kq (.fl a) 1), iteF ?_⟩
      refine iteF ?_
      refine ⟨_, rfl, p, T.C_Node, dxn, _, _, rfl, n1, T.cls_Node, T.na_Node_kind, rfl, (by show 2 ≤ sizeLine; decide), fun p2 hp2 => ⟨p2, _, rfl, .inr (.of upd_same), rfl, rfl, false, congrArg V.bl (kin2 (.fl a)), iteF ?_⟩⟩
      have e2 := same_new (o := .tup [.str "text", .str "break"]) hp2
      replace e1 := e1.trans e2
      replace n1 := e2 _ _ n1
      replace n3 := Same.seqT e2 n3
      replace o1 := e2 _ _ o1
      replace o2 := o2.fix (CN := T.C_Node) (CD := T.C_Doc) (.of e2)
      replace ma := ma.fix (CD := T.C_Doc) (.of e2)
      clear n2
      generalize upd Hx p2 _ = Hy at e1 n1 n3 o1 o2 ma ⊢
      refine ⟨_, rfl, p, T.C_Node, dxn, _, _, rfl, n1, T.cls_Node, T.na_Node_kind, rfl, _, _, .str _, .str _, Nd.shaped (.fl a), kind_shaped 4, false, congrArg V.bl (kq (.fl a) 4), iteF ?_⟩
      refine ⟨_, rfl, p, T.C_Node, dxn, _, _, rfl, n1, T.cls_Node, T.na_Node_kind, rfl, _, _, .str _, .str _, Nd.shaped (.fl a), kind_shaped 7, true, congrArg V.bl (kq (.fl a) 7), iteT ?_⟩
      obtain ⟨xs0, e0, _⟩ := (S.same e1).to
      refine ⟨_, rfl, s, T.C_Search, dxs, _, _, rfl, o1, T.cls_Search, T.na_Search_todo, rfl, .inl ⟨rfl, _, .of e0⟩, _, rfl, p, T.C_Node, dxn, _, _, rfl, n1, T.cls_Node, T.na_Node_inner, rfl, inn, _, 0, _, rfl, rfl, n3, rfl, _, rfl, (by show 4 ≤ sizeLine; decide), fun r1 hr1 => ?_⟩
      have s1 := same_new (o := .tup [.int 0, .ref qa, .bl true, .int st]) hr1
      have x1 : TkAt K T.C_Node _ r1 (.enter a true st) := ⟨qa, ga, .of upd_same, ma.fix (CD := T.C_Doc) (.of s1)⟩
      obtain ⟨xs1, e3, l1, q1⟩ := push_ a true r1 _ (e1.trans s1) x1 (by show a.wt < a.wt + 1; omega) tok z0 (.refl _)
      exact ⟨td, xs1, .ref r1, rfl, rfl, e3, l1, q1⟩
    | true =>
      refine ⟨_, rfl, p, T.C_Node, dxn, _, _, rfl, n1, T.cls_Node, T.na_Node_kind, rfl, _, _, .str _, .str _, Nd.shaped (.fl a), kind_shaped 1, false, congrArg V.bl (kq (.fl a) 1), iteF ?_⟩
      refine iteF ?_
      refine ⟨_, rfl, p, T.C_Node, dxn, _, _, rfl, n1, T.cls_Node, T.na_Node_kind, rfl, (by show 2 ≤ sizeLine; decide), fun p2 hp2 => ⟨p2, _, rfl, .inr (.of upd_same), rfl, rfl, false, congrArg V.bl (kin2 (.fl a)), iteF ?_⟩⟩
      have e2 := same_new (o := .tup [.str "text", .str "break"]) hp2
      replace e1 := e1.trans e2
      replace n1 := e2 _ _ n1
      replace n3 := Same.seqT e2 n3
      replace o1 := e2 _ _ o1
      replace o2 := o2.fix (CN := T.C_Node) (CD := T.C_Doc) (.of e2)
      replace ma := ma.fix (CD := T.C_Doc) (.of e2)
      clear n2
      generalize upd Hx p2 _ = Hy at e1 n1 n3 o1 o2 ma ⊢
      refine ⟨_, rfl, p, T.C_Node, dxn, _, _, rfl, n1, T.cls_Node, T.na_Node_kind, rfl, _, _, .str _, .str _, Nd.shaped (.fl a), kind_shaped 4, false, congrArg V.bl (kq (.fl a) 4), iteF ?_⟩
      refine ⟨_, rfl, p, T.C_Node, dxn, _, _, rfl, n1, T.cls_Node, T.na_Node_kind, rfl, _, _, .str _, .str _, Nd.shaped (.fl a), kind_shaped 7, true, congrArg V.bl (kq (.fl a) 7), iteT ?_⟩
      obtain ⟨xs0, e0, _⟩ := (S.same e1).to
      refine ⟨_, rfl, s, T.C_Search, dxs, _, _, rfl, o1, T.cls_Search, T.na_Search_todo, rfl, .inl ⟨rfl, _, .of e0⟩, _, rfl, p, T.C_Node, dxn, _, _, rfl, n1, T.cls_Node, T.na_Node_inner, rfl, inn, _, 0, _, rfl, rfl, n3, rfl, _, rfl, (by show 4 ≤ sizeLine; decide), fun r1 hr1 => ?_⟩
      have s1 := same_new (o := .tup [.int 0, .ref qa, .bl true, .int st]) hr1
      have x1 : TkAt K T.C_Node _ r1 (.enter a true st) := ⟨qa, ga, .of upd_same, ma.fix (CD := T.C_Doc) (.of s1)⟩
      obtain ⟨xs1, e3, l1, q1⟩ := push_ a true r1 _ (e1.trans s1) x1 (by show a.wt < a.wt + 1; omega) tok z0 (.refl _)
      exact ⟨td, xs1, .ref r1, rfl, rfl, e3, l1, q1⟩
end
end K33

namespace K33
open PySem PySem.Spec PyProof.Rows L2 Vk
section
variable {K : PySem.W.Frag} {CN CD CS s kp td : Addr} {H H' : Hp} {B B' : Nat} {W L : Int} {c : List M32.At} {kb : List (List M32.At)} {ts : List Tk}
theorem SG.pop {x : Tk} (S : SG K CN CS H s W L kp td B c kb (x :: ts)) :
    ∃ q xs, H td = some (.lst (xs ++ [.ref q])) ∧ TkAt K CN (upd H td (.lst xs)) q x ∧ SG K CN CS (upd H td (.lst xs)) s W L kp td B c kb ts ∧ But s kp td H (upd H td (.lst xs)) := by
  obtain ⟨⟨dx, st, o1, o2⟩, ⟨ks, e1, e2⟩, ne, w0, ⟨qs, g1, g2⟩⟩ := S
  cases g2 with
  | @cons q _ qs _ h1 h2 =>
  have nst : s ≠ td := fun z => by rw [z, g1] at o1; cases o1
  have bt : But s kp td H (upd H td (.lst (qs.reverse.map V.ref))) := fun b o e n1 n2 n3 => by
    rw [upd_ne n3]
    exact e
  have fx := fix_of (CN := CN) (CD := CN) o1 e1 g1 bt
  have er : ((q :: qs).reverse.map V.ref) = qs.reverse.map V.ref ++ [.ref q] := by simp
  rw [er] at g1
  exact ⟨q, _, g1, h1.fix fx, ⟨⟨dx, st, by rw [upd_ne nst]; exact o1, o2.fix fx⟩, ⟨ks, by rw [upd_ne ne]; exact e1, e2.fix fx⟩, ne, w0, ⟨qs, upd_same, h2.fix fx⟩⟩, bt⟩
theorem SG.popk {k0 : List M32.At} (S : SG K CN CS H s W L kp td B c (k0 :: kb) ts) :
    ∃ d xs, H kp = some (.lst (xs ++ [.ref d])) ∧ StW K (upd H kp (.lst xs)) d B W k0 ∧ SG K CN CS (upd H kp (.lst xs)) s W L kp td B c kb ts ∧ But s kp td H (upd H kp (.lst xs)) := by
  obtain ⟨⟨dx, st, o1, o2⟩, ⟨ks, e1, e2⟩, ne, w0, ⟨qs, g1, g2⟩⟩ := S
  cases e2 with
  | @cons d _ ks _ h1 h2 =>
  have nsk : s ≠ kp := fun z => by rw [z, e1] at o1; cases o1
  have bt : But s kp td H (upd H kp (.lst (ks.reverse.map V.ref))) := fun b o e n1 n2 n3 => by
    rw [upd_ne n2]
    exact e
  have fx := fix_of (CN := CN) (CD := CN) o1 e1 g1 bt
  have er : ((d :: ks).reverse.map V.ref) = ks.reverse.map V.ref ++ [.ref d] := by simp
  rw [er] at e1
  exact ⟨d, _, e1, h1.fix fx, ⟨⟨dx, st, by rw [upd_ne nsk]; exact o1, o2.fix fx⟩, ⟨ks, upd_same, h2.fix fx⟩, ne, w0, ⟨qs, by rw [upd_ne ne.symm]; exact g1, g2.fix fx⟩⟩, bt⟩
theorem last_of (xs : List V) (y : V) : (xs ++ [y])[(xs ++ [y]).length - 1]? = some y := by simp
end
def iniS (W col : Int) : List M32.At := [(min col W, ⟨max 0 (col - W), 1, [], 0, []⟩)]
def RunG (K : PySem.W.Frag) (CN CS : Addr) (H : Hp) (s p kp td : Addr) (W L col : Int) (t : Nd) (m : Nat) (σ : L2.St) (H' : Hp) : Prop :=
  ∃ (B : Nat) (c : List M32.At) (kb : List (List M32.At)) (ts : List Tk) (v2 v3 v4 v5 : Option V), σ = [some (.ref s), some (.ref p), v2, v3, v4, v5] ∧ But s kp td H H' ∧ SG K CN CS H' s W L kp td B c kb ts ∧ safe ts (kb.map fl) (fl c) ∧ (∀ x ∈ ts, x.ok) ∧ wts ts + B ≤ 1000000 ∧ AVs W col L c kb ∧
    M32.Cov (DS W L ts kb c) (M32.pth W L t false 0 (M32.ini W col)) ∧ m = wts ts + B
def spSIG (K : PySem.W.Frag) (CN CS : Addr) : Sp := fun vs H Q _ => ∃ (s dx : Addr) (W C L : Int), vs = [.ref s, .int W, .int C, .int L] ∧ H s = some (.ins CS dx []) ∧ 0 ≤ W ∧ W ≤ 60 ∧ 0 ≤ C ∧ 0 ≤ L ∧
  ∀ H' kp td, (∀ b o, H b = some o → b ≠ s → H' b = some o) → H kp = none → H td = none → SG K CN CS H' s W L kp td 0 (iniS W C) [] [] → Q .non H'
def spRunG (K : PySem.W.Frag) (CN CS : Addr) : Sp := fun vs H Q _ => ∃ (s kp td p : Addr) (W L col : Int) (t : Nd) (gs : List Str), vs = [.ref s, .ref p] ∧ SG K CN CS H s W L kp td 0 (iniS W col) [] [] ∧ NodeAt K CN H p t gs ∧ t.ok ∧ t.ways.1 ≠ 0 ∧ t.wt ≤ 900000 ∧
  ∀ H' dx st B c, But s kp td H H' → H' s = some (.ins CS dx (sf W L st kp td)) → StW K H' st B W c → B ≤ 1000000 → c ≠ [] → M32.Cov (M32.setOf c) (M32.pth W L t false 0 (M32.ini W col)) → Q .non H'
theorem ini_set {W col : Int} : M32.setOf (iniS W col) = M32.ini W col := funext fun x => propext List.mem_singleton
theorem fl_or {a b c : List M32.At} (h : M32.Cov (M32.setOf c) fun x => M32.setOf a x ∨ M32.setOf b x) : fl c = (fl a || fl b) := by
  cases c with
  | nil =>
    cases a with
    | cons x _ =>
      obtain ⟨y, hy, _⟩ := h.by_ x (.inl (List.mem_cons_self ..))
      cases hy
    | nil =>
      cases b with
      | cons x _ =>
        obtain ⟨y, hy, _⟩ := h.by_ x (.inr (List.mem_cons_self ..))
        cases hy
      | nil => rfl
  | cons z c =>
    rcases h.of z (List.mem_cons_self ..) with g | g
    · cases a with
      | nil => cases g
      | cons _ _ => rfl
    · cases b with
      | nil => cases g
      | cons _ _ => cases a <;> rfl
theorem ne_fl {c : List M32.At} (h : fl c = true) : c ≠ [] := fun z => by rw [z] at h; cases h
section
variable {P : Program} {w : World} {K : PySem.W.Frag} {mg : Str → Option Value} {base : Heap} {k : Nat}
theorem ok_siG (T : Tx K mg) : FnOk P w K mg base CX0 (k + 1) T.a_Search_init T.d_Search_init P_Search_init (spSIG K T.C_Node T.C_Search) := by
  refine T.F_Search_init.ok sc_Search_init (fun vs H Q E h => ?_) (fun cdv A outer s H vs Q E hr h => ?_)
  · obtain ⟨s, dx, W, C, L, rfl, _⟩ := h
    rfl
  obtain ⟨s, dx, W, C, L, rfl, hs, W0, W1, C0, L0, hq⟩ := h
  refine ⟨_, (pss_cons (ps_fld (pv 0) (pv 1) rfl)
(pss_cons (ps_fld (pv 0) (pv 3) rfl)
(pss_cons (ps_fld (pv 0) (pe_disp (pps_cons (pe_callB (call_min2 rfl) rfl T.z_min (by decide +kernel) (pa_cons (pv 2) (pa_cons (pv 1) pa_nil))) (pe_tup (pa_cons (pe_callB (call_max2 rfl) rfl T.z_max (by decide +kernel) (pa_cons pe_int (pa_cons (pe_op op_sub (pv 2) (pv 1)) pa_nil))) (pa_cons pe_int (pa_cons (pe_tup pa_nil) (pa_cons (pe_tup pa_nil) (pa_cons pe_int (pa_cons pe_str pa_nil))))))) pps_nil) rfl rfl (by simp) (by decide)) rfl)
(pss_cons (ps_fld (pv 0) (pe_lst pa_nil) rfl)
(pss_one (ps_fld (pv 0) (pe_lst pa_nil) rfl)))))), ?_⟩
  have R0 : ∀ {H' : Hp} {o : HO}, (∀ b o, H b = some o → b ≠ s → H' b = some o) → ∀ b u, H b = some u → b ≠ s → upd H' s o b = some u := fun r b u e n => by
    rw [upd_ne n]
    exact r b u e n
  refine ⟨_, rfl, _, rfl, s, T.C_Search, dx, _, rfl, hs, T.cls_Search, T.na_Search_limit, (by show 0 < 1000; decide), ?_⟩
  refine ⟨_, rfl, _, rfl, s, T.C_Search, dx, _, rfl, upd_same, T.cls_Search, T.na_Search_left, (by show 1 < 1000; decide), ?_⟩
  rw [upd_upd]
  have k1 : upd H s (.ins T.C_Search dx (putF "left" (.int L) (putF "limit" (.int W) []))) s = some (.ins T.C_Search dx (putF "left" (.int L) (putF "limit" (.int W) []))) := upd_same
  have r1 : ∀ b o, H b = some o → b ≠ s → upd H s (.ins T.C_Search dx (putF "left" (.int L) (putF "limit" (.int W) []))) b = some o := R0 fun _ _ e _ => e
  have f1 : ∀ b, upd H s (.ins T.C_Search dx (putF "left" (.int L) (putF "limit" (.int W) []))) b = none → H b = none ∧ b ≠ s := fun b hb => by
    have n : b ≠ s := fun z => by rw [z, upd_same] at hb; cases hb
    rw [upd_ne n] at hb
    exact ⟨hb, n⟩
  generalize upd H s (.ins T.C_Search dx (putF "left" (.int L) (putF "limit" (.int W) []))) = H1 at k1 r1 f1 ⊢
  intro d hd
  have s2 := same_new (o := .dK []) hd
  refine ⟨_, rfl, _, rfl, _, _, rfl, _, rfl, _, rfl, _, _, rfl, rfl, _, _, rfl, (by show 0 ≤ sizeLine; decide), fun e0 he0 => ⟨(by show 0 ≤ sizeLine; decide), fun e9 he9 => ?_⟩⟩
  have s3 := s2.trans ((same_new (o := .tup []) he0).trans (same_new (o := .tup []) he9))
  refine ⟨(by show 6 ≤ sizeLine; decide), fun e1 he1 => ?_⟩
  have s4 := s3.trans (same_new (o := .tup [.int (if C - W > 0 then C - W else 0), .int 1, .ref e0, .ref e9, .int 0, .str ""]) he1)
  have kd0 : upd (upd (upd (upd H1 d (.dK [])) e0 (.tup [])) e9 (.tup [])) e1 (.tup [.int (if C - W > 0 then C - W else 0), .int 1, .ref e0, .ref e9, .int 0, .str ""]) d = some (.dK []) := same_new he1 _ _ (same_new he9 _ _ (same_new he0 _ _ upd_same))
  have dst : Dp K (upd (upd (upd (upd H1 d (.dK [])) e0 (.tup [])) e9 (.tup [])) e1 (.tup [.int (if C - W > 0 then C - W else 0), .int 1, .ref e0, .ref e9, .int 0, .str ""])) (.ref e1) (M32.toD ⟨max 0 (C - W), 1, [], 0, []⟩) := by
    have e : (if C - W > 0 then C - W else 0) = max 0 (C - W) := by split <;> omega
    rw [toD_is, ← e]
    exact .tup (.of upd_same) (.cons (.int _) (.cons (.int _) (.cons (.tup (Same.seqT ((same_new he9).trans (same_new he1)) (.of upd_same)) .nil) (.cons (.tup (Same.seqT (same_new he1) (.of upd_same)) .nil) (.cons (.int _) (.cons (.str _) .nil))))))
  have ini0 : SzOk (⟨max 0 (C - W), 1, [], 0, []⟩ : M32.St) 0 := ⟨Nat.le_refl 0, (fun c h => by cases h), (fun r h => by cases h), rfl⟩
  have nds : d ≠ s := (f1 d hd).2
  refine ⟨kd0, [(Sum.inl _, .ref e1)], rfl, by simp, _, rfl, s, T.C_Search, dx, _, rfl, (by rw [upd_ne nds.symm]; exact s4 _ _ k1), T.cls_Search, T.na_Search_states, (by show 2 < 1000; decide), ?_⟩
  have hst2 := Dp.updD (o := .dK [(Sum.inl (if W < C then W else C), .ref e1)]) (.dK kd0) dst (toD_noL _)
  have m0 : 0 ≤ (if W < C then W else C) ∧ (if W < C then W else C) ≤ W := by split <;> omega
  have r2 : ∀ b o, H b = some o → b ≠ s → upd (upd (upd (upd (upd H1 d (.dK [])) e0 (.tup [])) e9 (.tup [])) e1 (.tup [.int (if C - W > 0 then C - W else 0), .int 1, .ref e0, .ref e9, .int 0, .str ""])) d (.dK [(Sum.inl (if W < C then W else C), .ref e1)]) b = some o := fun b o e n => by
    rw [upd_ne (fun z => by rw [z, (f1 d hd).1] at e; cases e)]
    exact s4 _ _ (r1 b o e n)
  have kd1 : upd (upd (upd (upd (upd H1 d (.dK [])) e0 (.tup [])) e9 (.tup [])) e1 (.tup [.int (if C - W > 0 then C - W else 0), .int 1, .ref e0, .ref e9, .int 0, .str ""])) d (.dK [(Sum.inl (if W < C then W else C), .ref e1)]) d = some (.dK [(Sum.inl (if W < C then W else C), .ref e1)]) := upd_same
  have ks1 : upd (upd (upd (upd (upd H1 d (.dK [])) e0 (.tup [])) e9 (.tup [])) e1 (.tup [.int (if C - W > 0 then C - W else 0), .int 1, .ref e0, .ref e9, .int 0, .str ""])) d (.dK [(Sum.inl (if W < C then W else C), .ref e1)]) s = some (.ins T.C_Search dx (putF "left" (.int L) (putF "limit" (.int W) []))) := by rw [upd_ne nds.symm]; exact s4 _ _ k1
  show sFld K (tVar 0) (tLst tNil) "kept" _ _ (upd (upd (upd (upd (upd (upd H1 d (.dK [])) e0 (.tup [])) e9 (.tup [])) e1 (.tup [.int (if C - W > 0 then C - W else 0), .int 1, .ref e0, .ref e9, .int 0, .str ""])) d (.dK [(Sum.inl (if W < C then W else C), .ref e1)])) s (.ins T.C_Search dx (putF "states" (.ref d) (putF "left" (.int L) (putF "limit" (.int W) [])))))
  generalize upd (upd (upd (upd (upd H1 d (.dK [])) e0 (.tup [])) e9 (.tup [])) e1 (.tup [.int (if C - W > 0 then C - W else 0), .int 1, .ref e0, .ref e9, .int 0, .str ""])) d (.dK [(Sum.inl (if W < C then W else C), .ref e1)]) = H2 at hst2 r2 kd1 ks1 ⊢
  have hst3 := Dp.updD (o := .ins T.C_Search dx (putF "states" (.ref d) (putF "left" (.int L) (putF "limit" (.int W) [])))) (.ins ks1) hst2 (toD_noL _)
  have r3 := R0 (o := .ins T.C_Search dx (putF "states" (.ref d) (putF "left" (.int L) (putF "limit" (.int W) [])))) r2
  have kd3 : upd H2 s (.ins T.C_Search dx (putF "states" (.ref d) (putF "left" (.int L) (putF "limit" (.int W) [])))) d = some (.dK [(Sum.inl (if W < C then W else C), .ref e1)]) := by rw [upd_ne nds]; exact kd1
  have ks3 : upd H2 s (.ins T.C_Search dx (putF "states" (.ref d) (putF "left" (.int L) (putF "limit" (.int W) [])))) s = some (.ins T.C_Search dx (putF "states" (.ref d) (putF "left" (.int L) (putF "limit" (.int W) [])))) := upd_same
  generalize upd H2 s _ = H3 at hst3 r3 kd3 ks3 ⊢
  -- self.kept
  refine ⟨(by show 0 ≤ sizeLine; decide), fun kp hkp => ?_⟩
  have sk := same_new (o := .lst []) hkp
  refine ⟨_, rfl, s, T.C_Search, dx, _, rfl, sk _ _ ks3, T.cls_Search, T.na_Search_kept, (by show 3 < 1000; decide), ?_⟩
  have nks : kp ≠ s := (ne_of_none ks3 hkp).symm
  have ndk : d ≠ kp := ne_of_none kd3 hkp
  have hst4 := Dp.updD (o := .ins T.C_Search dx (putF "kept" (.ref kp) (putF "states" (.ref d) (putF "left" (.int L) (putF "limit" (.int W) []))))) (.ins (sk _ _ ks3)) (Dp.same sk hst3) (toD_noL _)
  have r4 := R0 (o := .ins T.C_Search dx (putF "kept" (.ref kp) (putF "states" (.ref d) (putF "left" (.int L) (putF "limit" (.int W) []))))) (fun b o e n => sk b o (r3 b o e n))
  have kd4 : upd (upd H3 kp (.lst [])) s (.ins T.C_Search dx (putF "kept" (.ref kp) (putF "states" (.ref d) (putF "left" (.int L) (putF "limit" (.int W) []))))) d = some (.dK [(Sum.inl (if W < C then W else C), .ref e1)]) := by rw [upd_ne nds]; exact sk _ _ kd3
  have kk4 : upd (upd H3 kp (.lst [])) s (.ins T.C_Search dx (putF "kept" (.ref kp) (putF "states" (.ref d) (putF "left" (.int L) (putF "limit" (.int W) []))))) kp = some (.lst []) := by rw [upd_ne nks, upd_same]
  have ks4 : upd (upd H3 kp (.lst [])) s (.ins T.C_Search dx (putF "kept" (.ref kp) (putF "states" (.ref d) (putF "left" (.int L) (putF "limit" (.int W) []))))) s = some (.ins T.C_Search dx (putF "kept" (.ref kp) (putF "states" (.ref d) (putF "left" (.int L) (putF "limit" (.int W) []))))) := upd_same
  have hk0 : H kp = none := by
    by_cases z : H kp = none
    · exact z
    · obtain ⟨o, ho⟩ := Option.ne_none_iff_exists'.mp z
      have := r3 kp o ho nks
      rw [hkp] at this
      cases this
  generalize upd (upd H3 kp (.lst [])) s _ = H4 at hst4 r4 kd4 kk4 ks4 ⊢
  -- self.todo
  refine ⟨(by show 0 ≤ sizeLine; decide), fun td htd => ?_⟩
  have st := same_new (o := .lst []) htd
  refine ⟨_, rfl, s, T.C_Search, dx, _, rfl, st _ _ ks4, T.cls_Search, T.na_Search_todo, (by show 4 < 1000; decide), ?_⟩
  have nts : td ≠ s := (ne_of_none ks4 htd).symm
  have ntk : kp ≠ td := ne_of_none kk4 htd
  have hst5 := Dp.updD (o := .ins T.C_Search dx (putF "todo" (.ref td) (putF "kept" (.ref kp) (putF "states" (.ref d) (putF "left" (.int L) (putF "limit" (.int W) [])))))) (.ins (st _ _ ks4)) (Dp.same st hst4) (toD_noL _)
  have ht0 : H td = none := by
    by_cases z : H td = none
    · exact z
    · obtain ⟨o, ho⟩ := Option.ne_none_iff_exists'.mp z
      have := r4 td o ho nts
      rw [htd] at this
      cases this
  have em : min C W = if W < C then W else C := by split <;> omega
  refine hq _ kp td (R0 fun b o e n => st b o (r4 b o e n)) hk0 ht0 ⟨⟨dx, d, by rw [upd_same]; rfl, ⟨_, by rw [upd_ne nds]; exact st _ _ kd4, ?_⟩⟩, ⟨[], by rw [upd_ne nks]; exact st _ _ kk4, .nil⟩, ntk, ⟨W0, W1, L0⟩, ⟨[], by rw [upd_ne nts, upd_same]; rfl, .nil⟩⟩
  unfold iniS
  rw [em]
  refine ⟨.cons hst5 ini0 .nil, by simp [M32.Keys], fun c hc => ?_⟩
  rw [List.mem_singleton.mp hc]
  exact m0
theorem ok_runG (T : Tx K mg) (G_Search_enter : FnOk P w K mg base CX0 k T.a_Search_enter T.d_Search_enter P_Search_enter (spEnG K T.C_Node T.C_Search)) (G_Search_turn : FnOk P w K mg base CX0 k T.a_Search_turn T.d_Search_turn P_Search_turn (spTnG K T.C_Node T.C_Search)) (G_merged : FnOk P w K mg base CX0 k T.a_merged T.d_merged P_merged (spMgG K)) :
    FnOk P w K mg base CX0 (k + 1) T.a_Search_run T.d_Search_run P_Search_run (spRunG K T.C_Node T.C_Search) := by
  refine T.F_Search_run.ok sc_Search_run (fun vs H Q E h => ?_) (fun cdv A outer s H vs Q E hr h => ?_)
  · obtain ⟨s, kp, td, p, W, L, col, t, gs, rfl, _⟩ := h
    rfl
  obtain ⟨s, kp, td, p, W, L, col, t, gs, rfl, S, N, tok, z0, lw, hq⟩ := h
  refine ⟨_, (pss_cons (ps_expr (pe_bm PySem.F.plainAttrs_list PySem.F.slot_list_append PySem.F.type_list_append mt_append (pe_fld (pv 0) rfl) (pa_cons (pe_tup (pa_cons (pe_glob (v := .int 0) rfl T.c_ENTER T.r_ENTER) (pa_cons (pv 1) (pa_cons pe_bl (pa_cons pe_int pa_nil))))) pa_nil)))
(pss_one (ps_while PassesOwn.never (pt_truth (pe_fld (pv 0) rfl) (fun _ => rfl))
(pss_cons (ps_asg (pe_bm0 PySem.F.plainAttrs_list PySem.F.slot_list_pop PySem.F.type_list_pop mt_pop (pe_fld (pv 0) rfl)) (pg_tup rfl (pgs_cons (pg_name (i := 2) sc_Search_run.nd rfl (Or.inl rfl)) (pgs_cons (pg_name (i := 3) sc_Search_run.nd rfl (Or.inl rfl)) (pgs_cons (pg_name (i := 4) sc_Search_run.nd rfl (Or.inl rfl)) (pgs_cons (pg_name (i := 5) sc_Search_run.nd rfl (Or.inl rfl)) pgs_nil))))))
(pss_one (ps_if (pt_cmpR (op_eqD hr.units) (pv 2) (pe_glob (v := .int 0) rfl T.c_ENTER T.r_ENTER) (nomark _))
(pss_one (ps_expr (pe_meth (pv 0) T.cls_Search T.me_Search_enter G_Search_enter hr T.b_Search_enter .nil pass0 (pa_cons (pv 3) (pa_cons (pv 4) (pa_cons (pv 5) pa_nil))))))
(pss_one (ps_if (pt_cmpR (op_eqD hr.units) (pv 2) (pe_glob (v := .int 1) rfl T.c_TURN T.r_TURN) (nomark _))
(pss_one (ps_expr (pe_meth0 (pv 0) T.cls_Search T.me_Search_turn G_Search_turn hr T.b_Search_turn .nil pass0)))
(pss_one (ps_fld (pv 0) (pe_call G_merged hr rfl T.m_merged T.F_merged.kp T.b_merged .nil pass0 (pa_cons (pe_bm0 PySem.F.plainAttrs_list PySem.F.slot_list_pop PySem.F.type_list_pop mt_pop (pe_fld (pv 0) rfl)) (pa_cons (pe_fld (pv 0) rfl) pa_nil))) rfl)))))))))), ?_⟩
  obtain ⟨dx0, st0, o0⟩ := S.obj
  obtain ⟨qs0, e0, _⟩ := S.to
  refine ⟨_, rfl, s, T.C_Search, dx0, _, _, rfl, o0, T.cls_Search, T.na_Search_todo, rfl, .inl ⟨rfl, _, .of e0⟩, _, rfl, (by show 4 ≤ sizeLine; decide), fun r hr0 => ?_⟩
  have s1 := same_new (o := .tup [.int 0, .ref p, .bl false, .int 0]) hr0
  have x1 : TkAt K T.C_Node _ r (.enter t false 0) := ⟨p, gs, .of upd_same, N.fix (CD := T.C_Doc) (.of s1)⟩
  obtain ⟨xs1, e1, l1, S1, b1⟩ := (S.same s1).push x1
  refine ⟨td, xs1, .ref r, rfl, rfl, e1, by rw [l1]; decide, ?_⟩
  have bt := (But.of (s := s) (kp := kp) (td := td) s1).trans b1
  generalize upd (upd H r _) td _ = H1 at S1 bt ⊢
  refine ⟨RunG K T.C_Node T.C_Search H s p kp td W L col t, ⟨_, 0, iniS W col, [], [.enter t false 0], none, none, none, none, rfl, bt, S1, ⟨rfl, rfl, decide_eq_true z0⟩, fun x hx => ?_, ?_, ?_, ?_, rfl⟩, ?_⟩
  · rw [List.mem_singleton.mp hx]
    exact ⟨tok, Int.le_refl _⟩
  · rw [wts_one]
    show t.wt + 0 ≤ 1000000
    omega
  · refine ⟨?_, fun l h => by cases h⟩
    rw [ini_set]
    exact M32.ini_val
  · show M32.Cov (M32.pth W L t false 0 (M32.setOf (iniS W col))) _
    rw [ini_set]
    exact .refl _
  rintro m σ H2 ⟨B, c, kb, ts, v2, v3, v4, v5, rfl, b2, S2, sf, oks, lm, av, cv, rfl⟩
  obtain ⟨dx2, st2, o2, u2⟩ := S2.ob
  cases ts with
  | nil =>
    obtain ⟨ek, ec⟩ : kb.map fl = [] ∧ fl c = true := sf
    obtain rfl : kb = [] := List.map_eq_nil_iff.mp ek
    obtain ⟨qs2, e2, g2⟩ := S2.to
    cases g2
    refine ⟨_, rfl, s, T.C_Search, dx2, _, _, rfl, o2, T.cls_Search, T.na_Search_todo, rfl, _, .inl ⟨_, .of e2, rfl⟩, ?_⟩
    exact iteF (hq H2 dx2 st2 B c b2 o2 u2 (by have : wts [] + B ≤ 1000000 := lm; omega) (ne_fl ec) cv)
  | cons x ts =>
    obtain ⟨q, xs, e2, hx, S3, b3⟩ := S2.pop
    have em : (!(xs ++ [V.ref q]).isEmpty) = true := by cases xs <;> rfl
    refine ⟨_, rfl, s, T.C_Search, dx2, _, _, rfl, o2, T.cls_Search, T.na_Search_todo, rfl, true, .inl ⟨_, .of e2, em.symm⟩, ?_⟩
    refine iteT ⟨fun σ' H' => ∃ m', m' < wts (x :: ts) + B ∧ RunG K T.C_Node T.C_Search H s p kp td W L col t m' σ' H', fun _ _ h => h, ?_⟩
    refine ⟨_, rfl, s, T.C_Search, dx2, _, _, rfl, o2, T.cls_Search, T.na_Search_todo, rfl, .inl ⟨rfl, _, .of e2⟩, td, _, .ref q, rfl, rfl, e2, last_of _ _, ?_⟩
    rw [List.dropLast_concat]
    have b4 := b2.trans b3
    have ok1 := oks x (List.mem_cons_self ..)
    have ok2 : ∀ y ∈ ts, y.ok := fun y hy => oks y (List.mem_cons_of_mem _ hy)
    have lx := x.wt_pos
    have lk := safe_len sf
    rw [List.length_map] at lk
    have ll := wts_len (x :: ts)
    rw [wts_cons] at lm ll ⊢
    generalize upd H2 td _ = H3 at hx S3 b3 b4 ⊢
    obtain ⟨dx3, st3, o3, u3⟩ := S3.ob
    cases x with
    | enter t' f st =>
      obtain ⟨p', gs', h1, h2⟩ := hx
      obtain ⟨ec, sf2⟩ := (show fl c = true ∧ safe ts (kb.map fl) (decide (t'.w2 f ≠ 0)) from sf)
      refine ⟨q, _, rfl, h1, rfl, _, _, rfl, _, _, rfl, _, _, rfl, _, _, rfl, rfl, ?_⟩
      refine ⟨_, rfl, _, _, .int _, .int _, rfl, rfl, true, congrArg V.bl (eqv_int0 0), iteT ?_⟩
      refine ⟨_, rfl, s, dx3, _, rfl, o3, rfl, _, rfl, _, rfl, _, rfl, s, kp, td, p', f, st, W, L, col, B, c, kb, ts, t', gs', rfl, S3, ne_fl ec, av, h2, ok1.1, ok1.2, (by show t'.wt + wts ts + B ≤ 1000000; exact lm), (by omega), fun H' c' kb' ts' B' b5 S5 sp5 lw5 ok5 => ?_⟩
      refine ⟨_, ?_, B', c', kb', ts' ++ ts, _, _, _, _, rfl, b4.trans b5, S5, sp5.sf sf, fun y hy => (List.mem_append.mp hy).elim (ok5 y) (ok2 y), ?_, sp5.av av, sp5.dn _ cv, rfl⟩
      · have e : wts (ts' ++ ts) = wts ts' + wts ts := by
          unfold wts
          rw [List.map_append, List.sum_append]
        rw [e]
        show wts ts' + wts ts + B' < t'.wt + wts ts + B
        omega
      · have e : wts (ts' ++ ts) = wts ts' + wts ts := by
          unfold wts
          rw [List.map_append, List.sum_append]
        rw [e]
        have lm' : t'.wt + wts ts + B ≤ 1000000 := lm
        omega
    | turn =>
      cases kb with
      | nil => exact sf.elim
      | cons k0 kb =>
      have sf2 : safe ts ((c :: kb).map fl) (fl k0) := sf
      refine ⟨q, _, rfl, hx, rfl, _, _, rfl, _, _, rfl, _, _, rfl, _, _, rfl, rfl, ?_⟩
      refine ⟨_, rfl, _, _, .int _, .int _, rfl, rfl, false, congrArg V.bl (eqv_int0 1), iteF ?_⟩
      refine ⟨_, rfl, _, _, .int _, .int _, rfl, rfl, true, rfl, iteT ?_⟩
      refine ⟨_, rfl, s, dx3, _, rfl, o3, rfl, s, kp, td, W, L, B, c, k0, kb, ts, rfl, S3, (by rw [List.length_cons] at lk; omega), fun H' b5 S5 => ?_⟩
      exact ⟨_, (by show wts ts + B < 1 + wts ts + B; omega), B, k0, c :: kb, ts, _, _, _, _, rfl, b4.trans b5, S5, sf2, ok2, (by omega), ⟨av.2 k0 (List.mem_cons_self ..), fun l hl => (List.mem_cons.mp hl).elim (fun e => e ▸ av.1) fun hl => av.2 l (List.mem_cons_of_mem _ hl)⟩, cv, rfl⟩
    | merge =>
      cases kb with
      | nil => exact sf.elim
      | cons k0 kb =>
      have sf2 : safe ts (kb.map fl) (fl k0 || fl c) := sf
      refine ⟨q, _, rfl, hx, rfl, _, _, rfl, _, _, rfl, _, _, rfl, _, _, rfl, rfl, ?_⟩
      refine ⟨_, rfl, _, _, .int _, .int _, rfl, rfl, false, congrArg V.bl (eqv_int0 2), iteF ?_⟩
      refine ⟨_, rfl, _, _, .int _, .int _, rfl, rfl, false, rfl, iteF ?_⟩
      obtain ⟨d, ys, e5, hd, S5, b5⟩ := S3.popk
      refine ⟨_, rfl, s, T.C_Search, dx3, _, _, rfl, o3, T.cls_Search, T.na_Search_kept, rfl, .inl ⟨rfl, _, .of e5⟩, kp, _, .ref d, rfl, rfl, e5, last_of _ _, ?_⟩
      rw [List.dropLast_concat]
      have b6 := b4.trans b5
      generalize upd H3 kp _ = H5 at hd S5 b5 b6 ⊢
      obtain ⟨dx5, st5, o5, u5⟩ := S5.ob
      obtain ⟨W0, W1, L0⟩ := S5.w0
      refine ⟨_, rfl, s, T.C_Search, dx5, _, _, rfl, o5, T.cls_Search, T.na_Search_states, rfl, d, st5, B, W, k0, c, col, L, rfl, hd, u5, W0, W1, av.2 k0 (List.mem_cons_self ..), av.1, fun u H6 c6 s6 hu cu => ?_⟩
      obtain ⟨dx6, st6, o6, S7, b7⟩ := (S5.same s6).put (Nat.le_refl _) hu
      refine ⟨_, rfl, s, T.C_Search, dx6, _, rfl, o6, T.cls_Search, T.na_Search_states, (by show 5 < 1000; decide), ?_⟩
      exact ⟨_, (by show wts ts + B < 1 + wts ts + B; omega), B, c6, kb, ts, _, _, _, _, rfl, b6.trans ((But.of s6).trans b7), S7, safe_eq (fl_or cu).symm sf2, ok2, (by omega), ⟨fun x hx => (cu.of x hx).elim (av.2 k0 (List.mem_cons_self ..) x) (av.1 x), fun l hl => av.2 l (List.mem_cons_of_mem _ hl)⟩, M32.den_step cv cu, rfl⟩
end
end K33

namespace K33
open PySem PySem.Spec PyProof.Rows L2 Vk
/-! ### [row for page in full for row in page] -/
/-- over a tuple, from any heap on -/
theorem lc_tupG {K : PySem.W.Frag} {a : Addr} {xs : List V} {g : TG} {tt : TT} {te : TE} {vs : List Nat} {σ : L2.St} {H0 : Hp} {D : Addr} {Qd : Hp → Prop} (Pv : Nat → Hp → Prop) (h0 : Pv 0 H0) (hl : ∀ i H, i ≤ xs.length → Pv i H → SqT K H a xs)
    (hs : ∀ i x H, xs[i]? = some x → Pv i H → g x (wipe σ vs) H fun σ2 H2 => wipe σ2 vs = wipe σ vs ∧ tt σ2 H2 fun b H3 =>
      if b = true then te σ2 H3 fun y H4 => ∃ acc, H4 D = some (.lst acc) ∧ acc.length < sizeLine ∧ Pv (i + 1) (upd H4 D (.lst (acc ++ [y]))) else Pv (i + 1) H3) (hd : ∀ H, Pv xs.length H → Qd H) :
    ∃ W : Nat → Nat → Hp → Prop, (∃ m, W 0 m H0) ∧ ∀ i m H, W i m H →
      ((Itt K a).stop i H ∧ Qd H) ∨ ((Itt K a).go i H ∧ ∃ Nx : Hp → Prop, (∀ H', Nx H' → ∃ m', m' < m ∧ W (i + 1) m' H') ∧ ∀ x H', (Itt K a).yld i H x H' → g x (wipe σ vs) H' fun σ2 H2 => wipe σ2 vs = wipe σ vs ∧ tt σ2 H2 fun b H3 =>
        if b = true then te σ2 H3 fun y H4 => ∃ acc, H4 D = some (.lst acc) ∧ acc.length < sizeLine ∧ Nx (upd H4 D (.lst (acc ++ [y]))) else Nx H3) := by
  refine ⟨fun i m H => m = xs.length - i ∧ i ≤ xs.length ∧ Pv i H, ⟨xs.length, by simp, Nat.zero_le _, h0⟩, ?_⟩
  rintro i m H ⟨rfl, hi, p⟩
  have q := hl i H hi p
  by_cases hlt : i < xs.length
  · refine .inr ⟨⟨xs, xs[i], q, by simp [hlt]⟩, Pv (i + 1), fun H' p' => ⟨xs.length - (i + 1), by omega, rfl, hlt, p'⟩, fun x H' y => ?_⟩
    obtain ⟨e, y⟩ := y
    subst e
    exact hs i x _ (y xs q) p
  · have e : i = xs.length := by omega
    subst e
    exact .inl ⟨⟨xs, q, Nat.le_refl _⟩, hd H p⟩
/-- two fors, the outer one over a tuple -/
theorem lc2_tup {K : PySem.W.Frag} {a : Addr} {xs : List V} {g g1 : TG} {tt tt1 : TT} {wi1 : TI} {te : TE} {vs vs1 : List Nat} {σ : L2.St} {H0 : Hp} {D : Addr} {Qd : Hp → Prop} (Pv : Nat → Hp → Prop) (h0 : Pv 0 H0) (hl : ∀ i H, i ≤ xs.length → Pv i H → SqT K H a xs)
    (hs : ∀ i x H, xs[i]? = some x → Pv i H → g x (wipe σ vs) H fun σ2 H2 => wipe σ2 vs = wipe σ vs ∧ tt σ2 H2 fun b H3 =>
      if b = true then wi1 σ2 H3 fun J1 H4 => ∃ W1 : Nat → Nat → Hp → Prop, (∃ m, W1 0 m H4) ∧ ∀ j k H, W1 j k H →
      (J1.stop j H ∧ Pv (i + 1) H) ∨ (J1.go j H ∧ ∃ Nx1 : Hp → Prop, (∀ H', Nx1 H' → ∃ k', k' < k ∧ W1 (j + 1) k' H') ∧ ∀ x H', J1.yld j H x H' → g1 x (wipe σ2 vs1) H' fun σ3 H5 => wipe σ3 vs1 = wipe σ2 vs1 ∧ tt1 σ3 H5 fun b H6 =>
        if b = true then te σ3 H6 fun y H7 => ∃ acc, H7 D = some (.lst acc) ∧ acc.length < sizeLine ∧ Nx1 (upd H7 D (.lst (acc ++ [y]))) else Nx1 H6)
      else Pv (i + 1) H3) (hd : ∀ H, Pv xs.length H → Qd H) :
    ∃ W : Nat → Nat → Hp → Prop, (∃ m, W 0 m H0) ∧ ∀ i m H, W i m H →
      ((Itt K a).stop i H ∧ Qd H) ∨ ((Itt K a).go i H ∧ ∃ Nx : Hp → Prop, (∀ H', Nx H' → ∃ m', m' < m ∧ W (i + 1) m' H') ∧ ∀ x H', (Itt K a).yld i H x H' → g x (wipe σ vs) H' fun σ2 H2 => wipe σ2 vs = wipe σ vs ∧ tt σ2 H2 fun b H3 =>
        if b = true then wi1 σ2 H3 fun J1 H4 => ∃ W1 : Nat → Nat → Hp → Prop, (∃ m, W1 0 m H4) ∧ ∀ j k H, W1 j k H →
      (J1.stop j H ∧ Nx H) ∨ (J1.go j H ∧ ∃ Nx1 : Hp → Prop, (∀ H', Nx1 H' → ∃ k', k' < k ∧ W1 (j + 1) k' H') ∧ ∀ x H', J1.yld j H x H' → g1 x (wipe σ2 vs1) H' fun σ3 H5 => wipe σ3 vs1 = wipe σ2 vs1 ∧ tt1 σ3 H5 fun b H6 =>
        if b = true then te σ3 H6 fun y H7 => ∃ acc, H7 D = some (.lst acc) ∧ acc.length < sizeLine ∧ Nx1 (upd H7 D (.lst (acc ++ [y]))) else Nx1 H6)
        else Nx H3) := by
  refine ⟨fun i m H => m = xs.length - i ∧ i ≤ xs.length ∧ Pv i H, ⟨xs.length, by simp, Nat.zero_le _, h0⟩, ?_⟩
  rintro i m H ⟨rfl, hi, p⟩
  have q := hl i H hi p
  by_cases hlt : i < xs.length
  · refine .inr ⟨⟨xs, xs[i], q, by simp [hlt]⟩, Pv (i + 1), fun H' p' => ⟨xs.length - (i + 1), by omega, rfl, hlt, p'⟩, fun x H' y => ?_⟩
    obtain ⟨e, y⟩ := y
    subst e
    exact hs i x _ (y xs q) p
  · have e : i = xs.length := by omega
    subst e
    exact .inl ⟨⟨xs, q, Nat.le_refl _⟩, hd H p⟩
/-- all rows of all pages, as a list -/
theorem rows_of_pages {K : PySem.W.Frag} {H : Hp} {fa : Addr} {fxs : List V} {fs : List (List Row)} {σ : L2.St} {i1 i2 : Nat} {Qd : Hp → Prop} {D : Addr} (hD : H D = none) (ft : SqT K H fa fxs) (fd : DpAll K H fxs (fs.map pgD)) (lf : fs.flatten.length ≤ 1000000) (l1 : i1 < σ.length) (l2 : i2 < σ.length) (ne : i1 ≠ i2)
    (hq : ∀ acc, DpAll K H acc (fs.flatten.map rowD) → Qd (upd H D (.lst acc))) :
    ∃ W : Nat → Nat → Hp → Prop, (∃ m, W 0 m (upd H D (.lst []))) ∧ ∀ i m H, W i m H →
      ((Itt K fa).stop i H ∧ Qd H) ∨ ((Itt K fa).go i H ∧ ∃ Nx : Hp → Prop, (∀ H', Nx H' → ∃ m', m' < m ∧ W (i + 1) m' H') ∧ ∀ x H', (Itt K fa).yld i H x H' → gName i1 x (wipe σ [i1, i2]) H' fun σ2 H2 => wipe σ2 [i1, i2] = wipe σ [i1, i2] ∧ tYes σ2 H2 fun b H3 =>
        if b = true then iTup K (tVar i1) σ2 H3 fun J1 H4 => ∃ W1 : Nat → Nat → Hp → Prop, (∃ m, W1 0 m H4) ∧ ∀ j k H, W1 j k H →
      (J1.stop j H ∧ Nx H) ∨ (J1.go j H ∧ ∃ Nx1 : Hp → Prop, (∀ H', Nx1 H' → ∃ k', k' < k ∧ W1 (j + 1) k' H') ∧ ∀ x H', J1.yld j H x H' → gName i2 x (wipe σ2 [i2]) H' fun σ3 H5 => wipe σ3 [i2] = wipe σ2 [i2] ∧ tYes σ3 H5 fun b H6 =>
        if b = true then tVar i2 σ3 H6 fun y H7 => ∃ acc, H7 D = some (.lst acc) ∧ acc.length < sizeLine ∧ Nx1 (upd H7 D (.lst (acc ++ [y]))) else Nx1 H6)
        else Nx H3) := by
  have wl : (wipe σ [i1, i2]).length = σ.length := wipe_length ..
  have lfx : fxs.length = fs.length := by
    have := DpAll.length fd
    simpa using this
  refine lc2_tup (a := fa) (xs := fxs) (fun i H' => ∃ acc, H' = upd H D (.lst acc) ∧ DpAll K H acc ((fs.take i).flatten.map rowD)) ⟨[], rfl, .nil⟩ (fun i H' _ q => by obtain ⟨acc, rfl, _⟩ := q; exact Same.seqT (same_new hD) ft) ?_ ?_
  · rintro i x _ hx ⟨acc, rfl, da⟩
    have li : i < fs.length := by
      have := (List.getElem?_eq_some_iff.mp hx).1
      omega
    have hp : fs[i]? = some fs[i] := List.getElem?_eq_getElem li
    have dx : Dp K H x (pgD fs[i]) := by
      obtain ⟨v, hv, dv⟩ := DpAll.get (i := i) (d := pgD fs[i]) fd (by rw [List.getElem?_map, hp]; rfl)
      obtain rfl := Option.some.inj (hv.symm.trans hx)
      exact dv
    obtain ⟨b, bxs, rfl, hb, hbx⟩ := Dp.ofTup dx
    have e1 : (fs.take (i + 1)).flatten = (fs.take i).flatten ++ fs[i] := by
      have e : fs.take (i + 1) = fs.take i ++ [fs[i]] := by
        rw [List.take_succ, hp]
        rfl
      rw [e, List.flatten_append]
      simp
    have l3 : ((fs.take i).flatten ++ fs[i]).length ≤ fs.flatten.length := by
      rw [← e1]
      conv => rhs; rw [← List.take_append_drop (i + 1) fs, List.flatten_append, List.length_append]
      omega
    refine ⟨?_, yesT (iteT ?_)⟩
    · show wipe ((wipe σ [i1, i2]).set i1 (some (V.ref b))) [i1, i2] = wipe σ [i1, i2]
      show ((((σ.set i2 none).set i1 none).set i1 (some (V.ref b))).set i2 none).set i1 none = (σ.set i2 none).set i1 none
      rw [List.set_set, List.set_comm _ _ ne, List.set_set, List.set_set]
    refine ⟨.ref b, ?_, b, rfl, ⟨_, Same.seqT (same_new hD) hb⟩, ?_⟩
    · show (((σ.set i2 none).set i1 none).set i1 (some (V.ref b)))[i1]? = some (some (V.ref b))
      rw [List.getElem?_set_self (by simpa using l1)]
    refine lc_tupG (a := b) (xs := bxs) (fun j H' => ∃ acc', H' = upd H D (.lst acc') ∧ DpAll K H acc' (((fs.take i).flatten ++ fs[i].take j).map rowD)) ⟨acc, rfl, by simpa using da⟩ (fun j H' _ q => by obtain ⟨acc, rfl, _⟩ := q; exact Same.seqT (same_new hD) hb) ?_ ?_
    · rintro j y _ hy ⟨acc', rfl, da'⟩
      have lj : j < fs[i].length := by
        have h1 := (List.getElem?_eq_some_iff.mp hy).1
        have h2 := DpAll.length hbx
        rw [List.length_map] at h2
        omega
      have dy : Dp K H y (rowD fs[i][j]) := by
        obtain ⟨v, hv, dv⟩ := DpAll.get (i := j) (d := rowD fs[i][j]) hbx (by rw [List.getElem?_map, List.getElem?_eq_getElem lj]; rfl)
        obtain rfl := Option.some.inj (hv.symm.trans hy)
        exact dv
      have l4 : acc'.length ≤ 1000000 := by
        have h1 := DpAll.length da'
        rw [List.length_map, List.length_append, List.length_take] at h1
        rw [List.length_append] at l3
        omega
      refine ⟨?_, yesT (iteT ⟨y, ?_, acc', upd_same, Nat.lt_of_le_of_lt l4 (by decide), acc' ++ [y], upd_upd, ?_⟩)⟩
      · show ((((((σ.set i2 none).set i1 none).set i1 (some (V.ref b))).set i2 none).set i2 (some y)).set i2 none) = (((σ.set i2 none).set i1 none).set i1 (some (V.ref b))).set i2 none
        rw [List.set_set, List.set_set]
      · show (((((σ.set i2 none).set i1 none).set i1 (some (V.ref b))).set i2 none).set i2 (some y))[i2]? = some (some y)
        rw [List.getElem?_set_self (by simpa using l2)]
      · rw [List.take_succ, List.getElem?_eq_getElem lj, ← List.append_assoc, List.map_append]
        exact DpAll.append da' (.cons dy .nil)
    · rintro _ ⟨acc', rfl, da'⟩
      refine ⟨acc', rfl, ?_⟩
      have h2 := DpAll.length hbx
      rw [List.length_map] at h2
      rw [h2, List.take_length] at da'
      rw [e1]
      exact da'
  · rintro _ ⟨acc, rfl, da⟩
    rw [lfx, List.take_length] at da
    exact hq acc da
/-! ### where nothing is refused -/
def spRD (K : PySem.W.Frag) (CN CD : Addr) : Sp := fun vs H Q _ => ∃ (a : Addr) (xs : List V), vs = [.ref a] ∧ SqL K H a xs ∧ (∀ x ∈ xs, ∃ b t gs, x = .ref b ∧ DocIs K CN CD H b t gs) ∧ Q .non H
def spRH (K : PySem.W.Frag) (CN CD : Addr) : Sp := fun vs H Q _ => ∃ (a : Addr) (t : Nd), vs = [.ref a] ∧ DocIs K CN CD H a t [] ∧ Q .non H
def spRW : Sp := fun vs H Q _ => ∃ (w c i : Int), vs = [.int w, .int c, .int i] ∧ 0 ≤ w ∧ 0 ≤ c ∧ 0 ≤ i ∧ ∀ H', Same H H' → Q .non H'
section
variable {P : Program} {w : World} {K : PySem.W.Frag} {mg : Str → Option Value} {base : Heap} {k : Nat}
theorem ok_rd (T : Tx K mg) : FnOk P w K mg base CX0 (k + 1) T.a_refuse_non_docs T.d_refuse_non_docs P_refuse_non_docs (spRD K T.C_Node T.C_Doc) := by
  refine T.F_refuse_non_docs.ok sc_refuse_non_docs (fun vs H Q E h => ?_) (fun cdv A outer s H vs Q E hr h => ?_)
  · obtain ⟨a, xs, rfl, _⟩ := h
    rfl
  obtain ⟨a, xs, rfl, hs, hx, hq⟩ := h
  refine ⟨_, (pss_one (ps_for PassesOwn.never rfl (pi_list (pv 0)) (pg_name (i := 1) sc_refuse_non_docs.nd rfl (Or.inl rfl))
(pss_one (ps_if (pt_not (pt_val (pe_callB call_isi rfl T.z_isinstance (by decide +kernel) (pa_cons (pv 1) (pa_cons (pe_glob (v := .ref T.C_Doc) rfl T.mc_Doc rfl) pa_nil)))))
(pss_one ps_dead)
pss_nil)))), ?_⟩
  refine ⟨_, rfl, a, rfl, ⟨_, hs⟩, for_list (a := a) (xs := xs) (fun i σ H' => H' = H ∧ (∃ v1, σ = [some (.ref a), v1])) ⟨rfl, ⟨none, rfl⟩⟩ (fun i σ H' _ q => by rw [q.1]; exact hs) ?_ ?_⟩
  · rintro i y σ _ hy ⟨rfl, ⟨v1, rfl⟩⟩
    obtain ⟨b, t, gs, rfl, D⟩ := hx y (List.mem_of_getElem? hy)
    obtain ⟨⟨p, ⟨db, hb⟩, np⟩⟩ := D
    refine ⟨_, rfl, _, _, _, _, _, rfl, .own _, T.ty_Doc hb, kit_self, _, rfl, iteF ?_⟩
    exact ⟨rfl, ⟨_, rfl⟩⟩
  · rintro σ _ ⟨rfl, ⟨v1, rfl⟩⟩
    exact hq
theorem ok_rh (T : Tx K mg) (G_Doc_holes : FnOk P w K mg base CX0 k T.a_Doc_holes T.d_Doc_holes P_Doc_holes (spGet K T.C_Node T.C_Doc (isHoles K))) :
    FnOk P w K mg base CX0 (k + 2) T.a_refuse_holes T.d_refuse_holes P_refuse_holes (spRH K T.C_Node T.C_Doc) := by
  refine T.F_refuse_holes.ok sc_refuse_holes (fun vs H Q E h => ?_) (fun cdv A outer s H vs Q E hr h => ?_)
  · obtain ⟨a, t, rfl, _⟩ := h
    rfl
  obtain ⟨a, t, rfl, D, hq⟩ := h
  have hr1 := hr.mono (Nat.le_succ k)
  refine ⟨_, (pss_one (ps_if (pt_truth (pe_prop (pv 0) T.cls_Doc T.pr_Doc_holes G_Doc_holes hr T.b_Doc_holes .nil pass0 rfl) (fun _ => rfl))
(pss_one ps_dead)
pss_nil)), ?_⟩
  obtain ⟨⟨p, ⟨da, ha⟩, np⟩⟩ := id D
  refine ⟨_, rfl, a, da, _, rfl, ha, a, t, [], rfl, D, fun v hv => ?_⟩
  obtain ⟨g, rfl, hg⟩ := hv
  exact ⟨_, .inr (.inl ⟨_, hg, rfl⟩), iteF hq⟩
theorem ok_rw (T : Tx K mg) (G_is_whole : FnOk P w K mg base CX0 k T.a_is_whole T.d_is_whole P_is_whole (spWhole K)) :
    FnOk P w K mg base CX0 (k + 1) T.a_refuse_wrong_numbers T.d_refuse_wrong_numbers P_refuse_wrong_numbers spRW := by
  refine T.F_refuse_wrong_numbers.ok sc_refuse_wrong_numbers (fun vs H Q E h => ?_) (fun cdv A outer s H vs Q E hr h => ?_)
  · obtain ⟨w, c, i, rfl, _⟩ := h
    rfl
  obtain ⟨wv, cv, iv, rfl, w0, c0, i0, hq⟩ := h
  have ww : ∀ {i : Int}, 0 ≤ i → wholeD (.int i) = true := fun {i} h => decide_eq_true h
  refine ⟨_, (pss_cons (ps_if (pt_not (pt_val (pe_call G_is_whole hr rfl T.m_is_whole T.F_is_whole.kp T.b_is_whole .nil pass0 (pa_cons (pv 0) pa_nil))))
(pss_one ps_dead)
pss_nil)
(pss_one (ps_for PassesOwn.never rfl (pi_tup (pe_tup (pa_cons (pv 1) (pa_cons (pv 2) pa_nil)))) (pg_name (i := 3) sc_refuse_wrong_numbers.nd rfl (Or.inl rfl))
(pss_one (ps_if (pt_not (pt_val (pe_call G_is_whole hr rfl T.m_is_whole T.F_is_whole.kp T.b_is_whole .nil pass0 (pa_cons (pv 3) pa_nil))))
(pss_one ps_dead)
pss_nil))))), ?_⟩
  refine ⟨_, rfl, .int wv, .int wv, rfl, .int _, ?_⟩
  rw [ww w0]
  refine ⟨_, rfl, iteF ?_⟩
  refine ⟨_, rfl, _, rfl, (by show 2 ≤ sizeLine; decide), fun t ht => ?_⟩
  have s0 := same_new (o := .tup [.int cv, .int iv]) ht
  have k0 : SqT K (upd H t (.tup [.int cv, .int iv])) t [.int cv, .int iv] := .of upd_same
  refine ⟨t, rfl, ⟨_, k0⟩, for_tup (a := t) (xs := [.int cv, .int iv]) (fun i σ H' => H' = upd H t (.tup [.int cv, .int iv]) ∧ (∃ v1, σ = [some (.int wv), some (.int cv), some (.int iv), v1])) ⟨rfl, ⟨none, rfl⟩⟩ (fun i σ H' _ q => by rw [q.1]; exact k0) ?_ ?_⟩
  · rintro i x σ _ hx ⟨rfl, ⟨v1, rfl⟩⟩
    have hx' : ∃ n : Int, x = .int n ∧ 0 ≤ n := by
      rcases List.mem_cons.mp (List.mem_of_getElem? hx) with rfl | h
      · exact ⟨cv, rfl, c0⟩
      · rw [List.mem_singleton.mp h]
        exact ⟨iv, rfl, i0⟩
    obtain ⟨n, rfl, n0⟩ := hx'
    refine ⟨_, rfl, .int n, .int n, rfl, .int _, ?_⟩
    rw [ww n0]
    exact ⟨_, rfl, iteF ⟨rfl, ⟨_, rfl⟩⟩⟩
  · rintro σ _ ⟨rfl, ⟨v1, rfl⟩⟩
    exact hq _ s0
end
/-! ### best, with its answer -/
def spBestG (K : PySem.W.Frag) (CN CD : Addr) : Sp := fun vs H Q _ => ∃ (a : Addr) (W c0 L : Int) (t : Nd), vs = [.ref a, .int W, .int c0, .int L] ∧ DocIs K CN CD H a t [] ∧ t.ok ∧ t.wt ≤ 900000 ∧ t.ways.1 ≠ 0 ∧ 0 ≤ W ∧ W ≤ 60 ∧ 0 ≤ c0 ∧ 0 ≤ L ∧
  ∀ u H' m S, Same H H' → Dp K H' u (.tuple ((M32.all m.2).map M32.rD)) → M32.Cov (M32.setOf S) (M32.pth W L t false 0 (M32.ini W c0)) → m ∈ S → (∀ x ∈ S, M32.LeA m.2 x.2) → Q u H'
section
variable {P : Program} {w : World} {K : PySem.W.Frag} {mg : Str → Option Value} {base : Heap} {k : Nat}
theorem ok_bestG (T : Tx K mg) (hk0 : 2 ≤ k) (G_refuse_non_docs : FnOk P w K mg base CX0 k T.a_refuse_non_docs T.d_refuse_non_docs P_refuse_non_docs (spRD K T.C_Node T.C_Doc))
    (G_refuse_holes : FnOk P w K mg base CX0 k T.a_refuse_holes T.d_refuse_holes P_refuse_holes (spRH K T.C_Node T.C_Doc))
    (G_refuse_wrong_numbers : FnOk P w K mg base CX0 k T.a_refuse_wrong_numbers T.d_refuse_wrong_numbers P_refuse_wrong_numbers spRW)
    (G_Doc_ways : FnOk P w K mg base CX0 k T.a_Doc_ways T.d_Doc_ways P_Doc_ways (spGet K T.C_Node T.C_Doc isWays))
    (G_Search_init : FnOk P w K mg base CX0 k T.a_Search_init T.d_Search_init P_Search_init (spSIG K T.C_Node T.C_Search))
    (G_Search_run : FnOk P w K mg base CX0 k T.a_Search_run T.d_Search_run P_Search_run (spRunG K T.C_Node T.C_Search)) :
    FnOk P w K mg base CX0 (k + 2) T.a_best T.d_best P_best (spBestG K T.C_Node T.C_Doc) := by
  refine T.F_best.ok sc_best (fun vs H Q E h => ?_) (fun cdv A outer s H vs Q E hr h => ?_)
  · obtain ⟨a, W, c0, L, t, rfl, _⟩ := h
    rfl
  obtain ⟨a, W, c0, L, t, rfl, D, tok, twt, z0, W0, W1, C0, L0, hq⟩ := h
  have hr1 := hr.mono (Nat.le_succ k)
  have hk2 : 2 ≤ k + 1 := by omega
  have hu := hu_of hr
  refine ⟨_, (pss_cons (ps_expr (pe_call G_refuse_non_docs hr1 rfl T.m_refuse_non_docs T.F_refuse_non_docs.kp T.b_refuse_non_docs .nil pass0 (pa_cons (pe_lst (pa_cons (pv 0) pa_nil)) pa_nil)))
(pss_cons (ps_expr (pe_call G_refuse_holes hr1 rfl T.m_refuse_holes T.F_refuse_holes.kp T.b_refuse_holes .nil pass0 (pa_cons (pv 0) pa_nil)))
(pss_cons (ps_expr (pe_call G_refuse_wrong_numbers hr1 rfl T.m_refuse_wrong_numbers T.F_refuse_wrong_numbers.kp T.b_refuse_wrong_numbers .nil pass0 (pa_cons (pv 1) (pa_cons (pv 2) (pa_cons (pv 3) pa_nil)))))
(pss_cons (ps_if (pt_cmpR (op_eqD hr.units) (pe_prop (pv 0) T.cls_Doc T.pr_Doc_ways G_Doc_ways hr T.b_Doc_ways .nil pass0 rfl) pe_int (nomark _))
(pss_one ps_dead)
pss_nil)
(pss_cons (ps_set (i := 4) sc_best.nd rfl (Or.inl rfl) (pe_make T.mk_Search G_Search_init hr rfl T.mc_Search T.b_Search_init .nil pass0 (pa_cons (pv 1) (pa_cons (pv 2) (pa_cons (pv 3) pa_nil)))))
(pss_cons (ps_expr (pe_meth (pv 4) T.cls_Search T.me_Search_run G_Search_run hr1 T.b_Search_run .nil pass0 (pa_cons (pe_fld (pv 0) rfl) pa_nil)))
(pss_cons (ps_set (i := 5) sc_best.nd rfl (Or.inl rfl) (pe_callB (cr_minD rfl hr.units) rfl T.z_min (by decide +kernel) (pa_cons (pe_listVals rfl (pe_fld (pv 4) rfl) rfl T.z_list (by decide +kernel)) pa_nil)))
(pss_cons (ps_asg (pe_slice sl_tupA (pv 5) (po_some pe_int) po_none) (pg_tup rfl (pgs_cons (pg_name (i := 6) sc_best.nd rfl (Or.inl rfl)) (pgs_cons (pg_name (i := 7) sc_best.nd rfl (Or.inl rfl)) (pgs_cons (pg_name (i := 8) sc_best.nd rfl (Or.inl rfl)) (pgs_cons (pg_name (i := 9) sc_best.nd rfl (Or.inl rfl)) pgs_nil))))))
(pss_one (ps_ret (pe_tup (StX.pa_star (pe_lc2 (own := [("page", 10), ("row", 11)]) (vs1 := [11]) (g := (gName 10)) (wi1 := iTup K (tVar 10)) (te := tVar 11) (g1 := (gName 11)) (tt := tYes) (tt1 := tYes) rfl sc_best.nd (pi_tup (pv 6)) (blkOk_by (own := [("page", 10), ("row", 11)]) (N := N_best) (sc := defScope s_best) (by decide +kernel)) (by simp) (fun _ _ _ _ _ => (pg_name (i := 10) sc_best.nd rfl (Or.inl rfl))) (fun _ _ _ _ _ => pts_nil) (fun _ _ _ _ _ => (pi_tup (pv 10))) (fun _ _ _ _ _ => (pg_name (i := 11) sc_best.nd rfl (Or.inl rfl))) (fun _ _ _ _ _ => pts_nil) (fun _ _ _ _ _ => (pv 11))) (StX.pa_star (pv 7) (pa_cons (pe_tup (pa_cons (pv 8) (pa_cons (pv 9) pa_nil))) pa_nil)))))))))))))), ?_⟩
  refine ⟨_, rfl, (by show 1 ≤ sizeLine; decide), fun l hl => ?_⟩
  have s0 := same_new (o := .lst [V.ref a]) hl
  have D0 := D.fix (CD := T.C_Doc) (.of s0)
  refine ⟨l, [.ref a], rfl, .of upd_same, fun x hx => ⟨a, t, [], List.mem_singleton.mp hx, D0⟩, ?_⟩
  refine ⟨_, rfl, a, t, rfl, D0, ?_⟩
  refine ⟨_, rfl, _, rfl, _, rfl, W, c0, L, rfl, W0, C0, L0, fun H3 s3' => ?_⟩
  have s3 := s0.trans s3'
  have D3 := D.fix (CD := T.C_Doc) (.of s3)
  obtain ⟨⟨p, ⟨da, ha⟩, np⟩⟩ := id D3
  refine ⟨_, rfl, a, da, _, rfl, ha, a, t, [], rfl, D3, fun v hv => ?_⟩
  obtain rfl : v = .int t.ways.1 := hv
  refine ⟨_, _, .int _, .int _, rfl, rfl, decide (t.ways.1 = 0), congrArg V.bl (eqv_int0 _), ?_⟩
  rw [decide_eq_false z0]
  refine iteF ?_
  -- search = Search(width, column, indent)
  refine ⟨_, rfl, _, rfl, _, rfl, fun sx ds hs hds ne => ⟨sx, ds, W, c0, L, rfl, upd_same, W0, W1, C0, L0, fun H4 kp td r4 hk ht S4 => ⟨rfl, ?_⟩⟩⟩
  have sm := made_same (C := T.C_Search) hs hds ne
  have s4 : Same H3 H4 := fun b o e => r4 b o (sm b o e) (ne_of_none e hs)
  have hk3 : H3 kp = none := by
    by_cases z : H3 kp = none
    · exact z
    · obtain ⟨o, ho⟩ := Option.ne_none_iff_exists'.mp z
      have := sm kp o ho
      rw [hk] at this
      cases this
  have ht3 : H3 td = none := by
    by_cases z : H3 td = none
    · exact z
    · obtain ⟨o, ho⟩ := Option.ne_none_iff_exists'.mp z
      have := sm td o ho
      rw [ht] at this
      cases this
  obtain ⟨dx4, st4, o4, _⟩ := S4.ob
  refine ⟨_, rfl, sx, dx4, _, rfl, o4, rfl, _, rfl, a, T.C_Doc, da, _, _, rfl, s4 _ _ ha, T.cls_Doc, T.na_Doc_node, rfl, sx, kp, td, p, W, L, c0, t, [], rfl, S4, np.fix (CD := T.C_Doc) (.of s4), tok, z0, twt, fun H5 dx5 st5 B5 c5 b5 o5 u5 lB5 n5 cv5 => ?_⟩
  have s5 : Same H3 H5 := fun b o e => b5 b o (s4 b o e) (ne_of_none e hs) (ne_of_none e hk3) (ne_of_none e ht3)
  obtain ⟨kvs, hkv, S5⟩ := u5
  -- ending
  refine ⟨_, rfl, sx, T.C_Search, dx5, _, _, rfl, o5, T.cls_Search, T.na_Search_states, rfl, st5, kvs, rfl, hkv, fun q0 hq0 => ?_⟩
  obtain ⟨d0, ds0, m, dd, al, dp, em, hm, zm, lm⟩ := stg_min hq0 S5 n5
  have s6 := s5.trans (same_new (o := .lst (kvs.map Prod.snd)) hq0)
  refine ⟨q0, _, d0, ds0, rfl, .of upd_same, dd, al, dp, fun y hy dy => ?_⟩
  rw [em, toD_is] at dy
  have fin : ∀ u H', Same H3 H' → Dp K H' u (.tuple ((M32.all m.2).map M32.rD)) → Q u H' := fun u H' s' du => hq u H' m c5 (s3.trans s') du cv5 hm lm
  obtain ⟨bz, nz, kz, qz⟩ := zm.fin
  have alE : (M32.all m.2).map M32.rD = ((sfs m.2).flatten ++ srs m.2 ++ [(m.2.ow, (⟨m.2.z.toArray⟩ : Str))]).map rowD := by
    rw [s_all]
    unfold M32.all
    rw [List.map_append, List.map_append, List.map_map]
    rfl
  rw [alE] at fin
  obtain ⟨e, he⟩ : ∃ e, e = m.2.ex := ⟨_, rfl⟩
  obtain ⟨l, hl⟩ : ∃ l, l = m.2.ln := ⟨_, rfl⟩
  obtain ⟨o, ho⟩ : ∃ o, o = m.2.ow := ⟨_, rfl⟩
  obtain ⟨z, hz⟩ : ∃ z : Str, z = ⟨m.2.z.toArray⟩ := ⟨_, rfl⟩
  obtain ⟨fs, hfs⟩ : ∃ fs, fs = sfs m.2 := ⟨_, rfl⟩
  obtain ⟨rs, hrs⟩ : ∃ rs, rs = srs m.2 := ⟨_, rfl⟩
  rw [← hz, ← hrs, ← hfs] at bz
  rw [← hfs] at nz
  rw [← hfs, ← hrs, ← ho, ← hz] at fin
  rw [← he, ← hl, ← hfs, ← hrs, ← ho, ← hz] at dy
  have lf := flat_len nz
  generalize upd H5 q0 (.lst (kvs.map Prod.snd)) = H6 at s6 dy ⊢
  obtain ⟨a2, f, r, rfl, ta, df, dr⟩ := st_at dy
  obtain ⟨ra, rxs, rfl, rs1, rds⟩ := Dp.ofTup dr
  obtain ⟨fa, fxs, rfl, ft1, fds⟩ := Dp.ofTup df
  have lrx : rxs.length = rs.length := by
    have := DpAll.length rds
    simpa using this
  -- full, rows, own, begun = ending[2:]
  refine ⟨_, rfl, 2, rfl, ?_⟩
  unfold tNoPart
  refine ⟨a2, _, rfl, ta, fun y => absurd y.1 (by show ¬ (HT.sIx 6 0 (some ((2 : Nat) : Int)) = 0); rw [HT.sIx_nat]; decide), fun _ q1 hq1 => ?_⟩
  have s7 := same_new (o := .tup (cutV [V.int e, .int l, .ref fa, .ref ra, .int o, .str z] (some 2) none)) hq1
  have s67 := s6.trans s7
  have rs7 := Same.seqT s7 rs1
  have ft7 := Same.seqT s7 ft1
  have fd7 := DpAll.same s7 fds
  have rd7 := DpAll.same s7 rds
  have tq : SqT K (upd H6 q1 (.tup (cutV [V.int e, .int l, .ref fa, .ref ra, .int o, .str z] (some 2) none))) q1 [.ref fa, .ref ra, .int o, .str z] := .of upd_same
  generalize upd H6 q1 _ = H7 at s67 rs7 ft7 fd7 rd7 tq ⊢
  refine ⟨q1, _, rfl, tq, rfl, _, _, rfl, _, _, rfl, _, _, rfl, _, _, rfl, rfl, ?_⟩
  -- the tuple
  refine nxI ?_
  refine ⟨_, rfl, fa, rfl, ⟨_, ft7⟩, fun D hD => ?_⟩
  refine rows_of_pages (i1 := 10) (i2 := 11) (σ := [some (V.ref a), some (V.int W), some (V.int c0), some (V.int L), some (V.ref sx), some (V.ref a2), some (V.ref fa), some (V.ref ra), some (V.int o), some (V.str z), none, none]) hD ft7 fd7 (by omega) (by simp) (by simp) (by decide) fun acc da => ?_
  have s8 := same_new (o := .lst acc) hD
  refine ⟨D, acc, rfl, .inr (.of upd_same), _, rfl, ra, rxs, rfl, .inl (Same.seqT s8 rs7), _, rfl, _, rfl, (by show 2 ≤ sizeLine; decide), fun t2 ht2 => ?_⟩
  have s9 := same_new (o := .tup [.int o, .str z]) ht2
  have lac := DpAll.length da
  rw [List.length_map] at lac
  refine ⟨?_, fun u hu => fin _ _ (s67.trans (s8.trans (s9.trans (same_new hu)))) ?_⟩
  · rw [List.length_append, List.length_append, lrx, lac]
    exact Nat.le_trans (m := 1000001) (by show fs.flatten.length + (rs.length + 1) ≤ 1000001; omega) (by decide)
  · have sN := s8.trans (s9.trans (same_new (o := .tup (acc ++ (rxs ++ [V.ref t2]))) hu))
    rw [List.append_assoc, List.map_append, List.map_append]
    exact .tup (.of upd_same) (DpAll.append (DpAll.same sN da) (DpAll.append (DpAll.same sN rd7) (.cons (.tup (Same.seqT (same_new hu) (.of upd_same)) (.cons (.int _) (.cons (.str _) .nil))) .nil)))
end
end K33

namespace K33
open PySem PySem.Spec PyProof.Rows L2 Vk
def spRDT (K : PySem.W.Frag) (CN CD : Addr) : Sp := fun vs H Q _ => ∃ (a : Addr) (xs : List V), vs = [.ref a] ∧ SqT K H a xs ∧ (∀ x ∈ xs, ∃ b t gs, x = .ref b ∧ DocIs K CN CD H b t gs) ∧ Q .non H
section
variable {P : Program} {w : World} {K : PySem.W.Frag} {mg : Str → Option Value} {base : Heap} {k : Nat}
theorem ok_rdT (T : Tx K mg) : FnOk P w K mg base CX0 (k + 1) T.a_refuse_non_docs T.d_refuse_non_docs P_refuse_non_docs (spRDT K T.C_Node T.C_Doc) := by
  refine T.F_refuse_non_docs.ok sc_refuse_non_docs (fun vs H Q E h => ?_) (fun cdv A outer s H vs Q E hr h => ?_)
  · obtain ⟨a, xs, rfl, _⟩ := h
    rfl
  obtain ⟨a, xs, rfl, hs, hx, hq⟩ := h
  refine ⟨_, (pss_one (ps_for PassesOwn.never rfl (pi_tup (pv 0)) (pg_name (i := 1) sc_refuse_non_docs.nd rfl (Or.inl rfl))
(pss_one (ps_if (pt_not (pt_val (pe_callB call_isi rfl T.z_isinstance (by decide +kernel) (pa_cons (pv 1) (pa_cons (pe_glob (v := .ref T.C_Doc) rfl T.mc_Doc rfl) pa_nil)))))
(pss_one ps_dead)
pss_nil)))), ?_⟩
  refine ⟨_, rfl, a, rfl, ⟨_, hs⟩, for_tup (a := a) (xs := xs) (fun i σ H' => H' = H ∧ (∃ v1, σ = [some (.ref a), v1])) ⟨rfl, ⟨none, rfl⟩⟩ (fun i σ H' _ q => by rw [q.1]; exact hs) ?_ ?_⟩
  · rintro i y σ _ hy ⟨rfl, ⟨v1, rfl⟩⟩
    obtain ⟨b, t, gs, rfl, D⟩ := hx y (List.mem_of_getElem? hy)
    obtain ⟨⟨p, ⟨db, hb⟩, np⟩⟩ := D
    refine ⟨_, rfl, _, _, _, _, _, rfl, .own _, T.ty_Doc hb, kit_self, _, rfl, iteF ?_⟩
    exact ⟨rfl, ⟨_, rfl⟩⟩
  · rintro σ _ ⟨rfl, ⟨v1, rfl⟩⟩
    exact hq
end
end K33

namespace K33
open PySem PySem.Spec PyProof.Rows L2 Vk
/-! ### documents without holes -/
section
variable {K : PySem.W.Frag} {CN CD : Addr} {G G' H : Hp} {Q : VK} {E : XK}
theorem DocIs.same {a : Addr} {t : Nd} {gs : List Str} (s : Same G G') (h : DocIs K CN CD G a t gs) : DocIs K CN CD G' a t gs := h.fix (.of s)
theorem gs_end {acc out : List Str} (h : GS acc [] out) : out = acc := by cases h; rfl
theorem gs_keep {acc g out : List Str} {r : List (List Str)} (c : g = [] ∨ g = acc) (h : GS acc (g :: r) out) : GS acc r out := by
  cases h with
  | keep _ h => exact h
  | put h1 h2 _ _ _ =>
    rcases c with c | c
    · exact absurd c h1
    · exact absurd c h2
theorem fit0 {t : Nd} (h : t.ways.1 ≤ 2 ^ 40) : Fit t [] := ⟨h, by decide, fun x hx => by cases hx⟩
theorem two0 {f : Nd → Nd → Nd} {a b : Addr} {s t : Nd} (Da : DocIs K CN CD H a s []) (Db : DocIs K CN CD H b t []) (fa : s.ways.1 ≤ 2 ^ 40) (fb : t.ways.1 ≤ 2 ^ 40)
    (q : ∀ (c : Addr) (H' : Hp), Same H H' → DocIs K CN CD H' c (f s t) [] → Q (.ref c) H') : rBinOwn CD (spTwo K CN CD f) E (.ref a) (.ref b) H Q := by
  obtain ⟨⟨_, ⟨da, ha⟩, _⟩⟩ := id Da
  obtain ⟨⟨_, ⟨db, hb⟩, _⟩⟩ := id Db
  refine ⟨a, b, da, db, _, _, rfl, rfl, ha, hb, a, b, s, t, [], [], rfl, Da, Db, fit0 fa, fit0 fb, fun c out H' s' D g => ⟨⟨c, rfl⟩, q c H' s' ?_⟩⟩
  rw [gs_end (gs_keep (.inl rfl) (gs_keep (.inl rfl) g))] at D
  exact D
end
def spJn (K : PySem.W.Frag) (CN CD : Addr) : Sp := fun vs H Q _ => ∃ (p a b c : Addr) (s t u : Nd), vs = [.non, .ref p] ∧ SqT K H p [.ref a, .ref b, .ref c] ∧ DocIs K CN CD H a s [] ∧ DocIs K CN CD H b t [] ∧ DocIs K CN CD H c u [] ∧
  s.ways.1 ≤ 2 ^ 40 ∧ t.ways.1 ≤ 2 ^ 40 ∧ u.ways.1 ≤ 2 ^ 40 ∧ (Nd.jn s t).ways.1 ≤ 2 ^ 40 ∧ ∀ v H', Same H H' → DocIs K CN CD H' v (.jn (.jn s t) u) [] → Q (.ref v) H'
def spJoined (K : PySem.W.Frag) (CN CD : Addr) : Sp := fun vs H Q E => vs.length = 3 ∧ ∀ p, H p = none → spJn K CN CD [.non, .ref p] (upd H p (.tup vs)) Q E
section
variable {P : Program} {w : World} {K : PySem.W.Frag} {mg : Str → Option Value} {base : Heap} {k : Nat}
theorem ok_joined (T : Tx K mg) (G_refuse_non_docs : FnOk P w K mg base CX0 k T.a_refuse_non_docs T.d_refuse_non_docs P_refuse_non_docs (spRDT K T.C_Node T.C_Doc)) (G_text : FnOk P w K mg base CX0 k T.a_text T.d_text P_text (spLeaf K T.C_Node T.C_Doc isTxt))
    (G_Doc_add : FnOk P w K mg base CX0 k T.a_Doc_add T.d_Doc_add P_Doc_add (spTwo K T.C_Node T.C_Doc .jn)) : FnR P w K mg base CX0 (k + 1) T.a_joined (spJoined K T.C_Node T.C_Doc) := by
  refine fn_star3K T.F_joined sc_joined StX.cxUp_none (fun D doc pm an cdv ct r1 r2 r3 => ⟨_, _, _, _, _, rfl, fun v => ⟨_, rfl, rfl⟩⟩) (fun cdv A outer s H vs Q E hr h => ?_)
  obtain ⟨p, a, b, c, ta, tb, tc, rfl, hp, Da, Db, Dc, la, lb, lc, lab, hq⟩ := h
  refine ⟨_, PSs.nox (pss_cons (ps_expr (pe_call G_refuse_non_docs hr rfl T.m_refuse_non_docs T.F_refuse_non_docs.kp T.b_refuse_non_docs .nil pass0 (pa_cons (pv 1) pa_nil)))
(pss_cons (ps_if (pt_cmpR op_notN (pv 0) pe_non (nomark _))
(pss_one (ps_expr (pe_call G_refuse_non_docs hr rfl T.m_refuse_non_docs T.F_refuse_non_docs.kp T.b_refuse_non_docs .nil pass0 (pa_cons (pe_lst (pa_cons (pv 0) pa_nil)) pa_nil))))
pss_nil)
(pss_cons (ps_if (pt_not (pt_truth (pv 1) (fun _ => rfl)))
(pss_one (ps_ret (pe_call G_text hr rfl T.m_text T.F_text.kp T.b_text .nil pass0 (pa_cons pe_str pa_nil))))
pss_nil)
(pss_cons (ps_set (i := 2) sc_joined.nd rfl (Or.inl rfl) (pe_ix ix_tup (pv 1) pe_int (fun _ _ => rfl)))
(pss_cons (ps_for PassesOwn.never rfl (pi_tup (pe_slice sl_tupA (pv 1) (po_some pe_int) po_none)) (pg_name (i := 3) sc_joined.nd rfl (Or.inl rfl))
(pss_cons (ps_if (pt_cmpR op_notN (pv 0) pe_non (nomark _))
(pss_one (ps_set (i := 2) sc_joined.nd rfl (Or.inl rfl) (pe_op (op_own G_Doc_add hr T.b_Doc_add pass0 T.so_Doc T.me_Doc_add.at_ T.me_Doc_add.fn) (pv 2) (pv 0))))
pss_nil)
(pss_one (ps_set (i := 2) sc_joined.nd rfl (Or.inl rfl) (pe_op (op_own G_Doc_add hr T.b_Doc_add pass0 T.so_Doc T.me_Doc_add.at_ T.me_Doc_add.fn) (pv 2) (pv 3))))))
(pss_one (ps_ret (pv 2)))))))), ?_⟩
  refine ⟨_, rfl, p, _, rfl, hp, fun x hx => ?_, ?_⟩
  · simp only [List.mem_cons, List.not_mem_nil, or_false] at hx
    rcases hx with rfl | rfl | rfl
    · exact ⟨a, ta, [], rfl, Da⟩
    · exact ⟨b, tb, [], rfl, Db⟩
    · exact ⟨c, tc, [], rfl, Dc⟩
  refine ⟨_, rfl, rfl, _, rfl, iteF ?_⟩
  refine ⟨_, rfl, true, .inr (.inl ⟨_, hp, rfl⟩), iteF ?_⟩
  refine ⟨_, rfl, p, _, 0, _, rfl, rfl, hp, rfl, ?_⟩
  refine ⟨_, rfl, 1, rfl, ?_⟩
  unfold tNoPart
  refine ⟨p, _, rfl, hp, fun y => absurd y.1 (by show ¬ (HT.sIx 3 0 (some ((1 : Nat) : Int)) = 0); rw [HT.sIx_nat]; decide), fun _ q1 hq1 => ?_⟩
  have s1 := same_new (o := .tup (cutV [V.ref a, .ref b, .ref c] (some 1) none)) hq1
  have kq : SqT K (upd H q1 (.tup (cutV [V.ref a, .ref b, .ref c] (some 1) none))) q1 [.ref b, .ref c] := .of upd_same
  have Da1 := Da.same s1
  have Db1 := Db.same s1
  have Dc1 := Dc.same s1
  generalize upd H q1 _ = H1 at s1 kq Da1 Db1 Dc1 ⊢
  refine ⟨q1, rfl, ⟨_, kq⟩, for_tup (a := q1) (xs := [.ref b, .ref c]) (fun i σ H' => ∃ (wv : Addr) (v3 : Option V), σ = [some .non, some (.ref p), some (.ref wv), v3] ∧ Same H1 H' ∧ DocIs K T.C_Node T.C_Doc H' wv (match i with | 0 => ta | 1 => .jn ta tb | _ => .jn (.jn ta tb) tc) []) ⟨a, none, rfl, .refl _, Da1⟩ (fun i σ H' _ q => by obtain ⟨_, _, _, q, _⟩ := q; exact Same.seqT q kq) ?_ ?_⟩
  · rintro i y σ H2 hy ⟨wv, v3, rfl, s2, Dw⟩
    match i, hy, Dw with
    | 0, hy, Dw =>
      obtain rfl : V.ref b = y := Option.some.inj hy
      refine ⟨_, rfl, rfl, _, rfl, iteF ?_⟩
      exact ⟨_, rfl, _, rfl, two0 Dw (Db1.same s2) la lb fun x H' s' D => ⟨x, _, rfl, s2.trans s', D⟩⟩
    | 1, hy, Dw =>
      obtain rfl : V.ref c = y := Option.some.inj hy
      refine ⟨_, rfl, rfl, _, rfl, iteF ?_⟩
      exact ⟨_, rfl, _, rfl, two0 Dw (Dc1.same s2) lab lc fun x H' s' D => ⟨x, _, rfl, s2.trans s', D⟩⟩
    | i + 2, hy, _ => simp at hy
  · rintro σ H2 ⟨wv, v3, rfl, s2, Dw⟩
    exact ⟨_, rfl, hq wv H2 (s1.trans s2) Dw⟩
end
end K33

namespace K33
open PySem PySem.Spec PyProof.Rows L2 Vk
/-! ### the draws -/
def spAt (K : PySem.W.Frag) : Sp := fun vs H Q _ => ∃ (a : Addr) (ns : List Int) (k : Int),
  vs = [.ref a, .int k] ∧ SqL K H a (ns.map V.int) ∧ ns.length ≤ 63 ∧ 0 ≤ k ∧ ∀ i : Int, Q (.int i) H
def spMixed : Sp := fun vs H Q _ => ∃ c k : Int,
  vs = [.int c, .int k] ∧ 0 ≤ c ∧ c < 2147483647 ∧ 0 ≤ k ∧ k ≤ 2000000000 ∧ ∀ i : Int, Q (.int i) H
def spPurse (K : PySem.W.Frag) : Sp := fun vs H Q _ => ∃ (a : Addr) (ns : List Int) (k : Int),
  vs = [.ref a, .int k] ∧ SqL K H a (ns.map V.int) ∧ ns.length ≤ 63 ∧ 0 ≤ k ∧ k ≤ 100 ∧
  ∀ (p : Addr) (o : HO), H p = none → PurseAt (upd H p o) p 900000000 → Q (.ref p) (upd H p o)
def spDraw : Sp := fun vs H Q _ => ∃ (p : Addr) (m : Int) (n : Nat),
  vs = [.ref p, .int m] ∧ PurseAt H p (n + 1) ∧ 0 < m ∧ m < 536870912 ∧
  ∀ (H' : Hp) (d : Int), hide p H' = hide p H → PurseAt H' p n → 0 ≤ d → d < m → Q (.int d) H'
section
variable {P : Program} {w : World} {K : PySem.W.Frag} {mg : Str → Option Value} {base : Heap} {k : Nat}
theorem ok_at (T : Tx K mg) : FnOk P w K mg base CX0 (k + 1) T.a_l_at T.d_l_at ["_law_script", "_law_k"] (spAt K) := by
  refine T.F_l_at.ok sc_l_at (fun vs H Q E h => ?_) (fun cdv A outer s H vs Q E hr h => ?_)
  · obtain ⟨a, ns, z, rfl, _⟩ := h
    rfl
  obtain ⟨a, ns, z, rfl, hS, h63, h0, hq⟩ := h
  refine ⟨_, (pss_cons (ps_if (pt_cmpR op_lt (pv 1) (pe_callB call_len rfl T.z_len (by decide +kernel) (pa_cons (pv 0) pa_nil)) (nomark _))
(pss_one (ps_ret (pe_ix ix_list (pv 0) (pv 1) (fun _ _ => rfl))))
pss_nil)
(pss_one (ps_ret pe_int))), ?_⟩
  refine ⟨_, rfl, _, rfl, .ref a, _, rfl, .inl ⟨_, hS, rfl⟩, _, _, rfl, rfl, _, rfl, ?_⟩
  have hl : (ns.map V.int).length = ns.length := List.length_map _
  refine ite2 (fun c => ?_) (fun c => ?_)
  · have c' : z < (((ns.map V.int).length : Nat) : Int) := of_decide_eq_true c
    rw [hl] at c'
    have hz : z.toNat < ns.length := by omega
    refine ⟨_, rfl, _, rfl, a, _, z, .int ns[z.toNat], rfl, rfl, hS, ?_, hq _⟩
    exact at_of (j := z.toNat) (by omega) (by simp [hz])
  · exact hq 0
theorem ok_mixed (T : Tx K mg) : FnOk P w K mg base CX0 (k + 1) T.a_l_mixed T.d_l_mixed ["_law_cell", "_law_k"] spMixed := by
  refine T.F_l_mixed.ok sc_l_mixed (fun vs H Q E h => ?_) (fun cdv A outer s H vs Q E hr h => ?_)
  · obtain ⟨c, z, rfl, _⟩ := h
    rfl
  obtain ⟨c, z, rfl, c0, c1, z0, z1, hq⟩ := h
  refine ⟨_, (pss_cons (ps_set (i := 2) sc_l_mixed.nd rfl (Or.inl rfl) (pe_op op_mod (pe_callTy call_int1 rfl T.z_int (by decide +kernel) (pa_cons (pe_op op_add (pe_op op_add (pe_op op_add (pe_op op_mul (pv 0) pe_int) (pe_op op_mul (pe_op op_mul pe_int (pv 1)) (pv 1))) (pv 1)) pe_int) pa_nil)) pe_int))
(pss_cons (ps_set (i := 2) sc_l_mixed.nd rfl (Or.inl rfl) (pe_op op_mod (pe_callTy call_int1 rfl T.z_int (by decide +kernel) (pa_cons (pe_op op_add (pe_op op_mul (pv 2) (pv 2)) pe_int) pa_nil)) pe_int))
(pss_one (ps_ret (pe_op op_mod (pe_callTy call_int1 rfl T.z_int (by decide +kernel) (pa_cons (pe_op op_mul (pv 2) pe_int) pa_nil)) pe_int))))), ?_⟩
  refine ⟨_, rfl, _, _, rfl, rfl, .inl ⟨by omega, by omega⟩, _, rfl, _, _, rfl, rfl, .inr ⟨by omega, by omega⟩, _, rfl, _, _, rfl, rfl, .inr ⟨by omega, by omega⟩,
    _, _, rfl, rfl, _, rfl, _, _, rfl, rfl, _, _, rfl, rfl, .inl ⟨_, rfl, _, _, rfl, rfl, (show (0 : Int) < 2147483647 by decide), ?_⟩⟩
  refine ⟨_, rfl, _, rfl, _, _, rfl, rfl, .inl ⟨by omega, by omega⟩, _, _, rfl, rfl, .inl ⟨_, rfl, _, _, rfl, rfl, (show (0 : Int) < 2147483629 by decide), ?_⟩⟩
  exact ⟨_, rfl, _, _, rfl, rfl, .inl ⟨by omega, by omega⟩, .inl ⟨_, rfl, _, _, rfl, rfl, (show (0 : Int) < 2147483587 by decide), hq _⟩⟩
theorem ok_purse (T : Tx K mg) (G_l_at : FnOk P w K mg base CX0 k T.a_l_at T.d_l_at ["_law_script", "_law_k"] (spAt K)) : FnOk P w K mg base CX0 (k + 1) T.a_l_purse T.d_l_purse P_l_purse (spPurse K) := by
  refine T.F_l_purse.ok sc_l_purse (fun vs H Q E h => ?_) (fun cdv A outer s H vs Q E hr h => ?_)
  · obtain ⟨a, ns, z, rfl, _⟩ := h
    rfl
  obtain ⟨a, ns, z, rfl, hS, h63, z0, z1, hq⟩ := h
  refine ⟨_, (pss_cons (ps_set (i := 2) sc_l_purse.nd rfl (Or.inl rfl) (pe_call G_l_at hr rfl T.m_l_at T.F_l_at.kp T.b_l_at .nil pass0 (pa_cons (pv 0) (pa_cons (pv 1) pa_nil))))
(pss_one (ps_ret (pe_lst (pa_cons (pe_op op_mod (pe_callTy call_int1 rfl T.z_int (by decide +kernel) (pa_cons (pe_callB (call_max2 rfl) rfl T.z_max (by decide +kernel) (pa_cons (pe_op op_sub (pv 2) (pe_op op_pow pe_int pe_int)) (pa_cons pe_int pa_nil))) pa_nil)) (pe_op op_powW (pe_op op_pow pe_int pe_int) pe_int)) (pa_cons (pe_op op_mod (pe_callTy call_int1 rfl T.z_int (by decide +kernel) (pa_cons (pv 2) pa_nil)) pe_int) (pa_cons (pe_op op_mul pe_int (pv 1)) pa_nil))))))), ?_⟩
  refine ⟨_, rfl, _, rfl, a, ns, z, rfl, hS, h63, z0, fun cell => ?_⟩
  refine ⟨_, rfl, _, _, rfl, rfl, ⟨by decide, by decide, by decide⟩, _, _, rfl, rfl, _, _, rfl, .inl ⟨_, rfl, _, _, rfl, rfl, ⟨by decide, by decide, by decide⟩, _, _, rfl, rfl, ⟨by decide, by decide +kernel⟩, ?_⟩⟩
  refine ⟨_, _, rfl, rfl, (show (0 : Int) < (10 ^ Int.toNat 60) ^ Int.toNat 10 by decide +kernel), ?_⟩
  refine ⟨_, rfl, .inl ⟨_, rfl, _, _, rfl, rfl, (show (0 : Int) < 2147483647 by decide), _, rfl, _, _, rfl, rfl, .inl ⟨by decide, by decide⟩, (by show 3 ≤ sizeLine; decide), fun p hp => ?_⟩⟩
  exact hq p _ hp ⟨_, _, _, upd_same, by omega, by omega, by omega, by omega⟩
end
theorem bits_small {m : Int} (m0 : 0 < m) (m1 : m < 536870912) : (1 : Int) + ((Builtin.Int.intBits m : Nat) : Int) / 30 = 1 := by
  have h : Builtin.Int.intBits m ≤ 29 := by
    unfold Builtin.Int.intBits
    split
    · decide
    · have h2 : m.natAbs.log2 < 29 := (Nat.log2_lt (by omega)).mpr (by omega)
      omega
  omega
section
variable {P : Program} {w : World} {K : PySem.W.Frag} {mg : Str → Option Value} {base : Heap} {k : Nat}
theorem ok_draw (T : Tx K mg) (G_l_mixed : FnOk P w K mg base CX0 k T.a_l_mixed T.d_l_mixed ["_law_cell", "_law_k"] spMixed) : FnOk P w K mg base CX0 (k + 1) T.a_l_draw T.d_l_draw P_l_draw spDraw := by
  refine T.F_l_draw.ok sc_l_draw (fun vs H Q E h => ?_) (fun cdv A outer s H vs Q E hr h => ?_)
  · obtain ⟨p, m, n, rfl, _⟩ := h
    rfl
  obtain ⟨p, m, n, rfl, ⟨a, b, c, hp, b0, b1, c0, c1⟩, m0, m1, hq⟩ := h
  refine ⟨_, (pss_cons (ps_if (pt_cmpR op_gt (pe_ix ix_list (pv 0) pe_int (fun _ _ => rfl)) pe_int (nomark _))
(pss_cons (ps_set (i := 2) sc_l_draw.nd rfl (Or.inl rfl) (pe_op op_mod (pe_callTy call_int1 rfl T.z_int (by decide +kernel) (pa_cons (pe_ix ix_list (pv 0) pe_int (fun _ _ => rfl)) pa_nil)) (pv 1)))
(pss_cons (ps_asg (pe_op op_fdiv (pe_ix ix_list (pv 0) pe_int (fun _ _ => rfl)) (pv 1)) (pg_sub (pv 0) pe_int set_list))
(pss_one (ps_ret (pv 2)))))
pss_nil)
(pss_cons (ps_set (i := 3) sc_l_draw.nd rfl (Or.inl rfl) pe_int)
(pss_cons (ps_for PassesOwn.never rfl (pi_range1 rfl T.z_range (pa_cons (pe_op op_add pe_int (pe_op op_fdiv (pe_bits (pv 1)) pe_int)) pa_nil)) (pg_name (i := 4) sc_l_draw.nd rfl (Or.inl rfl))
(pss_cons (ps_asg (pe_op op_add (pe_ix ix_list (pv 0) pe_int (fun _ _ => rfl)) pe_int) (pg_sub (pv 0) pe_int set_list))
(pss_one (ps_set (i := 3) sc_l_draw.nd rfl (Or.inl rfl) (pe_op op_add (pe_op op_mul (pv 3) pe_int) (pe_call G_l_mixed hr rfl T.m_l_mixed T.F_l_mixed.kp T.b_l_mixed .nil pass0 (pa_cons (pe_ix ix_list (pv 0) pe_int (fun _ _ => rfl)) (pa_cons (pe_ix ix_list (pv 0) pe_int (fun _ _ => rfl)) pa_nil))))))))
(pss_one (ps_ret (pe_op op_mod (pe_callTy call_int1 rfl T.z_int (by decide +kernel) (pa_cons (pv 3) pa_nil)) (pv 1))))))), ?_⟩
  refine ⟨_, rfl, p, _, _, .int a, rfl, rfl, .of hp, rfl, _, _, rfl, rfl, _, rfl, ?_⟩
  refine ite2 (fun t => ?_) (fun t => ?_)
  · refine ⟨_, rfl, p, _, _, .int a, rfl, rfl, .of hp, rfl, .inl ⟨_, rfl, _, rfl, _, _, rfl, rfl, m0, ?_⟩⟩
    refine ⟨_, rfl, p, _, _, .int a, rfl, rfl, .of hp, rfl, _, rfl, _, _, rfl, rfl, ⟨m0, by omega⟩, _, rfl, p, _, _, 0, rfl, rfl, hp, rfl, ?_⟩
    refine ⟨_, rfl, ?_⟩
    exact hq _ _ hide_upd ⟨_, _, _, upd_same, b0, b1, c0, by omega⟩ (Int.emod_nonneg _ (by omega)) (Int.emod_lt_of_pos _ m0)
  · refine ⟨_, rfl, m, rfl, _, _, rfl, rfl, ⟨by decide, by decide⟩, _, _, rfl, rfl, ?_⟩
    have eb := bits_small m0 m1
    refine ⟨1 + ((Builtin.Int.intBits m : Nat) : Int) / 30, rfl, by omega, by omega, for_range (lo := 0) (n := (1 + ((Builtin.Int.intBits m : Nat) : Int) / 30).toNat)
      (fun i σ H' => ∃ (d u : Option V) (z : Int), σ = [some (.ref p), some (.int m), d, some (.int z), u] ∧ ((i = 0 ∧ z = 0 ∧ H' = H) ∨ (i = 1 ∧ hide p H' = hide p H ∧ PurseAt H' p n))) ⟨none, none, 0, rfl, .inl ⟨rfl, rfl, rfl⟩⟩ ?_ ?_⟩
    · rintro i σ H2 hi ⟨d, u, z, rfl, q⟩
      rcases q with ⟨rfl, rfl, rfl⟩ | ⟨rfl, _⟩
      · refine ⟨_, rfl, p, _, _, .int c, rfl, rfl, .of hp, rfl, _, _, rfl, rfl, _, rfl, p, _, _, 2, rfl, rfl, hp, rfl, ?_⟩
        refine ⟨_, rfl, _, _, rfl, rfl, .inr ⟨by decide, by decide⟩, ?_⟩
        refine ⟨_, rfl, p, _, _, .int b, rfl, rfl, .of upd_same, rfl, _, rfl, p, _, _, .int (c + 1), rfl, rfl, .of upd_same, rfl, ?_⟩
        refine ⟨b, c + 1, rfl, b0, b1, by omega, by omega, fun i => ⟨_, _, rfl, rfl, ?_⟩⟩
        exact ⟨_, _, _, rfl, .inr ⟨rfl, hide_upd, _, _, _, upd_same, b0, b1, by omega, by omega⟩⟩
      · omega
    · rintro σ H2 ⟨d, u, z, rfl, q⟩
      rcases q with ⟨h0, _⟩ | ⟨_, hh, pu⟩
      · omega
      · exact ⟨_, rfl, .inl ⟨_, rfl, _, rfl, _, _, rfl, rfl, m0, hq _ _ hh pu (Int.emod_nonneg _ (by omega)) (Int.emod_lt_of_pos _ m0)⟩⟩
end
end K33

namespace M32
open PySem K33 PySem.W
/-! ### words and flat strings, as the law keeps them -/
def gz : List (Option Str) → List Str → Gaps
  | f :: fs, w :: ws => (gapS f, w.cps.toList) :: gz fs ws
  | _, _ => []
theorem gz_app : ∀ (fs : List (Option Str)) (ws : List Str) (f : Option Str) (u : Str) (gs : List (Option Str)) (us : List Str), fs.length = ws.length → gz (fs ++ f :: gs) (ws ++ u :: us) = gz fs ws ++ (gapS f, u.cps.toList) :: gz gs us
  | [], [], _, _, _, _, _ => rfl
  | [], _ :: _, _, _, _, _, h => by cases h
  | _ :: _, [], _, _, _, _, h => by cases h
  | f' :: fs, w' :: ws, f, u, gs, us, h => by
    show _ :: gz (fs ++ f :: gs) (ws ++ u :: us) = _ :: (gz fs ws ++ _)
    rw [gz_app fs ws f u gs us (by simpa using h)]
inductive Bt : Nd → List Str → List (Option Str) → Prop
  | one {s : Str} : Bt (.txt s) [s] []
  | right {a b : Nd} {f : Option Str} {ws us : List Str} {fs gs : List (Option Str)} : Bt a ws fs → Bt b us gs → Bt (.jn a (.jn (.gr (.brk f)) b)) (ws ++ us) (fs ++ f :: gs)
  | left {a b : Nd} {f : Option Str} {ws us : List Str} {fs gs : List (Option Str)} : Bt a ws fs → Bt b us gs → Bt (.jn (.jn a (.gr (.brk f))) b) (ws ++ us) (fs ++ f :: gs)
theorem Bt.built : ∀ {t : Nd} {ws : List Str} {fs : List (Option Str)}, Bt t ws fs → ∃ w ws', ws = w :: ws' ∧ fs.length = ws'.length ∧ Built t w.cps.toList (gz fs ws')
  | _, _, _, .one => ⟨_, [], rfl, rfl, .one⟩
  | _, _, _, .right (f := f) (fs := fs) (gs := gs) ha hb => by
    obtain ⟨w, ws', rfl, la, ba⟩ := ha.built
    obtain ⟨u, us', rfl, lb, bb⟩ := hb.built
    refine ⟨w, ws' ++ u :: us', rfl, by rw [List.length_append, List.length_append, List.length_cons, List.length_cons, la, lb], ?_⟩
    rw [gz_app _ _ _ _ _ _ la]
    exact .right ba bb
  | _, _, _, .left (f := f) (fs := fs) (gs := gs) ha hb => by
    obtain ⟨w, ws', rfl, la, ba⟩ := ha.built
    obtain ⟨u, us', rfl, lb, bb⟩ := hb.built
    refine ⟨w, ws' ++ u :: us', rfl, by rw [List.length_append, List.length_append, List.length_cons, List.length_cons, la, lb], ?_⟩
    rw [gz_app _ _ _ _ _ _ la]
    exact .left ba bb
def WOk (s : Str) : Prop := s.length ≤ 9 ∧ PyData.strOk s = true
def FOk (f : Option Str) : Prop := ∀ s, f = some s → s.length ≤ 2 ∧ PyData.strOk s = true
theorem gr_ways (f : Option Str) : (Nd.gr (.brk f)).ways.1 = 1 + (Nd.gr (.brk f)).ways.2 ∧ 0 ≤ (Nd.gr (.brk f)).ways.2 ∧ (Nd.gr (.brk f)).ways.2 ≤ 1 := by
  cases f with
  | none => decide
  | some s => exact ⟨rfl, (show (0 : Int) ≤ 1 by decide), (show (1 : Int) ≤ 1 by decide)⟩
structure Small (t : Nd) (n : Nat) : Prop where
  ok : t.ok
  wt : t.wt + 30 ≤ 40 * (n + 1)
  w1 : 1 ≤ t.ways.1 ∧ t.ways.1 ≤ 2 ^ n
  w2 : 0 ≤ t.ways.2 ∧ t.ways.2 ≤ 1
theorem pw (i j : Nat) : (2 : Int) ^ i * (2 * 2 ^ j) = 2 ^ (i + (j + 1)) := by
  rw [Int.pow_add, Int.pow_succ, Int.mul_comm (2 ^ j) 2]
theorem mul1 {a b x y : Int} (ha : 1 ≤ a ∧ a ≤ x) (hb : 1 ≤ b ∧ b ≤ y) : 1 ≤ a * b ∧ a * b ≤ x * y := by
  constructor
  · have := Int.mul_le_mul ha.1 hb.1 (by decide) (by omega)
    simpa using this
  · exact Int.mul_le_mul ha.2 hb.2 (by omega) (by omega)
theorem mul01 {a b : Int} (ha : 0 ≤ a ∧ a ≤ 1) (hb : 0 ≤ b ∧ b ≤ 1) : 0 ≤ a * b ∧ a * b ≤ 1 := by
  constructor
  · exact Int.mul_nonneg ha.1 hb.1
  · have := Int.mul_le_mul ha.2 hb.2 hb.1 (by decide)
    simpa using this
theorem brk_wt {f : Option Str} (h : FOk f) : (Nd.gr (.brk f)).wt ≤ 12 := by
  cases f with
  | none => decide
  | some s =>
    have := (h s rfl).1
    show 2 * (s.length + 2) + 4 ≤ 12
    omega
theorem brk_ok {f : Option Str} (h : FOk f) : (Nd.gr (.brk f)).ok := by
  cases f with
  | none => trivial
  | some s => exact (h s rfl).2
theorem Bt.small : ∀ {t : Nd} {ws : List Str} {fs : List (Option Str)}, Bt t ws fs → (∀ s ∈ ws, WOk s) → (∀ f ∈ fs, FOk f) → Small t fs.length
  | _, _, _, .one (s := s), hw, _ => by
    have h := hw s (List.mem_cons_self ..)
    refine ⟨h.2, ?_, ⟨(show (1 : Int) ≤ 1 by decide), (show (1 : Int) ≤ 2 ^ 0 by decide)⟩, ⟨(show (0 : Int) ≤ 1 by decide), (show (1 : Int) ≤ 1 by decide)⟩⟩
    show s.length + 1 + 30 ≤ 40 * (0 + 1)
    have := h.1
    omega
  | _, _, _, .right (a := a) (b := b) (f := f) (fs := fs) (gs := gs) ha hb, hw, hf => by
    have sa := ha.small (fun s hs => hw s (List.mem_append_left _ hs)) fun f hf' => hf f (List.mem_append_left _ hf')
    have sb := hb.small (fun s hs => hw s (List.mem_append_right _ hs)) fun f hf' => hf f (List.mem_append_right _ (List.mem_cons_of_mem _ hf'))
    have fo := hf f (List.mem_append_right _ (List.mem_cons_self ..))
    obtain ⟨g1, g2, g3⟩ := gr_ways f
    have g1' : 1 ≤ (Nd.gr (.brk f)).ways.1 ∧ (Nd.gr (.brk f)).ways.1 ≤ 2 := by omega
    have wt := brk_wt fo
    have e : (fs ++ f :: gs).length = fs.length + (gs.length + 1) := by rw [List.length_append, List.length_cons]
    rw [e]
    refine ⟨⟨sa.ok, brk_ok fo, sb.ok⟩, ?_, ?_, ?_⟩
    · show a.wt + ((Nd.gr (.brk f)).wt + b.wt + 1) + 1 + 30 ≤ _
      have := sa.wt
      have := sb.wt
      omega
    · show 1 ≤ a.ways.1 * ((Nd.gr (.brk f)).ways.1 * b.ways.1) ∧ a.ways.1 * ((Nd.gr (.brk f)).ways.1 * b.ways.1) ≤ _
      rw [← pw]
      exact mul1 sa.w1 (mul1 g1' sb.w1)
    · exact mul01 sa.w2 (mul01 ⟨g2, g3⟩ sb.w2)
  | _, _, _, .left (a := a) (b := b) (f := f) (fs := fs) (gs := gs) ha hb, hw, hf => by
    have sa := ha.small (fun s hs => hw s (List.mem_append_left _ hs)) fun f hf' => hf f (List.mem_append_left _ hf')
    have sb := hb.small (fun s hs => hw s (List.mem_append_right _ hs)) fun f hf' => hf f (List.mem_append_right _ (List.mem_cons_of_mem _ hf'))
    have fo := hf f (List.mem_append_right _ (List.mem_cons_self ..))
    obtain ⟨g1, g2, g3⟩ := gr_ways f
    have g1' : 1 ≤ (Nd.gr (.brk f)).ways.1 ∧ (Nd.gr (.brk f)).ways.1 ≤ 2 := by omega
    have wt := brk_wt fo
    have e : (fs ++ f :: gs).length = fs.length + (gs.length + 1) := by rw [List.length_append, List.length_cons]
    rw [e]
    refine ⟨⟨⟨sa.ok, brk_ok fo⟩, sb.ok⟩, ?_, ?_, ?_⟩
    · show a.wt + (Nd.gr (.brk f)).wt + 1 + b.wt + 1 + 30 ≤ _
      have := sa.wt
      have := sb.wt
      omega
    · show 1 ≤ a.ways.1 * (Nd.gr (.brk f)).ways.1 * b.ways.1 ∧ a.ways.1 * (Nd.gr (.brk f)).ways.1 * b.ways.1 ≤ _
      rw [← pw, Int.mul_assoc]
      exact mul1 sa.w1 (mul1 g1' sb.w1)
    · exact mul01 (mul01 sa.w2 ⟨g2, g3⟩) sb.w2
/-! ### the least lines from a word on -/
open Classical in
/-- the least lines, if there are any -/
noncomputable def Fl (W left st : Int) (u : List Nat) (s : Gaps) : List Rw := if h : ∃ R, IsL W left st (left + st) st [] u s R then Classical.choose h else []
theorem Fl_is {W left st : Int} {u : List Nat} {s : Gaps} {R : List Rw} (h : IsL W left st (left + st) st [] u s R) : Fl W left st u s = R := by
  have e : ∃ R, IsL W left st (left + st) st [] u s R := ⟨R, h⟩
  unfold Fl
  rw [dif_pos e]
  exact (Classical.choose_spec e).one h
end M32

namespace K33
open PySem PySem.Spec PyProof.Rows L2 Vk
/-! ### the law: the least lines from a word on -/
def optV : Option Str → V
  | none => .non
  | some s => .str s
structure WF (K : PySem.W.Frag) (H : Hp) (wa fa : Addr) (ws : List Str) (fs : List (Option Str)) : Prop where
  w : SqL K H wa (ws.map V.str)
  f : SqL K H fa (fs.map optV)
  l : fs.length + 1 = ws.length
  n : ws.length ≤ 40
  wo : ∀ s ∈ ws, s.length ≤ 9
  fo : ∀ f ∈ fs, ∀ s, f = some s → s.length ≤ 2
theorem WF.same {K : PySem.W.Frag} {H H' : Hp} {wa fa : Addr} {ws : List Str} {fs : List (Option Str)} (s : Same H H') (h : WF K H wa fa ws fs) : WF K H' wa fa ws fs := ⟨s.seq h.w, s.seq h.f, h.l, h.n, h.wo, h.fo⟩
/-- what is found for the j-th word -/
def FdAt (K : PySem.W.Frag) (H : Hp) (W left st : Int) (ws : List Str) (fs : List (Option Str)) (fo : List V) (j : Nat) : Prop :=
  ∃ v R, fo[j]? = some v ∧ Dp K H v (M32.tD (M32.sums W left R)) ∧ R.length ≤ 60 ∧ (j = ws.length → R = []) ∧ ∀ u us, ws.drop j = u :: us → M32.IsL W left st (left + st) st [] u.cps.toList (M32.gz (fs.drop j) us) R
theorem FdAt.same {K : PySem.W.Frag} {H H' : Hp} {W left st : Int} {ws : List Str} {fs : List (Option Str)} {fo : List V} {j : Nat} (s : Same H H') (h : FdAt K H W left st ws fs fo j) : FdAt K H' W left st ws fs fo j := let ⟨v, R, h1, h2, h3⟩ := h; ⟨v, R, h1, Dp.same s h2, h3⟩
def spLeast (K : PySem.W.Frag) : Sp := fun vs H Q _ => ∃ (wa fa oa : Addr) (ws : List Str) (fs : List (Option Str)) (fo : List V) (k : Nat) (ow W left st c : Int) (u : Str) (us : List Str), vs = [.ref wa, .ref fa, .ref oa, .int k, .int ow, .int W, .int c] ∧ WF K H wa fa ws fs ∧ SqL K H oa fo ∧ ws.drop k = u :: us ∧
  (∀ j, k < j → j ≤ ws.length → FdAt K H W left st ws fs fo j) ∧ ∀ v H' R, Same H H' → Dp K H' v (M32.tD (M32.val W left c R)) → M32.IsL W left st c ow [] u.cps.toList (M32.gz (fs.drop k) us) R → Q v H'
theorem RF_len {st : Int} : ∀ (r : M32.Gaps) (ow : Int) (z w : List Nat), ∀ q ∈ M32.RF st ow z w r, q.length ≤ r.length + 1
  | [], ow, z, w, q, hq => by
    rw [List.mem_singleton.mp hq]
    exact Nat.le_refl _
  | (f, u) :: r, ow, z, w, q, hq => by
    rcases List.mem_append.mp hq with hq | hq
    · obtain ⟨q', hq', rfl⟩ := List.mem_map.mp hq
      have := RF_len r st [] u q' hq'
      rw [List.length_cons, List.length_cons]
      omega
    · cases f with
      | none => cases hq
      | some g =>
        have := RF_len r ow _ u q hq
        rw [List.length_cons]
        omega
theorem gz_len : ∀ (fs : List (Option Str)) (ws : List Str), (M32.gz fs ws).length ≤ ws.length
  | [], _ => Nat.zero_le _
  | _ :: _, [] => Nat.zero_le _
  | f :: fs, w :: ws => by
    have := gz_len fs ws
    show (M32.gz fs ws).length + 1 ≤ ws.length + 1
    omega
theorem tD_noL (t : M32.T) : noL (M32.tD t) = true := by
  have e : t.2.2.map M32.rD = (t.2.2.map sRow).map rowD := by
    rw [List.map_map]
    rfl
  unfold M32.tD
  show (true && (true && (noLs (t.2.2.map M32.rD) && true))) = true
  rw [e, rows_noL]
  rfl
theorem tDs_noL : ∀ L : List M32.T, noLs (L.map M32.tD) = true
  | [] => rfl
  | t :: L => by
    show (noL (M32.tD t) && noLs (L.map M32.tD)) = true
    rw [tD_noL, tDs_noL L]
    rfl
theorem tD_depth (t : M32.T) : (M32.tD t).depth ≤ 3 := by
  have e : t.2.2.map M32.rD = (t.2.2.map sRow).map rowD := by
    rw [List.map_map]
    rfl
  have := rows_depth (t.2.2.map sRow)
  unfold M32.tD
  show max 0 (max 0 (max (PyData.depthAll (t.2.2.map M32.rD) + 1) 0)) + 1 ≤ 3
  rw [e]
  omega
theorem tDs_depth : ∀ L : List M32.T, PyData.depthAll (L.map M32.tD) ≤ 3
  | [] => by decide
  | t :: L => by
    have h1 := tD_depth t
    have h2 := tDs_depth L
    show max (M32.tD t).depth (PyData.depthAll (L.map M32.tD)) ≤ 3
    omega
theorem drop_next {α : Type} {xs : List α} {j : Nat} {x : α} {r : List α} (h : xs.drop j = x :: r) : xs[j]? = some x ∧ xs.drop (j + 1) = r := by
  constructor
  · have := congrArg (fun l => l[0]?) h
    simpa [List.getElem?_drop] using this
  · rw [← List.drop_drop, h]
    rfl
theorem str_cps (a b : Str) : (a ++ b).cps.toList = a.cps.toList ++ b.cps.toList := by
  show (a.cps ++ b.cps).toList = _
  simp
theorem str_lapp (a b : Str) : (a ++ b).length = a.length + b.length := by
  show (a.cps ++ b.cps).size = a.cps.size + b.cps.size
  rw [Array.size_append]
theorem gz_split : ∀ (p : M32.Gaps) {fs : List (Option Str)} {us : List Str} {f : Option (List Nat)} {u : List Nat} {s : M32.Gaps}, fs.length = us.length → M32.gz fs us = p ++ (f, u) :: s → ∃ u0 us', us.drop p.length = u0 :: us' ∧ u = u0.cps.toList ∧ s = M32.gz (fs.drop (p.length + 1)) us'
  | [], [], _, _, _, _, _, e => by cases e
  | [], _ :: _, [], _, _, _, _, e => by cases e
  | [], f0 :: fs, u0 :: us, f, u, s, _, e => by
    have e' : (M32.gapS f0, u0.cps.toList) :: M32.gz fs us = (f, u) :: s := e
    cases e'
    exact ⟨u0, us, rfl, rfl, rfl⟩
  | q :: p, [], _, _, _, _, _, e => by cases e
  | q :: p, _ :: _, [], _, _, _, _, e => by cases e
  | q :: p, f0 :: fs, u0 :: us, f, u, s, h, e => by
    have e' : (M32.gapS f0, u0.cps.toList) :: M32.gz fs us = q :: (p ++ (f, u) :: s) := e
    exact gz_split p (fs := fs) (us := us) (by simpa using h) (List.cons.inj e').2
theorem tD_at {K : PySem.W.Frag} {H : Hp} {v : V} {t : M32.T} (h : Dp K H v (M32.tD t)) : ∃ a r rxs, v = .ref a ∧ SqT K H a [.int t.1, .int t.2.1, .ref r] ∧ SqT K H r rxs ∧ DpAll K H rxs (t.2.2.map M32.rD) := by
  obtain ⟨a, xs, rfl, hs, hx⟩ := Dp.ofTup (ds := [.int t.1, .int t.2.1, .tuple (t.2.2.map M32.rD)]) h
  cases hx with
  | cons h1 t1 =>
  cases t1 with
  | cons h2 t2 =>
  cases t2 with
  | cons h3 t3 =>
  cases t3
  cases h1
  cases h2
  obtain ⟨r, rxs, rfl, hr, hd⟩ := Dp.ofTup h3
  exact ⟨a, r, rxs, rfl, hs, hr, hd⟩
section
variable {P : Program} {w : World} {K : PySem.W.Frag} {mg : Str → Option Value} {base : Heap} {k : Nat}
theorem ok_least (T : Tx K mg) : FnOk P w K mg base CX0 (k + 1) T.a_l_least T.d_l_least P_l_least (spLeast K) := by
  refine T.F_l_least.ok sc_l_least (fun vs H Q E h => ?_) (fun cdv A outer s H vs Q E hr h => ?_)
  · obtain ⟨wa, fa, oa, ws, fs, fo, k0, ow, W, left, st, c, u, us, rfl, _⟩ := h
    rfl
  obtain ⟨wa, fa, oa, ws, fs, fo, k0, ow, W, left, st, c, u, us, rfl, wf, ho, hd0, hfd, hq⟩ := h
  have hu := hu_of hr
  refine ⟨_, (pss_cons (ps_set (i := 7) sc_l_least.nd rfl (Or.inl rfl) (pe_ix ix_list (pv 0) (pv 3) (fun _ _ => rfl)))
(pss_cons (ps_set (i := 8) sc_l_least.nd rfl (Or.inl rfl) (pe_lst pa_nil))
(pss_cons (ps_for PassesOwn.never rfl (pi_range2 rfl T.z_range (pa_cons (pe_op op_add (pv 3) pe_int) (pa_cons (pe_op op_add (pe_callB call_len rfl T.z_len (by decide +kernel) (pa_cons (pv 0) pa_nil)) pe_int) pa_nil))) (pg_name (i := 9) sc_l_least.nd rfl (Or.inl rfl))
(pss_cons (ps_set (i := 10) sc_l_least.nd rfl (Or.inl rfl) (pe_ix ix_list (pv 2) (pv 9) (fun _ _ => rfl)))
(pss_cons (ps_set (i := 11) sc_l_least.nd rfl (Or.inl rfl) (pe_callB (call_max2 rfl) rfl T.z_max (by decide +kernel) (pa_cons (pe_op op_sub (pe_op op_add (pv 6) (pe_callB call_len rfl T.z_len (by decide +kernel) (pa_cons (pv 7) pa_nil))) (pv 5)) (pa_cons pe_int pa_nil))))
(pss_cons (ps_expr (pe_bm PySem.F.plainAttrs_list PySem.F.slot_list_append PySem.F.type_list_append mt_append (pv 8) (pa_cons (pe_tup (pa_cons (pe_op op_add (pv 11) (pe_ix ix_tup (pv 10) pe_int (fun _ _ => rfl))) (pa_cons (pe_op op_add pe_int (pe_ix ix_tup (pv 10) pe_int (fun _ _ => rfl))) (pa_cons (pe_op op_catA (pe_tup (pa_cons (pe_tup (pa_cons (pv 4) (pa_cons (pv 7) pa_nil))) pa_nil)) (pe_ix ix_tup (pv 10) pe_int (fun _ _ => rfl))) pa_nil)))) pa_nil)))
(pss_cons (ps_if (PW.pt (pw_or (pt_cmpR (op_eqD hr.units) (pv 9) (pe_callB call_len rfl T.z_len (by decide +kernel) (pa_cons (pv 0) pa_nil)) (nomark _)) (pw_or1 (pt_cmpR op_isN (pe_ix ix_list (pv 1) (pe_op op_sub (pv 9) pe_int) (fun _ _ => rfl)) pe_non (nomark _)))))
(pss_one ps_break)
pss_nil)
(pss_one (ps_set (i := 7) sc_l_least.nd rfl (Or.inl rfl) (pe_op op_add_str (pe_op op_add_str (pv 7) (pe_ix ix_list (pv 1) (pe_op op_sub (pv 9) pe_int) (fun _ _ => rfl))) (pe_ix ix_list (pv 0) (pv 9) (fun _ _ => rfl))))))))))
(pss_one (ps_ret (pe_callB (cr_minD rfl hr.units) rfl T.z_min (by decide +kernel) (pa_cons (pv 8) pa_nil))))))), ?_⟩
  obtain ⟨hk, hd1⟩ := drop_next hd0
  have lk : k0 < ws.length := (List.getElem?_eq_some_iff.mp hk).1
  have ln := wf.n
  have ll := wf.l
  refine ⟨_, rfl, _, rfl, wa, _, k0, .str u, rfl, rfl, wf.w, atI_nat (by rw [List.getElem?_map, hk]; rfl), ?_⟩
  refine ⟨(by show 0 ≤ sizeLine; decide), fun ca hca => ?_⟩
  have s1 := same_new (o := .lst []) hca
  have g0 : H = H := rfl
  have hcR : ∃ F, F = M32.Fl W left st := ⟨_, rfl⟩
  obtain ⟨F, hF⟩ := hcR
  have isF : ∀ {u' : Str} {us' : List Str} {j : Nat} {R : List M32.Rw}, M32.IsL W left st (left + st) st [] u'.cps.toList (M32.gz (fs.drop j) us') R → F u'.cps.toList (M32.gz (fs.drop j) us') = R := fun h => by rw [hF]; exact M32.Fl_is h
  refine nxI ?_
  refine seq_cut (fun σ' H' => ∃ (v7 v9 v10 v11 : Option V) (vs' : List V), σ' = [some (.ref wa), some (.ref fa), some (.ref oa), some (.int k0), some (.int ow), some (.int W), some (.int c), v7, some (.ref ca), v9, v10, v11] ∧ Same H H' ∧ H' ca = some (.lst vs') ∧ DpAll K H' vs' ((M32.CH F ow [] u.cps.toList (M32.gz (fs.drop k0) us)).map fun R => M32.tD (M32.val W left c R))) (fun σ' H' hR => ?_) (fun nx => ?_)
  rotate_left
  · refine ⟨_, rfl, _, _, rfl, rfl, _, rfl, _, _, rfl, .inl ⟨_, s1.seq wf.w, rfl⟩, _, _, rfl, rfl, ?_⟩
    have lnm : (ws.map V.str).length = ws.length := List.length_map _
    rw [lnm]
    have en : (((ws.length : Nat) : Int) + 1 - (((k0 : Nat) : Int) + 1)).toNat = ws.length - k0 := by omega
    refine ⟨_, _, rfl, ⟨by omega, by omega, by omega, by omega⟩, ?_⟩
    rw [en]
    refine for_range (fun i σ H' => ∃ (vs' : List V) (L : List (List M32.Rw)) (z w' : List Nat) (Z : Str) (v9 v10 v11 : Option V), σ = [some (.ref wa), some (.ref fa), some (.ref oa), some (.int k0), some (.int ow), some (.int W), some (.int c), some (.str Z), some (.ref ca), v9, v10, v11] ∧ Same H H' ∧ H' ca = some (.lst vs') ∧
      DpAll K H' vs' (L.map fun R => M32.tD (M32.val W left c R)) ∧ L.length = i ∧ k0 + 1 + i ≤ ws.length ∧ Z.cps.toList = z ++ w' ∧ Z.length ≤ 12 * (i + 1) ∧
      M32.CH F ow [] u.cps.toList (M32.gz (fs.drop k0) us) = L ++ M32.CH F ow z w' (M32.gz (fs.drop (k0 + i)) (ws.drop (k0 + 1 + i)))) ⟨[], [], [], u.cps.toList, u, none, none, none, rfl, s1, upd_same, .nil, rfl, by omega, rfl, ?_, ?_⟩ ?_ ?_
    · have := wf.wo u (List.mem_of_getElem? hk)
      omega
    · rw [Nat.add_zero, Nat.add_zero, hd1]
      rfl
    · rintro i σ H2 hi ⟨vs', L, z, w', Z, v9, v10, v11, rfl, s2, hc2, dL, lL, le, eZ, lZ, eC⟩
      have wf2 := wf.same s2
      have ho2 := s2.seq ho
      have ej : ((k0 : Nat) : Int) + 1 + ((i : Nat) : Int) = ((k0 + 1 + i : Nat) : Int) := by omega
      rw [ej]
      obtain ⟨v, R, hv, dv, lR, r0, rI⟩ := (hfd (k0 + 1 + i) (by omega) le).same s2
      have lz0 : Z.length ≤ sizeLine := Nat.le_trans (m := 1000) (by omega) (by decide)
      refine ⟨_, rfl, _, rfl, oa, fo, ((k0 + 1 + i : Nat) : Int), v, rfl, rfl, ho2, atI_nat hv, ?_⟩
      refine ⟨_, rfl, _, rfl, _, _, rfl, ⟨lz0, rfl⟩, _, _, rfl, rfl, _, rfl, _, _, rfl, rfl, _, _, rfl, ?_⟩
      refine nxI ?_
      obtain ⟨ra, rr, rxs, rfl, hra, hrr, hrx⟩ := tD_at dv
      have lrx : rxs.length = R.length := by
        have := DpAll.length hrx
        rw [List.length_map] at this
        exact this
      have hlen : ((z ++ w').length : Int) = ((Z.length : Nat) : Int) := by
        rw [← eZ]
        exact len_cps Z
      have hZ : Z = ⟨(z ++ w').toArray⟩ := by
        cases Z with
        | mk cps =>
          have e : cps.toList = z ++ w' := eZ
          rw [← e]
      have hval : M32.val W left c ((ow, z ++ w') :: R) = ((if 0 > c + ((Z.length : Nat) : Int) - W then 0 else c + ((Z.length : Nat) : Int) - W) + (M32.sums W left R).1, 1 + (M32.sums W left R).2.1, (ow, z ++ w') :: R) := by
        rw [M32.val_cons]
        refine Prod.ext ?_ rfl
        show M32.over W (c + ((z ++ w').length : Int)) + _ = _ + _
        rw [hlen]
        unfold M32.over
        congr 1
        split <;> omega
      refine seq_cut (fun σ' H3 => ∃ (x : V), σ' = [some (.ref wa), some (.ref fa), some (.ref oa), some (.int k0), some (.int ow), some (.int W), some (.int c), some (.str Z), some (.ref ca), some (.int ((k0 + 1 + i : Nat) : Int)), some (.ref ra), some (.int (if 0 > c + ((Z.length : Nat) : Int) - W then 0 else c + ((Z.length : Nat) : Int) - W))] ∧ Same H H3 ∧ H3 ca = some (.lst (vs' ++ [x])) ∧
        DpAll K H3 (vs' ++ [x]) ((L ++ [(ow, z ++ w') :: R]).map fun R => M32.tD (M32.val W left c R))) (fun σ' H3 hR => ?_) (fun nx => ?_)
      rotate_left
      · have lvs : vs'.length = i := by
          have := DpAll.length dL
          rw [List.length_map, lL] at this
          exact this
        refine ⟨_, rfl, .inl ⟨rfl, _, .of hc2⟩, _, rfl, _, rfl, ra, _, 0, _, rfl, rfl, hra, rfl, _, _, rfl, rfl, _, rfl, ra, _, 1, _, rfl, rfl, hra, rfl, _, _, rfl, rfl, ?_⟩
        obtain ⟨O, hO⟩ : ∃ O : Int, O = (if 0 > c + ((Z.length : Nat) : Int) - W then 0 else c + ((Z.length : Nat) : Int) - W) := ⟨_, rfl⟩
        rw [← hO] at hval nx ⊢
        have fin : ∀ (y : Addr) (H4 : Hp), Same H2 H4 → Dp K H4 (.ref y) (.tuple (((ow, z ++ w') :: R).map M32.rD)) → ∀ p, H4 p = none →
            upd H4 p (.tup [.int (O + (M32.sums W left R).1), .int (1 + (M32.sums W left R).2.1), .ref y]) ca = some (.lst vs') ∧ Same H (upd (upd H4 p (.tup [.int (O + (M32.sums W left R).1), .int (1 + (M32.sums W left R).2.1), .ref y])) ca (.lst (vs' ++ [.ref p]))) ∧
            DpAll K (upd (upd H4 p (.tup [.int (O + (M32.sums W left R).1), .int (1 + (M32.sums W left R).2.1), .ref y])) ca (.lst (vs' ++ [.ref p]))) (vs' ++ [.ref p]) ((L ++ [(ow, z ++ w') :: R]).map fun R => M32.tD (M32.val W left c R)) := fun y H4 s4 dy p hp => by
          have sp := same_new (o := .tup [.int (O + (M32.sums W left R).1), .int (1 + (M32.sums W left R).2.1), .ref y]) hp
          have s5 := s4.trans sp
          have k5 := s5 _ _ hc2
          refine ⟨k5, same_updD hca (s2.trans s5), ?_⟩
          rw [List.map_append]
          have dn : Dp K (upd H4 p (.tup [.int (O + (M32.sums W left R).1), .int (1 + (M32.sums W left R).2.1), .ref y])) (.ref p) (M32.tD (M32.val W left c ((ow, z ++ w') :: R))) := by
            rw [hval]
            exact .tup (.of upd_same) (.cons (.int _) (.cons (.int _) (.cons (Dp.same sp dy) .nil)))
          have eL : L.map (fun R => M32.tD (M32.val W left c R)) = (L.map fun R => M32.val W left c R).map M32.tD := by
            rw [List.map_map]
            rfl
          refine DpAll.append (DpAll.updD (.lst k5) (DpAll.same s5 dL) ?_) (.cons (Dp.updD (.lst k5) dn (tD_noL _)) .nil)
          rw [eL]
          exact tDs_noL _
        have lapp : vs'.length < sizeLine := Nat.lt_of_le_of_lt (m := 100) (by omega) (by decide)
        refine ⟨_, rfl, _, rfl, (by show 2 ≤ sizeLine; decide), fun t1 ht1 => ⟨(by show 1 ≤ sizeLine; decide), fun t2 ht2 => ?_⟩⟩
        have s3 := same_new (o := .tup [.int ow, .str Z]) ht1
        have s4 := same_new (o := .tup [.ref t1]) ht2
        have s34 := s3.trans s4
        have dr1 : Dp K (upd (upd H2 t1 (.tup [.int ow, .str Z])) t2 (.tup [.ref t1])) (.ref t1) (M32.rD (ow, z ++ w')) := by
          unfold M32.rD M32.zD
          rw [← hZ]
          exact .tup (Same.seqT s4 (.of upd_same)) (.cons (.int _) (.cons (.str _) .nil))
        have sq2 : SqT K (upd (upd H2 t1 (.tup [.int ow, .str Z])) t2 (.tup [.ref t1])) t2 [.ref t1] := .of upd_same
        have hra4 := Same.seqT s34 hra
        have hrr4 := Same.seqT s34 hrr
        have hrx4 := DpAll.same s34 hrx
        generalize upd (upd H2 t1 (.tup [.int ow, .str Z])) t2 (.tup [.ref t1]) = H4 at s34 dr1 sq2 hra4 hrr4 hrx4 ⊢
        refine ⟨_, rfl, ra, _, 2, _, rfl, rfl, hra4, rfl, t2, rr, [.ref t1], rxs, rfl, rfl, sq2, hrr4, ?_, (fun h => by cases h), fun _ h0 => ?_, fun _ _ q hq' => ?_⟩
        · rw [lrx]
          exact Nat.le_trans (m := 100) (by show 1 + R.length ≤ 100; omega) (by decide)
        · have e0 : R = [] := List.eq_nil_of_length_eq_zero (by rw [← lrx, h0]; rfl)
          refine ⟨(by show 3 ≤ sizeLine; decide), fun p hp => ?_⟩
          obtain ⟨f1, f2, f3⟩ := fin t2 H4 s34 (by rw [e0]; exact .tup sq2 (.cons dr1 .nil)) p hp
          exact ⟨ca, vs', .ref p, rfl, rfl, f1, lapp, nx _ _ ⟨.ref p, rfl, f2, upd_same, f3⟩⟩
        · have sq := same_new (o := .tup ([V.ref t1] ++ rxs)) hq'
          refine ⟨(by show 3 ≤ sizeLine; decide), fun p hp => ?_⟩
          obtain ⟨f1, f2, f3⟩ := fin q _ (s34.trans sq) (.tup (.of upd_same) (.cons (Dp.same sq dr1) (DpAll.same sq hrx4))) p hp
          exact ⟨ca, vs', .ref p, rfl, rfl, f1, lapp, nx _ _ ⟨.ref p, rfl, f2, upd_same, f3⟩⟩
      obtain ⟨x, rfl, s3, hc3, dL3⟩ := hR
      have wf3 := wf.same s3
      refine ⟨_, rfl, _, rfl, _, _, rfl, .inl ⟨_, wf3.w, rfl⟩, _, _, .int _, .int _, rfl, rfl, _, rfl, ?_⟩
      rw [M32.eqv_int, lnm]
      cases hu' : ws.drop (k0 + 1 + i) with
      | nil =>
        have el : k0 + 1 + i = ws.length := by
          have := congrArg List.length hu'
          rw [List.length_drop] at this
          have e : ([] : List Str).length = 0 := rfl
          omega
        have R0 := r0 el
        rw [decide_eq_true (show (((k0 + 1 + i : Nat) : Int)) = ((ws.length : Nat) : Int) by omega)]
        refine iteT (iteT (nx _ _ ⟨_, _, _, _, _, rfl, s3, hc3, ?_⟩))
        have e1 : M32.gz (fs.drop (k0 + i)) (ws.drop (k0 + 1 + i)) = [] := by
          rw [hu']
          cases fs.drop (k0 + i) <;> rfl
        rw [eC, e1]
        show DpAll K H3 (vs' ++ [x]) ((L ++ [[(ow, z ++ w')]]).map _)
        rw [R0] at dL3
        exact dL3
      | cons u' us' =>
        obtain ⟨hw', hd'⟩ := drop_next hu'
        have lj := (List.getElem?_eq_some_iff.mp hw').1
        have lf : k0 + i < fs.length := by omega
        have hf' : fs[k0 + i]? = some fs[k0 + i] := List.getElem?_eq_getElem lf
        obtain ⟨f, hff⟩ : ∃ f, f = fs[k0 + i] := ⟨_, rfl⟩
        rw [← hff] at hf'
        have hdf : fs.drop (k0 + i) = f :: fs.drop (k0 + 1 + i) := by
          rw [List.drop_eq_getElem_cons lf, ← hff]
          congr 2
          omega
        have rI' := rI u' us' hu'
        have hFR := isF rI'
        have eG : M32.gz (fs.drop (k0 + i)) (ws.drop (k0 + 1 + i)) = (M32.gapS f, u'.cps.toList) :: M32.gz (fs.drop (k0 + 1 + i)) us' := by
          rw [hu', hdf]
          rfl
        rw [decide_eq_false (show ¬ (((k0 + 1 + i : Nat) : Int)) = ((ws.length : Nat) : Int) by omega)]
        refine iteF ?_
        have ek : ((k0 + 1 + i : Nat) : Int) - 1 = ((k0 + i : Nat) : Int) := by omega
        have aF : atI (fs.map optV) (((k0 + 1 + i : Nat) : Int) - 1) = some (optV f) := by
          rw [ek]
          exact atI_nat (by rw [List.getElem?_map, hf']; rfl)
        refine ⟨_, rfl, _, rfl, _, _, rfl, rfl, fa, _, _, optV f, rfl, rfl, wf3.f, aF, rfl, _, rfl, ?_⟩
        cases f with
        | none =>
          refine iteT (nx _ _ ⟨_, _, _, _, _, rfl, s3, hc3, ?_⟩)
          rw [eC, eG]
          show DpAll K H3 (vs' ++ [x]) ((L ++ [(ow, z ++ w') :: F u'.cps.toList (M32.gz (fs.drop (k0 + 1 + i)) us')]).map _)
          rw [hFR]
          exact dL3
        | some g =>
          have hdn : decide (optV (some g) = V.non) = false := by simp [optV]
          rw [hdn]
          refine iteF ?_
          have lg := wf.fo _ (List.mem_of_getElem? hf') g rfl
          have lu := wf.wo u' (List.mem_of_getElem? hw')
          refine ⟨_, rfl, _, rfl, _, rfl, _, _, rfl, rfl, fa, _, _, .str g, rfl, rfl, wf3.f, aF, _, _, rfl, rfl, Nat.le_trans (m := 1000) (by omega) (by decide), _, rfl, _, rfl, wa, _, _, .str u', rfl, rfl, wf3.w, atI_nat (by rw [List.getElem?_map, hw']; rfl), _, _, rfl, rfl, ?_, ?_⟩
          · rw [str_lapp]
            exact Nat.le_trans (m := 1000) (by omega) (by decide)
          · refine ⟨vs' ++ [x], L ++ [(ow, z ++ w') :: R], z ++ w' ++ g.cps.toList, u'.cps.toList, Z ++ g ++ u', _, _, _, rfl, s3, hc3, dL3, by rw [List.length_append, lL]; rfl, by omega, ?_, ?_, ?_⟩
            · rw [str_cps, str_cps, eZ]
            · rw [str_lapp, str_lapp]
              omega
            · have ed : ws.drop (k0 + 1 + (i + 1)) = us' := hd'
              have ef : fs.drop (k0 + (i + 1)) = fs.drop (k0 + 1 + i) := by
                congr 1
                omega
              rw [eC, eG, ed, ef, List.append_assoc]
              show L ++ (((ow, z ++ w') :: F u'.cps.toList (M32.gz (fs.drop (k0 + 1 + i)) us')) :: M32.CH F ow (z ++ w' ++ g.cps.toList) u'.cps.toList (M32.gz (fs.drop (k0 + 1 + i)) us')) = _
              rw [hFR]
              rfl
    · rintro σ H2 ⟨vs', L, z, w', Z, v9, v10, v11, rfl, s2, hc2, dL, lL, le, eZ, lZ, eC⟩
      omega
  · obtain ⟨v7, v9, v10, v11, vs', rfl, s2, hc2, dL⟩ := hR
    have g0 : M32.gz (fs.drop k0) us = M32.gz (fs.drop k0) us := rfl
    obtain ⟨G, hG⟩ : ∃ G, G = M32.gz (fs.drop k0) us := ⟨_, rfl⟩
    rw [← hG] at dL
    obtain ⟨R0, Rs, eR⟩ : ∃ R0 Rs, M32.CH F ow [] u.cps.toList G = R0 :: Rs := by
      cases G with
      | nil => exact ⟨_, _, rfl⟩
      | cons p r =>
        obtain ⟨f, u'⟩ := p
        exact ⟨_, _, rfl⟩
    rw [eR] at dL
    have eL : (R0 :: Rs).map (fun R => M32.tD (M32.val W left c R)) = M32.tD (M32.val W left c R0) :: (Rs.map (M32.val W left c)).map M32.tD := by
      rw [List.map_map]
      rfl
    rw [eL] at dL
    obtain ⟨m, hm, em, lm⟩ := M32.min_t (Rs.map (M32.val W left c)) (M32.val W left c R0) fun y hy => by
      have hy' : y ∈ (R0 :: Rs).map (M32.val W left c) := hy
      obtain ⟨R, _, rfl⟩ := List.mem_map.mp hy'
      exact M32.val_num
    have hm' : m ∈ (R0 :: Rs).map (M32.val W left c) := hm
    obtain ⟨R, hR, rfl⟩ := List.mem_map.mp hm'
    have dp : PyData.depthAll (M32.tD (M32.val W left c R0) :: (Rs.map (M32.val W left c)).map M32.tD) ≤ 60 := Nat.le_trans (tDs_depth (M32.val W left c R0 :: Rs.map (M32.val W left c))) (by decide)
    have al : PySem.W.AlikeAll (M32.tD (M32.val W left c R0) :: (Rs.map (M32.val W left c)).map M32.tD) := ⟨fun x hx y hy => by
      have hx' : x ∈ (M32.val W left c R0 :: Rs.map (M32.val W left c)).map M32.tD := hx
      have hy' : y ∈ (M32.val W left c R0 :: Rs.map (M32.val W left c)).map M32.tD := hy
      obtain ⟨a, _, rfl⟩ := List.mem_map.mp hx'
      obtain ⟨b, _, rfl⟩ := List.mem_map.mp hy'
      exact M32.alike_t a b, fun x hx => by
      have hx' : x ∈ (M32.val W left c R0 :: Rs.map (M32.val W left c)).map M32.tD := hx
      obtain ⟨a, _, rfl⟩ := List.mem_map.mp hx'
      intro z
      cases z⟩
    refine ⟨_, rfl, ca, _, _, _, rfl, .of hc2, dL, al, dp, fun y hy dy => ?_⟩
    rw [em] at dy
    refine hq y H' R s2 dy ?_
    rw [← hG]
    refine M32.CH_least (F := F) (fun u' q p e f s e' => ?_) (by rw [eR]; exact hR) fun q hq' => ?_
    · rw [hG] at e
      have lfu : (fs.drop k0).length = us.length := by
        have := congrArg List.length hd0
        rw [List.length_drop, List.length_cons] at this
        rw [List.length_drop]
        omega
      rw [e'] at e
      obtain ⟨u0, us0, h1, h2, h3⟩ := gz_split p lfu e
      have hd2 : ws.drop (k0 + 1 + p.length) = u0 :: us0 := by
        rw [← List.drop_drop, hd1]
        exact h1
      have lp : k0 + 1 + p.length < ws.length := (List.getElem?_eq_some_iff.mp (drop_next hd2).1).1
      obtain ⟨v, R1, _, _, _, _, rI⟩ := hfd (k0 + 1 + p.length) (by omega) (by omega)
      have rI' := rI u0 us0 hd2
      have e4 : (fs.drop k0).drop (p.length + 1) = fs.drop (k0 + 1 + p.length) := by
        rw [List.drop_drop]
        congr 1
        omega
      rw [h2, h3, e4, isF rI']
      exact rI'
    · rw [eR] at hq'
      exact lm _ (show M32.val W left c q ∈ (R0 :: Rs).map (M32.val W left c) from List.mem_map.mpr ⟨q, hq', rfl⟩)
end
end K33

namespace K33
open PySem PySem.Spec PyProof.Rows L2 Vk
/-! ### the law: all that is found -/
def spRows (K : PySem.W.Frag) : Sp := fun vs H Q _ => ∃ (wa fa : Addr) (ws : List Str) (fs : List (Option Str)) (W left st : Int), vs = [.ref wa, .ref fa, .int st, .int W, .int left] ∧ WF K H wa fa ws fs ∧
  ∀ oa H' fo, Same H H' → H' oa = some (.lst fo) → (∀ j, 0 < j → j ≤ ws.length → FdAt K H' W left st ws fs fo j) → Q (.ref oa) H'
theorem FdAt.updD {K : PySem.W.Frag} {H : Hp} {W left st : Int} {ws : List Str} {fs : List (Option Str)} {fo fo' : List V} {j : Nat} {p : Addr} {o : HO} (hp : NT H p) (h : FdAt K H W left st ws fs fo j) (e : fo'[j]? = fo[j]?) : FdAt K (upd H p o) W left st ws fs fo' j := let ⟨v, R, h1, h2, h3⟩ := h; ⟨v, R, e.trans h1, Dp.updD hp h2 (tD_noL _), h3⟩
section
variable {P : Program} {w : World} {K : PySem.W.Frag} {mg : Str → Option Value} {base : Heap} {k : Nat}
theorem ok_rows (T : Tx K mg) (G_l_least : FnOk P w K mg base CX0 k T.a_l_least T.d_l_least P_l_least (spLeast K)) : FnOk P w K mg base CX0 (k + 1) T.a_l_rows T.d_l_rows P_l_rows (spRows K) := by
  refine T.F_l_rows.ok sc_l_rows (fun vs H Q E h => ?_) (fun cdv A outer s H vs Q E hr h => ?_)
  · obtain ⟨wa, fa, ws, fs, W, left, st, rfl, _⟩ := h
    rfl
  obtain ⟨wa, fa, ws, fs, W, left, st, rfl, wf, hq⟩ := h
  refine ⟨_, (pss_cons (ps_set (i := 5) sc_l_rows.nd rfl (Or.inl rfl) (pe_callB call_len rfl T.z_len (by decide +kernel) (pa_cons (pv 0) pa_nil)))
(pss_cons (ps_set (i := 6) sc_l_rows.nd rfl (Or.inl rfl) (pe_op op_cat (pe_op op_rep (pe_lst (pa_cons pe_non pa_nil)) (pv 5)) (pe_lst (pa_cons (pe_tup (pa_cons pe_int (pa_cons pe_int (pa_cons (pe_tup pa_nil) pa_nil)))) pa_nil))))
(pss_cons (ps_for PassesOwn.never rfl (pi_range3 rfl T.z_range (pa_cons (pe_op op_sub (pv 5) pe_int) (pa_cons pe_int (pa_cons (pe_un un_neg pe_int) pa_nil)))) (pg_name (i := 7) sc_l_rows.nd rfl (Or.inl rfl))
(pss_one (ps_asg (pe_call G_l_least hr rfl T.m_l_least T.F_l_least.kp T.b_l_least .nil pass0 (pa_cons (pv 0) (pa_cons (pv 1) (pa_cons (pv 6) (pa_cons (pv 7) (pa_cons (pv 2) (pa_cons (pv 3) (pa_cons (pe_op op_add (pv 4) (pv 2)) pa_nil)))))))) (pg_sub (pv 6) (pv 7) set_list))))
(pss_one (ps_ret (pv 6)))))), ?_⟩
  have ln := wf.n
  have ll := wf.l
  have lnm : (ws.map V.str).length = ws.length := List.length_map _
  refine ⟨_, rfl, _, _, rfl, .inl ⟨_, wf.w, rfl⟩, ?_⟩
  rw [lnm]
  refine ⟨(by show 1 ≤ sizeLine; decide), fun p1 hp1 => ⟨_, rfl, p1, ((ws.length : Nat) : Int), [.non], rfl, rfl, upd_same, by omega, by omega, Nat.le_trans (m := 100) (by show 1 * ((ws.length : Nat) : Int).toNat ≤ 100; omega) (by decide), fun p2 hp2 => ?_⟩⟩
  have er : (List.replicate ((ws.length : Nat) : Int).toNat [V.non]).flatten = List.replicate ws.length V.non := by
    rw [Int.toNat_natCast]
    generalize ws.length = n
    induction n with
    | zero => rfl
    | succ n ih =>
      rw [List.replicate_succ, List.flatten_cons, ih, List.replicate_succ]
      rfl
  rw [er]
  have s2 : Same H (upd (upd H p1 (.lst [.non])) p2 (.lst (List.replicate ws.length V.non))) := (same_new hp1).trans (same_new hp2)
  have k2 : upd (upd H p1 (.lst [.non])) p2 (.lst (List.replicate ws.length V.non)) p2 = some (.lst (List.replicate ws.length V.non)) := upd_same
  generalize upd (upd H p1 (.lst [.non])) p2 (.lst (List.replicate ws.length V.non)) = H2 at s2 k2 ⊢
  refine ⟨(by show 0 ≤ sizeLine; decide), fun e0 he0 => ⟨(by show 3 ≤ sizeLine; decide), fun e1 he1 => ⟨(by show 1 ≤ sizeLine; decide), fun p3 hp3 => ?_⟩⟩⟩
  have s3 := same_new (o := .tup []) he0
  have s4 := same_new (o := .tup [.int 0, .int 0, .ref e0]) he1
  have s5 := same_new (o := .lst [.ref e1]) hp3
  have dz : Dp K (upd (upd (upd H2 e0 (.tup [])) e1 (.tup [.int 0, .int 0, .ref e0])) p3 (.lst [.ref e1])) (.ref e1) (M32.tD (M32.sums W left [])) := .tup (Same.seqT s5 (.of upd_same)) (.cons (.int _) (.cons (.int _) (.cons (.tup (Same.seqT (s4.trans s5) (.of upd_same)) .nil) .nil)))
  have s25 := s2.trans (s3.trans (s4.trans s5))
  have k5 := (s3.trans (s4.trans s5)) _ _ k2
  have k3 : upd (upd (upd H2 e0 (.tup [])) e1 (.tup [.int 0, .int 0, .ref e0])) p3 (.lst [.ref e1]) p3 = some (.lst [.ref e1]) := upd_same
  generalize upd (upd (upd H2 e0 (.tup [])) e1 (.tup [.int 0, .int 0, .ref e0])) p3 (.lst [.ref e1]) = H5 at dz s25 k5 k3 ⊢
  refine ⟨p2, p3, _, _, rfl, rfl, k5, k3, Nat.le_trans (m := 100) (by rw [List.length_replicate]; show ws.length + 1 ≤ 100; omega) (by decide), fun oa hoa => ?_⟩
  have s6 := same_new (o := .lst (List.replicate ws.length V.non ++ [V.ref e1])) hoa
  have s26 := s25.trans s6
  have dz6 := Dp.same s6 dz
  have hoa0 : H oa = none := by
    by_cases z : H oa = none
    · exact z
    · obtain ⟨o, ho⟩ := Option.ne_none_iff_exists'.mp z
      have := s25 oa o ho
      rw [hoa] at this
      cases this
  have k6 : upd H5 oa (.lst (List.replicate ws.length V.non ++ [V.ref e1])) oa = some (.lst (List.replicate ws.length V.non ++ [V.ref e1])) := upd_same
  generalize upd H5 oa (.lst (List.replicate ws.length V.non ++ [V.ref e1])) = H6 at s26 dz6 k6 ⊢
  refine ⟨_, rfl, _, _, rfl, rfl, _, rfl, ?_⟩
  have en : (((ws.length : Nat) : Int) - 1 - 0).toNat = ws.length - 1 := by omega
  refine ⟨_, 0, -1, ws.length - 1, rfl, ?_, ?_⟩
  · have := RgC.neg (i := ((ws.length : Nat) : Int) - 1) (j := 0) (by omega) (by omega) (by decide) (by decide)
    rw [en] at this
    exact this
  refine for_rangeC (lo := ((ws.length : Nat) : Int) - 1) (c := -1) (n := ws.length - 1) (fun i σ H' => ∃ (fo : List V) (v7 : Option V), σ = [some (.ref wa), some (.ref fa), some (.int st), some (.int W), some (.int left), some (.int ((ws.length : Nat) : Int)), some (.ref oa), v7] ∧ Same H H' ∧ H' oa = some (.lst fo) ∧ fo.length = ws.length + 1 ∧
    ∀ j, ws.length - 1 - i < j → j ≤ ws.length → FdAt K H' W left st ws fs fo j) ⟨_, none, rfl, s26, k6, by rw [List.length_append, List.length_replicate]; rfl, fun j h1 h2 => ?_⟩ ?_ ?_
  · obtain rfl : j = ws.length := by omega
    refine ⟨.ref e1, [], ?_, dz6, by decide, fun _ => rfl, fun u us h => ?_⟩
    · rw [List.getElem?_append_right (by rw [List.length_replicate]; exact Nat.le_refl _), List.length_replicate, Nat.sub_self]
      rfl
    · rw [List.drop_length] at h
      cases h
  · rintro i σ H7 hi ⟨fo, v7, rfl, s7, k7, lfo, hfd⟩
    have ei : ((ws.length : Nat) : Int) - 1 + ((i : Nat) : Int) * (-1) = ((ws.length - 1 - i : Nat) : Int) := by omega
    rw [ei]
    obtain ⟨j, hj⟩ : ∃ j, j = ws.length - 1 - i := ⟨_, rfl⟩
    rw [← hj] at hfd ⊢
    have lj : j < ws.length := by omega
    have hd : ws.drop j = ws[j] :: ws.drop (j + 1) := List.drop_eq_getElem_cons lj
    refine ⟨_, rfl, _, rfl, _, rfl, _, rfl, _, rfl, _, rfl, _, rfl, _, rfl, _, _, rfl, rfl, wa, fa, oa, ws, fs, fo, j, st, W, left, st, left + st, ws[j], ws.drop (j + 1), rfl, wf.same s7, .of k7, hd, fun j' h1 h2 => hfd j' h1 h2, fun v H8 R s8 dv isl => ?_⟩
    have k8 := s8 _ _ k7
    have lR : R.length ≤ 60 := by
      have h1 := RF_len _ _ _ _ R isl.1
      have h2 := gz_len (fs.drop j) (ws.drop (j + 1))
      have h3 : (ws.drop (j + 1)).length ≤ ws.length := by rw [List.length_drop]; omega
      omega
    refine ⟨_, rfl, _, rfl, oa, fo, (j : Int), j, rfl, rfl, k8, ?_, ?_⟩
    · unfold ixN
      rw [if_pos (by omega), if_pos (by omega), Int.toNat_natCast]
    · refine ⟨fo.set j v, _, rfl, same_updD hoa0 (s7.trans s8), upd_same, by rw [List.length_set]; exact lfo, fun j' h1 h2 => ?_⟩
      by_cases e : j' = j
      · subst e
        refine ⟨v, R, by rw [List.getElem?_set_self (by omega)], Dp.updD (.lst k8) (by rw [M32.sums_RF isl.1]; exact dv) (tD_noL _), lR, fun e => (by omega), fun u us h => ?_⟩
        rw [hd] at h
        cases h
        exact isl
      · exact FdAt.updD (.lst k8) ((hfd j' (by omega) h2).same s8) (List.getElem?_set_ne (fun z => e z.symm))
  · rintro σ H7 ⟨fo, v7, rfl, s7, k7, lfo, hfd⟩
    exact ⟨_, rfl, hq oa H7 fo s7 k7 fun j h1 h2 => hfd j (by omega) h2⟩
end
end K33

namespace K33
open PySem PySem.Spec PyProof.Rows L2 Vk
/-! ### the law: what is due -/
def spDueG (K : PySem.W.Frag) : Sp := fun vs H Q _ => ∃ (wa fa : Addr) (u : Str) (us : List Str) (fs : List (Option Str)) (W left st col : Int), vs = [.ref wa, .ref fa, .int st, .int W, .int col, .int left] ∧ WF K H wa fa (u :: us) fs ∧
  ∀ v H' R, Same H H' → Dp K H' v (M32.tD (M32.val W left col R)) → M32.IsL W left st col 0 [] u.cps.toList (M32.gz fs us) R → Q v H'
section
variable {P : Program} {w : World} {K : PySem.W.Frag} {mg : Str → Option Value} {base : Heap} {k : Nat}
theorem ok_dueG (T : Tx K mg) (G_l_rows : FnOk P w K mg base CX0 k T.a_l_rows T.d_l_rows P_l_rows (spRows K)) (G_l_least : FnOk P w K mg base CX0 k T.a_l_least T.d_l_least P_l_least (spLeast K)) : FnOk P w K mg base CX0 (k + 1) T.a_l_due T.d_l_due P_l_due (spDueG K) := by
  refine T.F_l_due.ok sc_l_due (fun vs H Q E h => ?_) (fun cdv A outer s H vs Q E hr h => ?_)
  · obtain ⟨wa, fa, u, us, fs, W, left, st, col, rfl, _⟩ := h
    rfl
  obtain ⟨wa, fa, u, us, fs, W, left, st, col, rfl, wf, hq⟩ := h
  refine ⟨_, (pss_cons (ps_set (i := 6) sc_l_due.nd rfl (Or.inl rfl) (pe_call G_l_rows hr rfl T.m_l_rows T.F_l_rows.kp T.b_l_rows .nil pass0 (pa_cons (pv 0) (pa_cons (pv 1) (pa_cons (pv 2) (pa_cons (pv 3) (pa_cons (pv 5) pa_nil)))))))
(pss_one (ps_ret (pe_call G_l_least hr rfl T.m_l_least T.F_l_least.kp T.b_l_least .nil pass0 (pa_cons (pv 0) (pa_cons (pv 1) (pa_cons (pv 6) (pa_cons pe_int (pa_cons pe_int (pa_cons (pv 3) (pa_cons (pv 4) pa_nil))))))))))), ?_⟩
  refine ⟨_, rfl, _, rfl, _, rfl, _, rfl, _, rfl, wa, fa, u :: us, fs, W, left, st, rfl, wf, fun oa H1 fo s1 h1 hfd => ?_⟩
  exact ⟨_, rfl, _, rfl, _, rfl, _, rfl, _, rfl, wa, fa, oa, u :: us, fs, fo, 0, 0, W, left, st, col, u, us, rfl, wf.same s1, .of h1, rfl, hfd, fun v H2 R s2 dv isl => hq v H2 R (s1.trans s2) dv isl⟩
end
end K33

namespace K33
open PySem PySem.Spec PyProof.Rows L2 Vk
/-! ### the law: the document of words -/
def WPl (s : Str) : Prop := M32.WOk s ∧ plainD (.str s) = true
def FPl (f : Option Str) : Prop := ∀ s, f = some s → (s.length ≤ 2 ∧ PyData.strOk s = true) ∧ plainD (.str s) = true
def spBuilt (K : PySem.W.Frag) (CN CD : Addr) (n : Nat) : Sp := fun vs H Q _ => ∃ (wa fa : Addr) (ws : List Str) (fs : List (Option Str)) (way : Nat), vs = [.ref wa, .ref fa, .int (way : Int)] ∧ SqL K H wa (ws.map V.str) ∧ SqL K H fa (fs.map optV) ∧ 1 ≤ ws.length ∧ ws.length ≤ n ∧ ws.length ≤ 40 ∧ ws.length ≤ fs.length + 1 ∧
  (∀ s ∈ ws, WPl s) ∧ (∀ f ∈ fs, FPl f) ∧ way ≤ 2 ∧ ∀ (v : Addr) H' t, Same H H' → DocIs K CN CD H' v t [] → M32.Bt t ws (fs.take (ws.length - 1)) → Q (.ref v) H'
theorem cut_take (xs : List V) (c : Nat) (h : c ≤ xs.length) : cutV xs none (some (c : Int)) = xs.take c := by
  unfold cutV
  rw [HT.sIx_none, HT.sIx_nat, List.drop_zero, Nat.sub_zero, Nat.min_eq_left h]
theorem cut_drop (xs : List V) (c : Nat) (h : c ≤ xs.length) : cutV xs (some (c : Int)) none = xs.drop c := by
  unfold cutV
  rw [HT.sIx_none, HT.sIx_nat, Nat.min_eq_left h]
  refine List.take_of_length_le ?_
  rw [List.length_drop]
  exact Nat.le_refl _
theorem one0 {K : PySem.W.Frag} {CN CD : Addr} {H : Hp} {f : Nd → Nd} {s : Nd} {c : Addr} {out : List Str} (D : DocIs K CN CD H c (f s) out) (g : GS [] [[]] out) : DocIs K CN CD H c (f s) [] := by
  rw [gs_end (gs_keep (.inl rfl) g)] at D
  exact D
theorem small40 {t : Nd} {n : Nat} (h : M32.Small t n) (ln : n ≤ 40) : t.ways.1 ≤ 2 ^ 40 := Int.le_trans h.w1.2 (by
  have : (2 : Nat) ^ n ≤ 2 ^ 40 := Nat.pow_le_pow_right (by decide) ln
  have e : ((2 ^ n : Nat) : Int) ≤ ((2 ^ 40 : Nat) : Int) := Int.ofNat_le.mpr this
  simpa using e)
theorem small_mul {a b : Nd} {i : Nat} (ha : M32.Small a i) (hb : 0 ≤ b.ways.1 ∧ b.ways.1 ≤ 2) (ln : i + 1 ≤ 40) : (Nd.jn a b).ways.1 ≤ 2 ^ 40 := by
  have h1 := ha.w1
  have h2 : a.ways.1 * b.ways.1 ≤ 2 ^ i * 2 := Int.mul_le_mul h1.2 hb.2 hb.1 (by omega)
  have h3 : (2 : Int) ^ i * 2 = 2 ^ (i + 1) := (Int.pow_succ _ _).symm
  have h4 : (2 : Nat) ^ (i + 1) ≤ 2 ^ 40 := Nat.pow_le_pow_right (by decide) ln
  have e : ((2 ^ (i + 1) : Nat) : Int) ≤ ((2 ^ 40 : Nat) : Int) := Int.ofNat_le.mpr h4
  have e' : (2 : Int) ^ (i + 1) ≤ 2 ^ 40 := by simpa using e
  show a.ways.1 * b.ways.1 ≤ 2 ^ 40
  omega
theorem small_mul2 {a b : Nd} {i : Nat} (ha : M32.Small a i) (hb : 0 ≤ b.ways.1 ∧ b.ways.1 ≤ 2) (ln : i + 1 ≤ 40) : (Nd.jn b a).ways.1 ≤ 2 ^ 40 := by
  have := small_mul ha hb ln
  show b.ways.1 * a.ways.1 ≤ _
  rw [Int.mul_comm]
  exact this
section
variable {P : Program} {w : World} {K : PySem.W.Frag} {mg : Str → Option Value} {base : Heap} {k : Nat}
theorem ok_built_step (T : Tx K mg) (n : Nat) (G_l_built : FnOk P w K mg base CX0 k T.a_l_built T.d_l_built P_l_built (spBuilt K T.C_Node T.C_Doc n)) (G_text : FnOk P w K mg base CX0 k T.a_text T.d_text P_text (spLeaf K T.C_Node T.C_Doc isTxt)) (G_line : FnOk P w K mg base CX0 k T.a_line T.d_line P_line (spLeaf K T.C_Node T.C_Doc isBrk))
    (G_Doc_group : FnOk P w K mg base CX0 k T.a_Doc_group T.d_Doc_group P_Doc_group (spOne K T.C_Node T.C_Doc .gr)) (G_Doc_add : FnOk P w K mg base CX0 k T.a_Doc_add T.d_Doc_add P_Doc_add (spTwo K T.C_Node T.C_Doc .jn)) (G_joined : FnR P w K mg base CX0 k T.a_joined (spJoined K T.C_Node T.C_Doc)) :
    FnOk P w K mg base CX0 (k + 1) T.a_l_built T.d_l_built P_l_built (spBuilt K T.C_Node T.C_Doc (n + 1)) := by
  refine T.F_l_built.ok sc_l_built (fun vs H Q E h => ?_) (fun cdv A outer s H vs Q E hr h => ?_)
  · obtain ⟨wa, fa, ws, fs, way, rfl, _⟩ := h
    rfl
  obtain ⟨wa, fa, ws, fs, way, rfl, hw, hf, l1, ln, l40, lf, wo, fo, lw, hq⟩ := h
  refine ⟨_, (pss_cons (ps_if (pt_cmpR (op_eqD hr.units) (pe_callB call_len rfl T.z_len (by decide +kernel) (pa_cons (pv 0) pa_nil)) pe_int (nomark _))
(pss_one (ps_ret (pe_call G_text hr rfl T.m_text T.F_text.kp T.b_text .nil pass0 (pa_cons (pe_ix ix_list (pv 0) pe_int (fun _ _ => rfl)) pa_nil))))
pss_nil)
(pss_cons (ps_set (i := 3) sc_l_built.nd rfl (Or.inl rfl) (pe_ix ix_list (pe_lst (pa_cons (pe_op op_sub (pe_callB call_len rfl T.z_len (by decide +kernel) (pa_cons (pv 0) pa_nil)) pe_int) (pa_cons pe_int (pa_cons (pe_op op_fdiv (pe_callB call_len rfl T.z_len (by decide +kernel) (pa_cons (pv 0) pa_nil)) pe_int) pa_nil)))) (pv 2) (fun _ _ => rfl)))
(pss_cons (ps_par (i := 4) (j := 5) rfl sc_l_built.nd rfl rfl (by decide) rfl rfl (pa_cons (pe_call G_l_built hr rfl T.m_l_built T.F_l_built.kp T.b_l_built .nil pass0 (pa_cons (pe_slice sl_list (pv 0) po_none (po_some (pv 3))) (pa_cons (pv 1) (pa_cons (pv 2) pa_nil)))) (pa_cons (pe_call G_l_built hr rfl T.m_l_built T.F_l_built.kp T.b_l_built .nil pass0 (pa_cons (pe_slice sl_list (pv 0) (po_some (pv 3)) po_none) (pa_cons (pe_slice sl_list (pv 1) (po_some (pv 3)) po_none) (pa_cons (pv 2) pa_nil)))) pa_nil)) rfl)
(pss_cons (ps_set (i := 6) sc_l_built.nd rfl (Or.inl rfl) (pe_meth0 (pe_call G_line hr rfl T.m_line T.F_line.kp T.b_line .nil pass0 (pa_cons (pe_ix ix_list (pv 1) (pe_op op_sub (pv 3) pe_int) (fun _ _ => rfl)) pa_nil)) T.cls_Doc T.me_Doc_group G_Doc_group hr T.b_Doc_group .nil pass0))
(pss_cons (ps_if (pt_cmpR (op_eqD hr.units) (pv 2) pe_int (nomark _))
(pss_one (ps_ret (pe_op (op_own G_Doc_add hr T.b_Doc_add pass0 T.so_Doc T.me_Doc_add.at_ T.me_Doc_add.fn) (pv 4) (pe_op (op_own G_Doc_add hr T.b_Doc_add pass0 T.so_Doc T.me_Doc_add.at_ T.me_Doc_add.fn) (pv 6) (pv 5)))))
pss_nil)
(pss_one (ps_ret (pe_callR G_joined hr rfl T.m_joined T.F_joined.kp pass0 (pa_cons (pv 4) (pa_cons (pv 6) (pa_cons (pv 5) pa_nil))))))))))), ?_⟩
  have lnm : (ws.map V.str).length = ws.length := List.length_map _
  refine ⟨_, rfl, _, _, rfl, .inl ⟨_, hw, rfl⟩, _, _, .int _, .int _, rfl, rfl, decide (ws.length = 1), ?_, ?_⟩
  · rw [lnm, M32.eqv_int]
    have e : (((ws.length : Nat) : Int) = 1) ↔ ws.length = 1 := ⟨fun h => by omega, fun h => by omega⟩
    rw [decide_eq_decide.mpr e]
  by_cases c1 : ws.length = 1
  · rw [decide_eq_true c1]
    obtain ⟨u, rfl⟩ : ∃ u, ws = [u] := by
      match ws, c1 with
      | [u], _ => exact ⟨u, rfl⟩
    have hu1 := wo u (List.mem_cons_self ..)
    refine iteT ⟨_, rfl, wa, _, 0, _, rfl, rfl, hw, rfl, .str u, .txt u, rfl, ⟨u, rfl, rfl, hu1.2, Nat.le_trans hu1.1.1 (by decide)⟩, fun c out H' s' D g => ?_⟩
    rw [gs_end g] at D
    exact hq c H' _ s' D .one
  rw [decide_eq_false c1]
  refine iteF ?_
  -- the cut
  obtain ⟨c, hc, c0, cn⟩ : ∃ c : Nat, atI [V.int (((ws.length : Nat) : Int) - 1), .int 1, .int (((ws.length : Nat) : Int) / 2)] ((way : Nat) : Int) = some (.int (c : Int)) ∧ 1 ≤ c ∧ c < ws.length := by
    match way, lw with
    | 0, _ => exact ⟨ws.length - 1, by show some _ = some _; congr 2; omega, by omega, by omega⟩
    | 1, _ => exact ⟨1, rfl, by omega, by omega⟩
    | 2, _ => exact ⟨ws.length / 2, by show some _ = some _; congr 2, by omega, by omega⟩
  have lwl : LenV K (.ref wa) H ws.length := .inl ⟨_, hw, lnm.symm⟩
  refine ⟨_, rfl, _, ws.length, rfl, lwl, _, _, rfl, rfl, _, rfl, _, ws.length, rfl, lwl, _, _, rfl, rfl, (by unfold CDiv; omega), (by show 3 ≤ sizeLine; decide), fun p0 hp0 => ⟨_, rfl, p0, _, _, .int (c : Int), rfl, rfl, .of upd_same, hc, ?_⟩⟩
  have s0 := same_new (o := .lst [V.int (((ws.length : Nat) : Int) - 1), .int 1, .int (((ws.length : Nat) : Int) / 2)]) hp0
  have hw0 := s0.seq hw
  have hf0 := s0.seq hf
  generalize upd H p0 _ = H0 at s0 hw0 hf0 ⊢
  have ltk : (ws.take c).length = c := by rw [List.length_take]; omega
  have ldr : (ws.drop c).length = ws.length - c := List.length_drop ..
  have lfk : c - 1 < fs.length := by omega
  obtain ⟨f, hff⟩ : ∃ f, f = fs[c - 1] := ⟨_, rfl⟩
  have hfm : f ∈ fs := by rw [hff]; exact List.getElem_mem lfk
  have hfx : fs[c - 1]? = some f := by rw [hff]; exact List.getElem?_eq_getElem lfk
  have efs : fs.take (ws.length - 1) = fs.take (c - 1) ++ f :: (fs.drop c).take (ws.length - c - 1) := by
    have e1 : ws.length - 1 = (c - 1) + (ws.length - c) := by omega
    have e2 : ws.length - c = (ws.length - c - 1) + 1 := by omega
    rw [e1, List.take_add, List.drop_eq_getElem_cons lfk, ← hff, e2, List.take_succ_cons]
    have e3 : c - 1 + 1 = c := by omega
    rw [e3, Nat.add_sub_cancel]
  -- left, right
  unfold tNoPart
  refine ⟨_, rfl, _, rfl, (c : Int), rfl, wa, _, rfl, hw0, fun p1 hp1 => ?_⟩
  rw [cut_take _ _ (by rw [lnm]; omega), ← List.map_take]
  have s1 := same_new (o := .lst ((ws.take c).map V.str)) hp1
  have k1 : SqL K (upd H0 p1 (.lst ((ws.take c).map V.str))) p1 ((ws.take c).map V.str) := .of upd_same
  have hf1 := s1.seq hf0
  have hw1 := s1.seq hw0
  generalize upd H0 p1 _ = H1 at s1 k1 hf1 hw1 ⊢
  refine ⟨_, rfl, _, rfl, p1, fa, ws.take c, fs, way, rfl, k1, hf1, by omega, by omega, by omega, by omega, fun s hs => wo s (List.mem_of_mem_take hs), fo, lw, fun v1 H2 t1 s2 D1 b1 => ?_⟩
  have hw2 := s2.seq hw1
  have hf2 := s2.seq hf1
  refine ⟨_, rfl, _, rfl, (c : Int), rfl, wa, _, rfl, hw2, fun p2 hp2 => ?_⟩
  rw [cut_drop _ _ (by rw [lnm]; omega), ← List.map_drop]
  have s3 := same_new (o := .lst ((ws.drop c).map V.str)) hp2
  have k3 : SqL K (upd H2 p2 (.lst ((ws.drop c).map V.str))) p2 ((ws.drop c).map V.str) := .of upd_same
  have hf3 := s3.seq hf2
  have D13 := D1.same s3
  generalize upd H2 p2 _ = H3 at s3 k3 hf3 D13 ⊢
  refine ⟨_, rfl, _, rfl, (c : Int), rfl, fa, _, rfl, hf3, fun p3 hp3 => ?_⟩
  have lfm : (fs.map optV).length = fs.length := List.length_map _
  rw [cut_drop _ _ (by rw [lfm]; omega), ← List.map_drop]
  have s4 := same_new (o := .lst ((fs.drop c).map optV)) hp3
  have k4 := s4.seq k3
  have kf4 : SqL K (upd H3 p3 (.lst ((fs.drop c).map optV))) p3 ((fs.drop c).map optV) := .of upd_same
  have hf4 := s4.seq hf3
  have D14 := D13.same s4
  generalize upd H3 p3 _ = H4 at s4 k4 kf4 hf4 D14 ⊢
  refine ⟨_, rfl, p2, p3, ws.drop c, fs.drop c, way, rfl, k4, kf4, by omega, by omega, by omega, by rw [List.length_drop, List.length_drop]; omega, fun s hs => wo s (List.mem_of_mem_drop hs), fun g hg => fo g (List.mem_of_mem_drop hg), lw, fun v2 H5 t2 s5 D2 b2 => ⟨_, _, rfl, ?_⟩⟩
  rw [ltk] at b1
  rw [ldr] at b2
  have D15 := D14.same s5
  have hf5 := s5.seq hf4
  have s05 : Same H H5 := s0.trans (s1.trans (s2.trans (s3.trans (s4.trans s5))))
  have woW : ∀ s ∈ ws, M32.WOk s := fun s hs => (wo s hs).1
  have foW : ∀ g ∈ fs, M32.FOk g := fun g hg s e => (fo g hg s e).1
  have sm1 := b1.small (fun s hs => woW s (List.mem_of_mem_take hs)) fun g hg => foW g (List.mem_of_mem_take hg)
  have sm2 := b2.small (fun s hs => woW s (List.mem_of_mem_drop hs)) fun g hg => foW g (List.mem_of_mem_drop (List.mem_of_mem_take hg))
  have l1' : (fs.take (c - 1)).length = c - 1 := by rw [List.length_take]; omega
  have l2' : ((fs.drop c).take (ws.length - c - 1)).length = ws.length - c - 1 := by rw [List.length_take, List.length_drop]; omega
  rw [l1'] at sm1
  rw [l2'] at sm2
  obtain ⟨g1, g2, g3⟩ := M32.gr_ways f
  -- the gap
  have ek : ((c : Nat) : Int) - 1 = ((c - 1 : Nat) : Int) := by omega
  have aF : atI (fs.map optV) (((c : Nat) : Int) - 1) = some (optV f) := by
    rw [ek]
    exact atI_nat (by rw [List.getElem?_map, hfx]; rfl)
  have isb : isBrk (optV f) (.brk f) := by
    cases hf' : f with
    | none => exact .inl ⟨rfl, rfl⟩
    | some s =>
      have q := fo f hfm s hf'
      exact .inr ⟨s, rfl, rfl, q.2, Nat.le_trans q.1.1 (by decide)⟩
  refine nxI ?_
  refine ⟨_, rfl, _, rfl, _, _, rfl, rfl, fa, _, _, optV f, rfl, rfl, hf5, aF, optV f, .brk f, rfl, isb, fun c1 out H6 s6 D6 g6 => ?_⟩
  have D6' : DocIs K T.C_Node T.C_Doc H6 c1 (.brk f) [] := by
    rw [gs_end g6] at D6
    exact D6
  obtain ⟨⟨pg, ⟨dg, hg⟩, ng⟩⟩ := id D6'
  have wb : (Nd.brk f).ways.1 ≤ 2 ^ 40 := by
    cases f with
    | none => decide
    | some s => exact (show (1 : Int) ≤ 2 ^ 40 by decide)
  refine ⟨c1, dg, _, rfl, hg, rfl, c1, .brk f, [], rfl, D6', fit0 wb, fun c2 out2 H7 s7 D7 g7 => ?_⟩
  have D7' := one0 D7 g7
  have s67 := s6.trans s7
  have D17 := D15.same s67
  have D27 := D2.same s67
  have s07 := s05.trans s67
  have gb : 0 ≤ (Nd.gr (.brk f)).ways.1 ∧ (Nd.gr (.brk f)).ways.1 ≤ 2 := by omega
  have gb40 : (Nd.gr (.brk f)).ways.1 ≤ 2 ^ 40 := Int.le_trans gb.2 (by decide)
  have w1 := small40 sm1 (by omega)
  have w2 := small40 sm2 (by omega)
  refine ⟨_, rfl, _, _, .int _, .int _, rfl, rfl, _, rfl, ite2 (fun _ => ?_) (fun _ => ?_)⟩
  · refine ⟨_, rfl, _, rfl, _, rfl, two0 D7' D27 gb40 w2 fun x H8 s8 D8 => two0 (D17.same s8) D8 w1 (small_mul2 sm2 gb (by omega)) fun y H9 s9 D9 => hq y H9 _ (s07.trans (s8.trans s9)) D9 ?_⟩
    rw [efs]
    have := M32.Bt.right (f := f) b1 b2
    rw [List.take_append_drop] at this
    exact this
  · refine ⟨_, rfl, _, rfl, _, rfl, rfl, fun p hp => ?_⟩
    have sp := same_new (o := .tup [V.ref v1, .ref c2, .ref v2]) hp
    refine ⟨p, v1, c2, v2, t1, .gr (.brk f), t2, rfl, .of upd_same, D17.same sp, D7'.same sp, D27.same sp, w1, gb40, w2, small_mul sm1 gb (by omega), fun y H9 s9 D9 => hq y H9 _ (s07.trans (sp.trans s9)) D9 ?_⟩
    rw [efs]
    have := M32.Bt.left (f := f) b1 b2
    rw [List.take_append_drop] at this
    exact this
theorem ok_built0 (T : Tx K mg) : FnOk P w K mg base CX0 k T.a_l_built T.d_l_built P_l_built (spBuilt K T.C_Node T.C_Doc 0) :=
  ⟨fun vs H Q E h => by obtain ⟨_, _, _, _, _, rfl, _⟩ := h; rfl, fun A outer s H args us vs Q E _ _ _ _ h => by
    obtain ⟨_, _, _, _, _, _, _, _, h1, h2, _⟩ := h
    omega⟩
theorem ok_built (T : Tx K mg) (G_text : FnOk P w K mg base CX0 k T.a_text T.d_text P_text (spLeaf K T.C_Node T.C_Doc isTxt)) (G_line : FnOk P w K mg base CX0 k T.a_line T.d_line P_line (spLeaf K T.C_Node T.C_Doc isBrk))
    (G_Doc_group : FnOk P w K mg base CX0 k T.a_Doc_group T.d_Doc_group P_Doc_group (spOne K T.C_Node T.C_Doc .gr)) (G_Doc_add : FnOk P w K mg base CX0 k T.a_Doc_add T.d_Doc_add P_Doc_add (spTwo K T.C_Node T.C_Doc .jn)) (G_joined : FnR P w K mg base CX0 k T.a_joined (spJoined K T.C_Node T.C_Doc)) :
    ∀ n : Nat, FnOk P w K mg base CX0 (k + n) T.a_l_built T.d_l_built P_l_built (spBuilt K T.C_Node T.C_Doc n)
  | 0 => ok_built0 T
  | n + 1 => ok_built_step (k := k + n) T n (ok_built T G_text G_line G_Doc_group G_Doc_add G_joined n) (G_text.mono (Nat.le_add_right _ _)) (G_line.mono (Nat.le_add_right _ _)) (G_Doc_group.mono (Nat.le_add_right _ _)) (G_Doc_add.mono (Nat.le_add_right _ _)) (G_joined.mono (Nat.le_add_right _ _))
end
end K33

namespace PySem.W
open PySem
section
variable {prog : Program} {w : World} {A : Around} {s : Shared} {E : Value → Shared → Prop}
theorem call_min_twoH {a b : Value} {Q : Value → Shared → Prop}
    (h : wpAny (model prog w) A.in1 (pyIter (.ref s.heap.objs.size)) (fun it s₂ => ∃ I fp wr G n P St H bt, it = .ref I ∧ WalksS prog w A.in1 I fp wr G n P St ∧ St 0 s₂ ∧ (∀ b ∈ fp, b < s₂.heap.objs.size) ∧ 0 < n ∧
      (∀ b o, H.get? b = some o → b ∉ wr) ∧ (∀ b o, H.get? b = some o → s₂.heap.get? b = some o) ∧ CmpIn prog w A.in1 .Lt H P bt ∧ ∀ v s', P (argBest bt (n - 1)) v → Moved wr G s₂ s' → Q v s') E
      { s with heap := s.heap.push { cls := .type "tuple", data := .seq #[a, b] } }) :
    wpAny (model prog w) A (call (.builtin "min") [a, b]) Q E s := by
  have hname : (toString "min" ++ toString ".loop" : String) = "min.loop" := by decide
  refine call_function_tree F.kind_min F.plain_min F.entry_min (F.args_min2 _ _) ?_
  show wpAny _ A.in1 (Builtin.Builtins.bindParams "min" ["key", "default"] 0 ⟨[], []⟩ >>= _) _ _ s
  refine wpAny_bind (wpAny_of_eq (show Builtin.Builtins.bindParams "min" ["key", "default"] 0 ⟨[], []⟩ = pure [none, none] from rfl) ?_)
  show wpAny _ A.in1 (newTuple [a, b] >>= _) _ _ s
  refine wpAny_bind (wpAny_newObj_type ?_)
  refine wpAny_bind (wpAny_mono h (fun it s₂ h₂ => ?_) fun _ _ e => e)
  obtain ⟨I, fp, wr, G, n, P, St, H, bt, rfl, W, hst, hfp, hn, hw, hkeep, hcmp, hQ⟩ := h₂
  refine wpAny_bind (wpAny_newObj_type ?_)
  have hSf : s₂.heap.objs.size ∉ fp := fun hm => Nat.lt_irrefl _ (hfp _ hm)
  rw [hname]
  refine wpAny_pure ⟨plainId_quiet F.plain_min_loop _, codeAny_min_loop_firstH W H hw bt hcmp s₂.heap.objs.size hSf (fresh_in hkeep) _ hn (fun b o e => Heap.get?_push_of_some _ (hkeep b o e)) (W.frame 0 s₂ _ s₂.toks hst (Nat.le_refl _) fun b _ o e => Heap.get?_push_of_some _ e) (Heap.get?_push_size _ rfl) fun v s' hP hm => ?_⟩
  exact hQ v s' hP (Moved.drop_new (tk := s₂.toks) hm (Nat.le_refl _))
theorem min_two_data {va vb : Value} {x y : PyData} {as : List Addr} {Q : Value → Shared → Prop} (hh : A.handled = none) (hr : ReadsAll s.heap [va, vb] [x, y] as) (ha : AlikeAll [x, y]) (hu : A.units + 1 + PyData.depthAll [x, y] < cLine)
    (h : ∀ v h' tk bs, (v = va ∨ v = vb) → Reads h' v (minD x [y]) bs → (∀ b o, s.heap.get? b = some o → h'.get? b = some o) → Q v { s with heap := h', toks := tk }) :
    wpAny (model prog w) A (call (.builtin "min") [va, vb]) Q E s := by
  have hk0 : ∀ b o, s.heap.get? b = some o → (s.heap.push ({ cls := .type "tuple", data := .seq #[va, vb] } : Obj)).get? b = some o := fun b o e => Heap.get?_push_of_some _ e
  have hT : (s.heap.push ({ cls := .type "tuple", data := .seq #[va, vb] } : Obj)).IsTuple s.heap.objs.size #[va, vb] := ⟨_, Heap.get?_push_size _ rfl, rfl, 0, rfl⟩
  have hr1 : ReadsAll (s.heap.push ({ cls := .type "tuple", data := .seq #[va, vb] } : Obj)) (#[va, vb] : Array Value).toList [x, y] as := PyProof.Rows.ReadsAll.keeps hk0 hr
  refine call_min_twoH (iter_tupleW (A := A.in1) (s := { s with heap := s.heap.push { cls := .type "tuple", data := .seq #[va, vb] } }) hh hT fun s₂ e W st hfp hw hk => ?_)
  refine ⟨_, _, _, _, _, _, _, (s.heap.push ({ cls := .type "tuple", data := .seq #[va, vb] } : Obj)), _, rfl, W, st, hfp, (by show 0 < 2; decide), hw, hk, cmpIn_lt (s := { s with heap := s.heap.push { cls := .type "tuple", data := .seq #[va, vb] } }) (A := A.in1) hr1 ha (by show A.units + 1 + _ < _; exact hu), fun v s' hP m => ?_⟩
  obtain ⟨h', tk, rfl, hk'⟩ := moved_old e rfl m
  obtain ⟨bs, r, _, _, _⟩ := readsAll_atA hr1 _ v hP
  have e2 := (argBest_fold dataLt PyData.none x [y] 1 (Nat.le_refl _)).2
  have hv : v = va ∨ v = vb := by
    have hm : v ∈ (#[va, vb] : Array Value) := by
      obtain ⟨hi, e⟩ := Array.getElem?_eq_some_iff.mp hP
      rw [← e]
      exact Array.getElem_mem hi
    simpa using hm
  exact h v h' tk bs hv (reads_keeps hk' (by unfold minD; rw [show List.foldl _ x [y] = List.foldl _ x ([y].take 1) from rfl, ← e2]; exact r)) fun b o q => hk' b o (hk0 b o q)
end
end PySem.W
namespace Vk
open PySem PySem.Spec PyProof.Rows L2
def rMinD2 (K : PySem.W.Frag) : List V → Hp → VK → Prop := fun vs H Q => ∃ (x y : V) (d e : PyData), vs = [x, y] ∧ Dp K H x d ∧ Dp K H y e ∧ PySem.W.AlikeAll [d, e] ∧ PyData.depthAll [d, e] ≤ 60 ∧
  ∀ v, (v = x ∨ v = y) → Dp K H v (PySem.W.minD d [e]) → Q v H
/-- min of two that are alike -/
theorem cr_minD2 {X : Cx} (hc : X.calm = true) (hu : X.A.units + 64 < cLine) : CallR X (.builtin "min") (rMinD2 X.K) := by
  intro pins s σ H vs us Q I r h
  obtain ⟨x, y, d, e, rfl, hx, hy, al, dp, q⟩ := h
  obtain ⟨ux, _, rfl, rx, r⟩ := vals_in r
  obtain ⟨uy, _, rfl, ry, r⟩ := vals_in r
  cases r
  have rv : Vals [x, y] [ux, uy] := .cons rx (.cons ry .nil)
  obtain ⟨as, hr⟩ := Dp.readsAll I [d, e] [x, y] [ux, uy] (.cons hx (.cons hy .nil)) rv
  refine PySem.W.min_two_data (I.ok.hd hc) hr al (by omega) fun v h' tk bs hv rd hk => ?_
  have hm := minD_mem [e] d
  rcases hv with rfl | rfl
  · obtain ⟨cs, r1⟩ := Dp.reads I _ _ _ hx rx
    have e0 : d = PySem.W.minD d [e] := PySem.W.alike_unique _ _ _ cs bs (al.1 _ (List.mem_cons_self ..) _ hm) (PySem.W.reads_keeps hk r1) rd
    exact ⟨x, H, I.kept (t' := tk) hk, rx, q x (.inl rfl) (e0 ▸ hx)⟩
  · obtain ⟨cs, r1⟩ := Dp.reads I _ _ _ hy ry
    have e0 : e = PySem.W.minD d [e] := PySem.W.alike_unique _ _ _ cs bs (al.1 _ (List.mem_cons_of_mem _ (List.mem_cons_self ..)) _ hm) (PySem.W.reads_keeps hk r1) rd
    exact ⟨y, H, I.kept (t' := tk) hk, ry, q y (.inr rfl) (e0 ▸ hy)⟩
end Vk

namespace K33
open PySem PySem.Spec PyProof.Rows L2 Vk
/-! ### the law: pure parts -/
theorem words_ok : ∀ j : Fin 9, (let s := Txt.slice ("abcdefghi" : Str) none (some (1 + (j.val : Int))); decide (s.length ≤ 9) && PyData.strOk s && plainD (.str s)) = true := by decide +kernel
theorem word_pl {x : Int} (h0 : 0 ≤ x) (h1 : x < 9) : WPl (Txt.slice ("abcdefghi" : Str) none (some (1 + x))) := by
  have h := words_ok ⟨x.toNat, by omega⟩
  have e : ((x.toNat : Nat) : Int) = x := by omega
  simp only [e, Bool.and_eq_true, decide_eq_true_eq] at h
  exact ⟨⟨h.1.1, h.1.2⟩, h.2⟩
def flats0 : List (Option Str) := [some " ", some " ", some "", some ", ", none]
theorem flats_ok : flats0.all (fun f => match f with | none => true | some s => decide (s.length ≤ 2) && PyData.strOk s && plainD (.str s)) = true := by decide +kernel
theorem flat_pl {f : Option Str} (h : f ∈ flats0) : FPl f := fun s e => by
  subst e
  have q := List.all_eq_true.mp flats_ok _ h
  simp only [Bool.and_eq_true, decide_eq_true_eq] at q
  exact ⟨⟨q.1.1, q.1.2⟩, q.2⟩
/-- all flat, behind the first word -/
def gl : List (Option Str) → List Str → List Nat
  | some f :: fs, u :: us => f.cps.toList ++ u.cps.toList ++ gl fs us
  | _, _ => []
theorem flatS_all : ∀ (fs : List (Option Str)) (us : List Str) (w : List Nat), fs.length = us.length → none ∉ fs → M32.flatS w (M32.gz fs us) = some (w ++ gl fs us)
  | [], us, w, h, _ => by
    cases us with
    | nil =>
      show some w = some (w ++ [])
      rw [List.append_nil]
    | cons _ _ => cases h
  | none :: _, _, _, _, n => absurd (List.mem_cons_self ..) n
  | some _ :: _, [], _, h, _ => by cases h
  | some f :: fs, u :: us, w, h, n => by
    show (M32.flatS u.cps.toList (M32.gz fs us)).map _ = _
    rw [flatS_all fs us u.cps.toList (by simpa using h) fun z => n (List.mem_cons_of_mem _ z)]
    show some (w ++ f.cps.toList ++ (u.cps.toList ++ gl fs us)) = some (w ++ (f.cps.toList ++ u.cps.toList ++ gl fs us))
    simp [List.append_assoc]
theorem flatS_none : ∀ (fs : List (Option Str)) (us : List Str) (w : List Nat), fs.length = us.length → none ∈ fs → M32.flatS w (M32.gz fs us) = none
  | [], _, _, _, h => by cases h
  | none :: fs, [], _, h, _ => by cases h
  | none :: fs, u :: us, w, _, _ => rfl
  | some _ :: _, [], _, h, _ => by cases h
  | some f :: fs, u :: us, w, h, n => by
    show (M32.flatS u.cps.toList (M32.gz fs us)).map _ = _
    rw [flatS_none fs us u.cps.toList (by simpa using h) (by
      rcases List.mem_cons.mp n with n | n
      · cases n
      · exact n)]
    rfl
theorem none_in : ∀ fs : List (Option Str), inV .non (fs.map optV) = decide (none ∈ fs)
  | [] => rfl
  | f :: fs => by
    have ih := none_in fs
    unfold inV at ih ⊢
    rw [List.map_cons, List.any_cons, ih]
    cases f with
    | none => simp [optV, eqV]
    | some s => simp [optV, eqV]
theorem flats_flat : ∀ fs : List (Option Str), (fs.map optV).all flatV = true
  | [] => rfl
  | f :: fs => by
    rw [List.map_cons, List.all_cons, flats_flat fs]
    cases f <;> rfl
/-- signs of all lines are signs -/
theorem RF_ok {st : Int} : ∀ (r : M32.Gaps) (ow : Int) (z w : List Nat), (∀ c ∈ z, c < 0x110000) → (∀ c ∈ w, c < 0x110000) → (∀ g ∈ r, (∀ f, g.1 = some f → ∀ c ∈ f, c < 0x110000) ∧ ∀ c ∈ g.2, c < 0x110000) → ∀ q ∈ M32.RF st ow z w r, ∀ row ∈ q, ∀ c ∈ row.2, c < 0x110000
  | [], ow, z, w, hz, hw, _, q, hq, row, hr, c, hc => by
    rw [List.mem_singleton.mp hq] at hr
    rw [List.mem_singleton.mp hr] at hc
    exact (List.mem_append.mp hc).elim (hz c) (hw c)
  | (f, u) :: r, ow, z, w, hz, hw, hg, q, hq, row, hr, c, hc => by
    have hu := (hg _ (List.mem_cons_self ..)).2
    have hg' := fun g h => hg g (List.mem_cons_of_mem _ h)
    rcases List.mem_append.mp hq with hq | hq
    · obtain ⟨q', hq', rfl⟩ := List.mem_map.mp hq
      rcases List.mem_cons.mp hr with rfl | hr
      · exact (List.mem_append.mp hc).elim (hz c) (hw c)
      · exact RF_ok r st [] u (fun c h => (by cases h)) hu hg' q' hq' row hr c hc
    · cases f with
      | none => cases hq
      | some g =>
        have hf := (hg _ (List.mem_cons_self ..)).1 g rfl
        refine RF_ok r ow _ u (fun c h => ?_) hu hg' q hq row hr c hc
        rcases List.mem_append.mp h with h | h
        · exact (List.mem_append.mp h).elim (hz c) (hw c)
        · exact hf c h
theorem strOk_mem {s : Str} (h : PyData.strOk s = true) : ∀ c ∈ s.cps.toList, c < 0x110000 := fun c hc => by
  have q : s.cps.all (· < 0x110000) = true := h
  rw [Array.all_eq_true'] at q
  exact of_decide_eq_true (q c (by simpa using hc))
theorem gz_ok : ∀ (fs : List (Option Str)) (us : List Str), (∀ f ∈ fs, FPl f) → (∀ u ∈ us, WPl u) → ∀ g ∈ M32.gz fs us, (∀ f, g.1 = some f → ∀ c ∈ f, c < 0x110000) ∧ ∀ c ∈ g.2, c < 0x110000
  | [], _, _, _, g, h => by cases h
  | _ :: _, [], _, _, g, h => by cases h
  | f :: fs, u :: us, hf, hu, g, h => by
    rcases List.mem_cons.mp (show g ∈ (M32.gapS f, u.cps.toList) :: M32.gz fs us from h) with rfl | h
    · refine ⟨fun x e => ?_, strOk_mem (hu u (List.mem_cons_self ..)).1.2⟩
      cases f with
      | none => cases e
      | some s =>
        cases e
        exact strOk_mem (hf _ (List.mem_cons_self ..) s rfl).1.2
    · exact gz_ok fs us (fun f h => hf f (List.mem_cons_of_mem _ h)) (fun u h => hu u (List.mem_cons_of_mem _ h)) g h
/-- rows are laid -/
theorem rows_shaped {rs : List M32.Rw} (h : ∀ r ∈ rs, ∀ c ∈ r.2, c < 0x110000) : SeqAt.shaped (.tuple (rs.map M32.rD)) = true := by
  have e : rs.map M32.rD = (rs.map sRow).map rowD := by
    rw [List.map_map]
    rfl
  rw [e]
  have h1 := rows_lay (rs := rs.map sRow) fun r hr => by
    obtain ⟨q, hq, rfl⟩ := List.mem_map.mp hr
    exact strOk_of (h q hq)
  have h2 := rows_depth (rs.map sRow)
  unfold SeqAt.shaped
  rw [Bool.and_eq_true]
  constructor
  · exact h1
  · refine decide_eq_true ?_
    show PyData.depthAll ((rs.map sRow).map rowD) + 1 ≤ 64
    omega
/-- the least of a grouped document's lines -/
structure IsG (W left st col : Int) (w : List Nat) (r : M32.Gaps) (R : List M32.Rw) : Prop where
  a : R ∈ M32.RF st 0 [] w r ∨ ∃ z, M32.flatS w r = some z ∧ R = [(0, z)]
  b : ∀ q ∈ M32.RF st 0 [] w r, M32.leT (M32.val W left col R) (M32.val W left col q)
  c : ∀ z, M32.flatS w r = some z → M32.leT (M32.val W left col R) (M32.val W left col [(0, z)])
theorem leT_one {a b : M32.T} (h : M32.leT a b) (g : M32.leT b a) : a = b := by
  rcases h with h | h
  · exact h
  · rcases g with g | g
    · exact g.symm
    · exact absurd (h.trans g) (M32.ltT_irr _)
theorem IsG.one {W left st col : Int} {w : List Nat} {r : M32.Gaps} {R S : List M32.Rw} (h : IsG W left st col w r R) (g : IsG W left st col w r S) : R = S := by
  have le : ∀ {R S : List M32.Rw}, IsG W left st col w r R → IsG W left st col w r S → M32.leT (M32.val W left col R) (M32.val W left col S) := fun {R S} h g => by
    rcases g.a with q | ⟨z, e, rfl⟩
    · exact h.b S q
    · exact h.c z e
  exact congrArg (·.2.2) (leT_one (le h g) (le g h))
theorem flatS_ok : ∀ (r : M32.Gaps) (w : List Nat), (∀ c ∈ w, c < 0x110000) → (∀ g ∈ r, (∀ f, g.1 = some f → ∀ c ∈ f, c < 0x110000) ∧ ∀ c ∈ g.2, c < 0x110000) → ∀ z, M32.flatS w r = some z → ∀ c ∈ z, c < 0x110000
  | [], w, hw, _, z, e => by
    cases e
    exact hw
  | (none, _) :: _, _, _, _, _, e => by cases e
  | (some g, u) :: r, w, hw, hg, z, e => by
    have e' : (M32.flatS u r).map (fun z => w ++ g ++ z) = some z := e
    obtain ⟨y, hy, rfl⟩ := Option.map_eq_some_iff.mp e'
    have ih := flatS_ok r u (hg _ (List.mem_cons_self ..)).2 (fun g h => hg g (List.mem_cons_of_mem _ h)) y hy
    intro c hc
    rcases List.mem_append.mp hc with hc | hc
    · exact (List.mem_append.mp hc).elim (hw c) ((hg _ (List.mem_cons_self ..)).1 g rfl c)
    · exact ih c hc
theorem IsG.ok {W left st col : Int} {w : List Nat} {r : M32.Gaps} {R : List M32.Rw} (h : IsG W left st col w r R) (hw : ∀ c ∈ w, c < 0x110000) (hg : ∀ g ∈ r, (∀ f, g.1 = some f → ∀ c ∈ f, c < 0x110000) ∧ ∀ c ∈ g.2, c < 0x110000) : ∀ row ∈ R, ∀ c ∈ row.2, c < 0x110000 := by
  rcases h.a with q | ⟨z, e, rfl⟩
  · exact RF_ok r 0 [] w (fun c h => (by cases h)) hw hg R q
  · intro row hr
    rw [List.mem_singleton.mp hr]
    exact flatS_ok r w hw hg z e
/-- what min makes of both -/
theorem isG_min {W left st col : Int} {w : List Nat} {r : M32.Gaps} {R : List M32.Rw} {z : List Nat} (h : M32.IsL W left st col 0 [] w r R) (e : M32.flatS w r = some z) :
    ∃ S, PySem.W.minD (M32.tD (M32.val W left col R)) [M32.tD (M32.val W left col [(0, z)])] = M32.tD (M32.val W left col S) ∧ IsG W left st col w r S := by
  obtain ⟨m, hm, em, lm⟩ := M32.min_t [M32.val W left col [(0, z)]] (M32.val W left col R) fun y hy => by
    rcases List.mem_cons.mp hy with rfl | hy
    · exact M32.val_num
    · rw [List.mem_singleton.mp hy]
      exact M32.val_num
  have l1 := lm _ (List.mem_cons_self ..)
  have l2 := lm _ (List.mem_cons_of_mem _ (List.mem_singleton.mpr rfl))
  rcases List.mem_cons.mp hm with rfl | hm
  · refine ⟨R, em, .inl h.1, h.2, fun z' e' => ?_⟩
    cases e.symm.trans e'
    exact l2
  · rw [List.mem_singleton.mp hm] at em l1 l2
    refine ⟨[(0, z)], em, .inr ⟨z, e, rfl⟩, fun q hq => l1.trans (h.2 q hq), fun z' e' => ?_⟩
    cases e.symm.trans e'
    exact .inl rfl
theorem isG_none {W left st col : Int} {w : List Nat} {r : M32.Gaps} {R : List M32.Rw} (h : M32.IsL W left st col 0 [] w r R) (e : M32.flatS w r = none) : IsG W left st col w r R := ⟨.inl h.1, h.2, fun z e' => by rw [e] at e'; cases e'⟩
/-- ''.join -/
theorem joinL_nil : ∀ xs : List (List Nat), TL.joinL [] xs = xs.flatten
  | [] => rfl
  | [p] => by simp [TL.joinL]
  | p :: q :: r => by
    show p ++ ([] ++ TL.joinL [] (q :: r)) = _
    rw [joinL_nil (q :: r), List.nil_append]
    rfl
theorem join0 (ys : List Str) : (Txt.join (Str.ofString "") ys).cps.toList = (ys.map fun s => s.cps.toList).flatten := by
  rw [TL.join_eq]
  refine (TL.tl_join _ ys).trans ?_
  exact joinL_nil _
/-- a comprehension over zip of two lists of one length -/
theorem lc_zip {K : PySem.W.Frag} {a b : Addr} {xs ys : List V} {g : TG} {tt : TT} {te : TE} {vs : List Nat} {σ : L2.St} {H1 : Hp} {D : Addr} {Qd : Hp → Prop} (hl : xs.length = ys.length) (Pv : Nat → Hp → Prop) (h0 : Pv 0 (upd H1 D (.lst []))) (hq : ∀ i H, i ≤ xs.length → Pv i H → SqL K H a xs ∧ SqL K H b ys)
    (hs : ∀ (i : Nat) (x y : V) (T : Addr) (H : Hp), xs[i]? = some x → ys[i]? = some y → Pv i H → H T = none → g (.ref T) (wipe σ vs) (upd H T (.tup [x, y])) fun σ2 H2 => wipe σ2 vs = wipe σ vs ∧ tt σ2 H2 fun b H3 =>
      if b = true then te σ2 H3 fun y H4 => ∃ acc, H4 D = some (.lst acc) ∧ acc.length < sizeLine ∧ Pv (i + 1) (upd H4 D (.lst (acc ++ [y]))) else Pv (i + 1) H3) (hd : ∀ H, Pv xs.length H → Qd H) :
    ∃ W : Nat → Nat → Hp → Prop, (∃ m, W 0 m (upd H1 D (.lst []))) ∧ ∀ i m H, W i m H →
      ((L2.Itz K a b).stop i H ∧ Qd H) ∨ ((L2.Itz K a b).go i H ∧ ∃ Nx : Hp → Prop, (∀ H', Nx H' → ∃ m', m' < m ∧ W (i + 1) m' H') ∧ ∀ x H', (L2.Itz K a b).yld i H x H' → g x (wipe σ vs) H' fun σ2 H2 => wipe σ2 vs = wipe σ vs ∧ tt σ2 H2 fun b H3 =>
        if b = true then te σ2 H3 fun y H4 => ∃ acc, H4 D = some (.lst acc) ∧ acc.length < sizeLine ∧ Nx (upd H4 D (.lst (acc ++ [y]))) else Nx H3) := by
  refine ⟨fun i m H => m = xs.length - i ∧ i ≤ xs.length ∧ Pv i H, ⟨xs.length, rfl, Nat.zero_le _, h0⟩, ?_⟩
  rintro i m H ⟨rfl, hi, p⟩
  obtain ⟨qx, qy⟩ := hq i H hi p
  by_cases hlt : i < xs.length
  · have hx : xs[i]? = some xs[i] := List.getElem?_eq_getElem hlt
    have hlt2 : i < ys.length := by omega
    have hy : ys[i]? = some ys[i] := List.getElem?_eq_getElem hlt2
    refine .inr ⟨⟨xs, ys, _, _, qx, qy, hx, hy⟩, Pv (i + 1), fun H' p' => ⟨xs.length - (i + 1), by omega, rfl, hlt, p'⟩, fun v H' y => ?_⟩
    obtain ⟨T, x', y', rfl, hT, rfl, f1, f2⟩ := y
    exact hs i x' y' T H (f1 xs qx) (f2 ys qy) p hT
  · have e : i = xs.length := by omega
    subst e
    exact .inl ⟨⟨xs, ys, qx, qy, Or.inl (Nat.le_refl _)⟩, hd H p⟩
/-! ### the law: behind the purse -/
theorem same_at {p D : Addr} {G H3 : Hp} {o : HO} (hD : G D = none) (s : Same (hide p G) (hide p H3)) (ne : D ≠ p) : Same (hide p G) (hide p (upd H3 D o)) := fun b u e => by
  have nb : b ≠ D := fun z => by
    rw [z, hide_ne ne, hD] at e
    cases e
  rw [hide_out ne, upd_ne nb]
  exact s b u e
theorem PurseAt.upd {H : Hp} {p D : Addr} {n : Nat} {o : HO} (h : PurseAt H p n) (ne : D ≠ p) : PurseAt (L2.upd H D o) p n := by
  obtain ⟨a, b, c, e, r⟩ := h
  exact ⟨a, b, c, by rw [upd_ne (Ne.symm ne)]; exact e, r⟩
theorem doc_hide {K : PySem.W.Frag} {CN CD : Addr} {H : Hp} {p a : Addr} {n : Nat} {t : Nd} {gs : List Str} (pu : PurseAt H p n) (D : DocIs K CN CD H a t gs) : DocIs K CN CD (hide p H) a t gs := D.fix fun b o e f => by
  rw [hide_ne (fun z => by
    obtain ⟨xs, q⟩ := pu.some
    rw [z, q] at e
    cases e
    exact f)]
  exact e
/-! ### the law: the flat line -/
def gsz (f : Option Str) (w : Str) : Str := (match f with | some s => s | none => Str.ofString "") ++ w
def Zs (fs : List (Option Str)) (us : List Str) : List Str := List.zipWith gsz fs us
theorem Zs_gl : ∀ (fs : List (Option Str)) (us : List Str), fs.length = us.length → none ∉ fs → ((Zs fs us).map fun s => s.cps.toList).flatten = gl fs us
  | [], _, _, _ => rfl
  | none :: _, _, _, n => absurd (List.mem_cons_self ..) n
  | some _ :: _, [], h, _ => by cases h
  | some f :: fs, u :: us, h, n => by
    show (f ++ u).cps.toList ++ ((Zs fs us).map fun s => s.cps.toList).flatten = f.cps.toList ++ u.cps.toList ++ gl fs us
    rw [str_cps, Zs_gl fs us (by simpa using h) fun z => n (List.mem_cons_of_mem _ z)]
theorem Zs_sum : ∀ (fs : List (Option Str)) (us : List Str), (∀ f ∈ fs, FPl f) → (∀ w ∈ us, WPl w) → ((Zs fs us).map fun s => s.length).sum ≤ 11 * us.length
  | [], _, _, _ => Nat.zero_le _
  | _ :: _, [], _, _ => Nat.zero_le _
  | f :: fs, u :: us, hf, hw => by
    have ih := Zs_sum fs us (fun f h => hf f (List.mem_cons_of_mem _ h)) fun w h => hw w (List.mem_cons_of_mem _ h)
    have h1 : (gsz f u).length ≤ 11 := by
      have h2 := (hw u (List.mem_cons_self ..)).1.1
      unfold gsz
      rw [str_lapp]
      cases f with
      | none =>
        have : (Str.ofString "").length = 0 := by decide +kernel
        show (Str.ofString "").length + u.length ≤ 11
        omega
      | some s =>
        have := (hf _ (List.mem_cons_self ..) s rfl).1.1
        show s.length + u.length ≤ 11
        omega
    show (gsz f u).length + ((Zs fs us).map fun s => s.length).sum ≤ 11 * (us.length + 1)
    omega
theorem Zs_len {fs : List (Option Str)} {us : List Str} (h : fs.length = us.length) : (Zs fs us).length = us.length := by
  unfold Zs
  rw [List.length_zipWith]
  omega
theorem Zs_at {fs : List (Option Str)} {us : List Str} {i : Nat} {x y : V} (hx : (fs.map optV)[i]? = some x) (hy : (us.map V.str)[i]? = some y) (n : none ∉ fs) : ∃ s u, x = .str s ∧ y = .str u ∧ some s ∈ fs ∧ u ∈ us ∧ (Zs fs us).take (i + 1) = (Zs fs us).take i ++ [s ++ u] := by
  rw [List.getElem?_map, Option.map_eq_some_iff] at hx hy
  obtain ⟨f, hf, rfl⟩ := hx
  obtain ⟨u, hu, rfl⟩ := hy
  have mf := List.mem_of_getElem? hf
  cases f with
  | none => exact absurd mf n
  | some s =>
    refine ⟨s, u, rfl, rfl, mf, List.mem_of_getElem? hu, ?_⟩
    rw [List.take_succ]
    congr 1
    unfold Zs
    rw [List.getElem?_zipWith, hf, hu]
    rfl
theorem alike_two (a b : M32.T) : PySem.W.AlikeAll [M32.tD a, M32.tD b] ∧ PyData.depthAll [M32.tD a, M32.tD b] ≤ 60 := by
  refine ⟨⟨fun x hx y hy => ?_, fun x hx => ?_⟩, Nat.le_trans (tDs_depth [a, b]) (by decide)⟩
  · have hx' : x ∈ [a, b].map M32.tD := hx
    have hy' : y ∈ [a, b].map M32.tD := hy
    obtain ⟨c, _, rfl⟩ := List.mem_map.mp hx'
    obtain ⟨d, _, rfl⟩ := List.mem_map.mp hy'
    exact M32.alike_t c d
  · have hx' : x ∈ [a, b].map M32.tD := hx
    obtain ⟨c, _, rfl⟩ := List.mem_map.mp hx'
    intro z
    cases z
end K33

namespace K33
open PySem PySem.Spec PyProof.Rows L2 Vk
def spLaw (K : PySem.W.Frag) : Sp := fun vs H Q _ => ∃ (a : Addr) (ns : List Int), vs = [.ref a] ∧ SqL K H a (ns.map V.int) ∧ ns.length ≤ 63 ∧ ∀ H', Q (.bl true) H'
section
variable {P : Program} {w : World} {K : PySem.W.Frag} {mg : Str → Option Value} {base : Heap} {k : Nat}
theorem ok_law (T : Tx K mg)
    (G_Doc_group : FnOk P w K mg base CX0 k T.a_Doc_group T.d_Doc_group P_Doc_group (spOne K T.C_Node T.C_Doc .gr))
    (G_Doc_nested : FnOk P w K mg base CX0 k T.a_Doc_nested T.d_Doc_nested P_Doc_nested (spNest K T.C_Node T.C_Doc))
    (G_l_purse : FnOk P w K mg base CX0 k T.a_l_purse T.d_l_purse P_l_purse (spPurse K)) (G_l_draw : FnOk P w K mg base CX0 k T.a_l_draw T.d_l_draw P_l_draw spDraw)
    (G_l_built : FnOk P w K mg base CX0 k T.a_l_built T.d_l_built P_l_built (spBuilt K T.C_Node T.C_Doc 29)) (G_l_due : FnOk P w K mg base CX0 k T.a_l_due T.d_l_due P_l_due (spDueG K))
    (G_best : FnOk P w K mg base CX0 k T.a_best T.d_best P_best (spBestG K T.C_Node T.C_Doc)) :
    FnOk P w K mg base CX0 (k + 1) T.a_law T.d_law P_law (spLaw K) := by
  refine T.F_law.ok sc_law (fun vs H Q E h => ?_) (fun cdv A outer s H vs Q E hr h => ?_)
  · obtain ⟨a, ns, rfl, _⟩ := h
    rfl
  obtain ⟨a, ns, rfl, hS, h63, hq⟩ := h
  have hr1 := hr
  obtain ⟨_, kb_best_1_width_column_indent⟩ := T.kb_best_1_width_column_indent
  refine ⟨_, (pss_cons (ps_for PassesOwn.never rfl (pi_range1 rfl T.z_range (pa_cons (pe_op op_add pe_int (pe_callB (call_min2 rfl) rfl T.z_min (by decide +kernel) (pa_cons pe_int (pa_cons (pe_callB call_len rfl T.z_len (by decide +kernel) (pa_cons (pv 0) pa_nil)) pa_nil)))) pa_nil)) (pg_name (i := 1) sc_law.nd rfl (Or.inl rfl))
(pss_cons (ps_set (i := 2) sc_law.nd rfl (Or.inr rfl) (pe_call G_l_purse hr1 rfl T.m_l_purse T.F_l_purse.kp T.b_l_purse .nil pass0 (pa_cons (pv 0) (pa_cons (pv 1) pa_nil))))
(pss_cons (ps_set (i := 3) sc_law.nd rfl (Or.inl rfl) (pe_op op_add pe_int (pe_call G_l_draw hr1 rfl T.m_l_draw T.F_l_draw.kp T.b_l_draw .nil pass0 (pa_cons (pv 2) (pa_cons pe_int pa_nil)))))
(pss_cons (ps_setLc (i := 4) (own := [("_law_k", 5)]) (g := (gName 5)) (tt := tYes) rfl sc_law.nd rfl rfl (sw_true rfl rfl rfl (by decide +kernel)) (pi_range1 rfl T.z_range (pa_cons (pv 3) pa_nil)) (blkOk_by (own := [("_law_k", 5)]) (N := N_law) (sc := defScope s_law) (by decide +kernel)) (fun _ _ _ _ _ => (pg_name (i := 5) sc_law.nd rfl (Or.inl rfl))) (fun _ _ _ _ _ => pts_nil) (fun _ _ _ _ _ => (pe_slice C8.sl_txt pe_str po_none (po_some (pe_op op_add pe_int (pe_call G_l_draw hr1 rfl T.m_l_draw T.F_l_draw.kp T.b_l_draw .nil pass0 (pa_cons (pv 2) (pa_cons pe_int pa_nil))))))))
(pss_cons (ps_setLc (i := 6) (own := [("_law_k", 5)]) (g := (gName 5)) (tt := tYes) rfl sc_law.nd rfl rfl (sw_true rfl rfl rfl (by decide +kernel)) (pi_range1 rfl T.z_range (pa_cons (pe_op op_sub (pv 3) pe_int) pa_nil)) (blkOk_by (own := [("_law_k", 5)]) (N := N_law) (sc := defScope s_law) (by decide +kernel)) (fun _ _ _ _ _ => (pg_name (i := 5) sc_law.nd rfl (Or.inl rfl))) (fun _ _ _ _ _ => pts_nil) (fun _ _ _ _ _ => (pe_ix (show IxR _ (rIxL K) from ix_list) (pe_lst (pa_cons pe_str (pa_cons pe_str (pa_cons pe_str (pa_cons pe_str (pa_cons pe_non pa_nil)))))) (pe_call G_l_draw hr1 rfl T.m_l_draw T.F_l_draw.kp T.b_l_draw .nil pass0 (pa_cons (pv 2) (pa_cons pe_int pa_nil))) (fun _ _ => rfl))))
(pss_cons (ps_set (i := 7) sc_law.nd rfl (Or.inl rfl) (pe_call G_l_draw hr1 rfl T.m_l_draw T.F_l_draw.kp T.b_l_draw .nil pass0 (pa_cons (pv 2) (pa_cons pe_int pa_nil))))
(pss_cons (ps_set (i := 8) sc_law.nd rfl (Or.inl rfl) (pe_meth (pe_call G_l_built hr1 rfl T.m_l_built T.F_l_built.kp T.b_l_built .nil pass0 (pa_cons (pv 4) (pa_cons (pv 6) (pa_cons (pe_call G_l_draw hr1 rfl T.m_l_draw T.F_l_draw.kp T.b_l_draw .nil pass0 (pa_cons (pv 2) (pa_cons pe_int pa_nil))) pa_nil)))) T.cls_Doc T.me_Doc_nested G_Doc_nested hr1 T.b_Doc_nested .nil pass0 (pa_cons (pv 7) pa_nil)))
(pss_one (ps_for PassesOwn.never rfl (pi_range1 rfl T.z_range (pa_cons pe_int pa_nil)) (pg_name (i := 9) sc_law.nd rfl (Or.inl rfl))
(pss_cons (ps_par3 (i := 10) (j := 11) (l := 12) rfl sc_law.nd rfl rfl rfl (by decide) (by decide) (by decide) rfl rfl rfl (pa_cons (pe_op op_add pe_int (pe_call G_l_draw hr1 rfl T.m_l_draw T.F_l_draw.kp T.b_l_draw .nil pass0 (pa_cons (pv 2) (pa_cons pe_int pa_nil)))) (pa_cons (pe_call G_l_draw hr1 rfl T.m_l_draw T.F_l_draw.kp T.b_l_draw .nil pass0 (pa_cons (pv 2) (pa_cons pe_int pa_nil))) (pa_cons (pe_call G_l_draw hr1 rfl T.m_l_draw T.F_l_draw.kp T.b_l_draw .nil pass0 (pa_cons (pv 2) (pa_cons pe_int pa_nil))) pa_nil))) rfl)
(pss_cons (ps_set (i := 13) sc_law.nd rfl (Or.inl rfl) (pe_call G_l_due hr1 rfl T.m_l_due T.F_l_due.kp T.b_l_due .nil pass0 (pa_cons (pv 4) (pa_cons (pv 6) (pa_cons (pv 7) (pa_cons (pv 10) (pa_cons (pv 11) (pa_cons (pv 12) pa_nil))))))))
(pss_cons (ps_if (pt_cmpR (op_neD hr.units) (pe_callNS (E := fun _ _ _ _ => False) G_best hr1 rfl T.m_best T.F_best.kp kb_best_1_width_column_indent (fun σ _ _ _ _ _ _ h => False.elim h) (pa_cons (pv 8) pa_nil) (pk_cons (pv 10) (pk_cons (pv 11) (pk_cons (pv 12) pk_nil)))) (pe_ix ix_tup (pv 13) pe_int (fun _ _ => rfl)) (nomark _))
(pss_one (ps_ret pe_bl))
pss_nil)
(pss_cons (ps_if (pt_cmpR op_notIn_seq pe_non (pv 6) rfl)
(pss_cons (ps_set (i := 14) sc_law.nd rfl (Or.inl rfl) (pe_op op_add_str (pe_ix ix_list (pv 4) pe_int (fun _ _ => rfl)) (L2.pe_join pe_str (pe_lc (own := [("_law_flat", 15), ("_law_word", 16)]) (g := (gTup K 2 (gCons (gName 15) (gCons (gName 16) gNil)))) (tt := tYes) rfl sc_law.nd (RZ.pi_zipA rfl T.z_zip (pa_cons (pv 6) (pa_cons (pe_slice sl_list (pv 4) (po_some pe_int) po_none) pa_nil))) (blkOk_by (own := [("_law_flat", 15), ("_law_word", 16)]) (N := N_law) (sc := defScope s_law) (by decide +kernel)) (fun _ _ _ _ _ => (pg_tup rfl (pgs_cons (pg_name (i := 15) sc_law.nd rfl (Or.inl rfl)) (pgs_cons (pg_name (i := 16) sc_law.nd rfl (Or.inl rfl)) pgs_nil)))) (fun _ _ _ _ _ => pts_nil) (fun _ _ _ _ _ => (pe_op op_add_str (pv 15) (pv 16)))))))
(pss_one (ps_set (i := 13) sc_law.nd rfl (Or.inl rfl) (pe_callB (cr_minD2 rfl hr.units) rfl T.z_min (by decide +kernel) (pa_cons (pv 13) (pa_cons (pe_tup (pa_cons (pe_callB (call_max2 rfl) rfl T.z_max (by decide +kernel) (pa_cons (pe_op op_sub (pe_op op_add (pv 11) (pe_callB call_len rfl T.z_len (by decide +kernel) (pa_cons (pv 14) pa_nil))) (pv 10)) (pa_cons pe_int pa_nil))) (pa_cons pe_int (pa_cons (pe_tup (pa_cons (pe_tup (pa_cons pe_int (pa_cons (pv 14) pa_nil))) pa_nil)) pa_nil)))) pa_nil))))))
pss_nil)
(pss_one (ps_if (pt_cmpR (op_neD hr.units) (pe_callNS (E := fun _ _ _ _ => False) G_best hr1 rfl T.m_best T.F_best.kp kb_best_1_width_column_indent (fun σ _ _ _ _ _ _ h => False.elim h) (pa_cons (pe_meth0 (pv 8) T.cls_Doc T.me_Doc_group G_Doc_group hr1 T.b_Doc_group .nil pass0) pa_nil) (pk_cons (pv 10) (pk_cons (pv 11) (pk_cons (pv 12) pk_nil)))) (pe_ix ix_tup (pv 13) pe_int (fun _ _ => rfl)) (nomark _))
(pss_one (ps_ret pe_bl))
pss_nil)))))))))))))))
(pss_one (ps_ret pe_bl))), ?_⟩
  have hl : (ns.map V.int).length = ns.length := List.length_map _
  refine ⟨_, rfl, _, _, rfl, .inl ⟨_, hS, rfl⟩, _, _, rfl, _, _, rfl, rfl, _, rfl, ?_⟩
  generalize hm : (if (((ns.map V.int).length : Nat) : Int) < 3 then (((ns.map V.int).length : Nat) : Int) else 3) = m
  have m0 : 0 ≤ m ∧ m ≤ 3 := by
    rw [← hm]
    split <;> omega
  clear hm
  refine ⟨by omega, by omega, for_range (lo := 0) (n := (1 + m).toNat) (fun i σ H' => ∃ v1 v2 v3 v4 v5 v6 v7 v8 v9 v10 v11 v12 v13 v14 v15 v16 : Option V, σ = [some (.ref a), v1, v2, v3, v4, v5, v6, v7, v8, v9, v10, v11, v12, v13, v14, v15, v16] ∧ Same H H')
    ⟨none, none, none, none, none, none, none, none, none, none, none, none, none, none, none, none, rfl, .refl _⟩ ?_ ?_⟩
  rotate_left
  · rintro σ H1 ⟨v1, v2, v3, v4, v5, v6, v7, v8, v9, v10, v11, v12, v13, v14, v15, v16, rfl, sH⟩
    exact hq _
  rintro i σ H1 hi ⟨v1, v2, v3, v4, v5, v6, v7, v8, v9, v10, v11, v12, v13, v14, v15, v16, rfl, sH⟩
  refine ⟨_, rfl, _, rfl, a, ns, _, rfl, sH.seq hS, h63, by omega, by omega, fun p o hp pu => ?_⟩
  have sG := sH.trans (same_hid (o := o) hp)
  generalize upd H1 p o = H2 at pu sG ⊢
  clear sH hp
  obtain ⟨N, hN⟩ : ∃ N, N = 900000000 - 100 := ⟨_, rfl⟩
  replace pu : PurseAt H2 p (N + 100) := pu.less (by omega)
  clear hN
  -- many
  refine ⟨_, rfl, p, 22, N + 99, rfl, pu.less (by omega), by decide, by decide, fun H3 x3 hh3 pu3 e0 e1 => ⟨_, _, rfl, rfl, ?_⟩⟩
  replace sG := sG.trans (same_eq hh3)
  obtain ⟨n, hn, n8, n29⟩ : ∃ n : Nat, 8 + x3 = (n : Int) ∧ 8 ≤ n ∧ n ≤ 29 := ⟨(8 + x3).toNat, by omega, by omega, by omega⟩
  refine gn (v := V.int (8 + x3)) ?_
  rw [hn]
  clear hh3 e0 e1 pu hn x3 H2
  -- words
  refine ⟨_, rfl, _, rfl, by omega, by omega, fun D hD => lc_range (lo := 0) (n := n) (fun e H' => ∃ ws : List Str, H' D = some (.lst (ws.map V.str)) ∧ ws.length = e ∧ (∀ s ∈ ws, WPl s) ∧ PurseAt H' p (N + 99 - e) ∧ Same (hide p H3) (hide p H'))
    ⟨[], upd_same, rfl, (fun s h => by cases h), pu3.new hD, hs_new hD⟩ ?_ ?_⟩
  · rintro e H4 he ⟨ws, hD4, hl4, hw4, pu4, s4⟩
    have dD : D ≠ p := (pu3.ne hD).symm
    refine ⟨rfl, yesT (iteT ?_)⟩
    refine ⟨_, rfl, p, 9, N + 99 - e - 1, rfl, pu4.less (by omega), by decide, by decide, fun H5 x5 hh5 pu5 a0 a1 => ⟨_, _, rfl, rfl, _, rfl, _, rfl, by decide +kernel, ?_⟩⟩
    have hD5 : H5 D = some (.lst (ws.map V.str)) := (hide_get hh5 dD).trans hD4
    refine ⟨_, hD5, Nat.lt_of_le_of_lt (m := 30) (by rw [List.length_map]; omega) (by decide), ws ++ [Txt.slice ("abcdefghi" : Str) none (some (1 + x5))], ?_, by simp [hl4], fun s hs => ?_, (PurseAt.upd pu5 dD).less (by omega), same_at hD (s4.trans (same_eq hh5)) dD⟩
    · rw [upd_same, List.map_append]
      rfl
    · rcases List.mem_append.mp hs with hs | hs
      · exact hw4 s hs
      · rw [List.mem_singleton.mp hs]
        exact word_pl a0 a1
  rintro H4 ⟨ws, hD4, hl4, hw4, pu4, s4⟩
  have dD : D ≠ p := (pu3.ne hD).symm
  replace pu4 : PurseAt H4 p (N + 70) := pu4.less (by omega)
  replace sG := sG.trans s4
  have kW : hide p H4 D = some (.lst (ws.map V.str)) := by
    rw [hide_ne dD]
    exact hD4
  clear s4 pu3 hD hD4 dD H3
  refine gn (v := V.ref D) ?_
  -- flats
  obtain ⟨j, hj, hj1⟩ : ∃ j : Nat, ((n : Int) - 1) = (j : Int) ∧ j + 1 = n := ⟨n - 1, by omega, by omega⟩
  refine ⟨_, rfl, _, _, rfl, rfl, _, rfl, by omega, by omega, fun D2 hD2 => ?_⟩
  rw [show ((n : Int) - 1).toNat = j by omega]
  refine lc_range (lo := 0) (n := j) (fun e H' => ∃ fs : List (Option Str), H' D2 = some (.lst (fs.map optV)) ∧ fs.length = e ∧ (∀ f ∈ fs, f ∈ flats0) ∧ PurseAt H' p (N + 70 - e) ∧ Same (hide p H4) (hide p H'))
    ⟨[], upd_same, rfl, (fun s h => by cases h), pu4.new hD2, hs_new hD2⟩ ?_ ?_
  · rintro e H5 he ⟨fs, hD5, hl5, hf5, pu5, s5⟩
    have dD : D2 ≠ p := (pu4.ne hD2).symm
    refine ⟨rfl, yesT (iteT ?_)⟩
    refine ⟨(by show 5 ≤ sizeLine; decide), fun l hl => ?_⟩
    have nl : l ≠ p := (pu5.ne hl).symm
    have nD : D2 ≠ l := ne_of_none hD5 hl
    have q5 := hs_new (p := p) (o := .lst (flats0.map optV)) hl
    refine ⟨_, rfl, p, 5, N + 70 - e - 1, rfl, (pu5.new hl).less (by omega), by decide, by decide, fun H6 x6 hh6 pu6 a0 a1 => ?_⟩
    obtain ⟨v, ev, mv⟩ := atI_in (xs := flats0.map optV) (i := x6) a0 a1
    obtain ⟨f, hf, rfl⟩ := List.mem_map.mp mv
    refine ⟨l, _, x6, optV f, rfl, rfl, .of ((hide_get hh6 nl).trans upd_same), ev, ?_⟩
    have hD6 : H6 D2 = some (.lst (fs.map optV)) := (hide_get hh6 dD).trans ((upd_ne nD).trans hD5)
    refine ⟨_, hD6, Nat.lt_of_le_of_lt (m := 30) (by rw [List.length_map]; omega) (by decide), fs ++ [f], ?_, by simp [hl5], fun g hg => ?_, (PurseAt.upd pu6 dD).less (by omega), same_at hD2 (s5.trans (q5.trans (same_eq hh6))) dD⟩
    · rw [upd_same, List.map_append]
      rfl
    · rcases List.mem_append.mp hg with hg | hg
      · exact hf5 g hg
      · rw [List.mem_singleton.mp hg]
        exact hf
  rintro H5 ⟨fs, hD5, hl5, hf5, pu5, s5⟩
  have dD : D2 ≠ p := (pu4.ne hD2).symm
  replace pu5 : PurseAt H5 p (N + 40) := pu5.less (by omega)
  replace sG := sG.trans s5
  replace kW := s5 _ _ kW
  have kF : hide p H5 D2 = some (.lst (fs.map optV)) := by
    rw [hide_ne dD]
    exact hD5
  clear s5 pu4 hD2 hD5 dD H4
  refine gn (v := V.ref D2) ?_
  -- steps
  refine ⟨_, rfl, p, 5, N + 39, rfl, pu5.less (by omega), by decide, by decide, fun H6 st hh6 pu6 st0 st1 => ?_⟩
  replace sG := sG.trans (same_eq hh6)
  replace kW := same_eq hh6 _ _ kW
  replace kF := same_eq hh6 _ _ kF
  clear hh6 pu5 H5
  refine gn (v := V.int st) ?_
  -- doc
  have hf6 : ∀ f ∈ fs, FPl f := fun f hf => flat_pl (hf5 f hf)
  refine ⟨_, rfl, _, rfl, _, rfl, p, 3, N + 38, rfl, pu6.less (by omega), by decide, by decide, fun H7 x7 hh7 pu7 e0 e1 => ?_⟩
  replace sG := sG.trans (same_eq hh7)
  replace kW := same_eq hh7 _ _ kW
  replace kF := same_eq hh7 _ _ kF
  obtain ⟨way, hway, way2⟩ : ∃ way : Nat, x7 = (way : Int) ∧ way ≤ 2 := ⟨x7.toNat, by omega, by omega⟩
  subst hway
  refine ⟨D, D2, ws, fs, way, rfl, .of (hide_same (p := p) _ _ kW), .of (hide_same (p := p) _ _ kF), by omega, by omega, by omega, by omega, hw4, hf6, way2, fun c H8 t s8 Dt bt => ?_⟩
  have lfw : fs.length + 1 = ws.length := by omega
  rw [List.take_of_length_le (by omega)] at bt
  have sm := bt.small (fun s hs => (hw4 s hs).1) fun f hf s e => (hf6 f hf s e).1
  have w40 := small40 sm (by omega)
  replace sG := sG.trans (Same.hide s8)
  replace kW := Same.hide s8 _ _ kW
  replace kF := Same.hide s8 _ _ kF
  replace pu7 := pu7.same s8
  obtain ⟨⟨_, ⟨da, ha⟩, _⟩⟩ := id Dt
  refine ⟨c, da, _, rfl, ha, rfl, _, rfl, c, st, t, [], rfl, st0, by omega, Dt, ⟨w40, by decide, fun x hx => by cases hx⟩, fun c2 out H9 s9 Dn gs => ?_⟩
  replace Dn := doc_hide (pu7.same s9) (one0 Dn gs)
  replace sG := sG.trans (Same.hide s9)
  replace kW := Same.hide s9 _ _ kW
  replace kF := Same.hide s9 _ _ kF
  replace pu7 := pu7.same s9
  clear hh7 e0 e1 s8 Dt gs s9 ha da
  refine gn (v := V.ref c2) ?_
  obtain ⟨u, us, rfl, lfu, Bu⟩ := bt.built
  have lnw : (u :: us).length = us.length + 1 := List.length_cons
  have hwf : ∀ {H : Hp}, SqL K H D ((u :: us).map V.str) → SqL K H D2 (fs.map optV) → WF K H D D2 (u :: us) fs := fun h1 h2 => ⟨h1, h2, lfw, by omega, fun s hs => (hw4 s hs).1.1, fun f hf s e => (hf6 f hf s e).1.1⟩
  have okT : (Nd.ne st t).ok := ⟨st0, sm.ok⟩
  have wtT : t.wt + 4 ≤ 900000 := by
    have := sm.wt
    omega
  have wu := strOk_mem (hw4 u (List.mem_cons_self ..)).1.2
  have wg := gz_ok fs us hf6 fun w hw => hw4 w (List.mem_cons_of_mem _ hw)
  refine ⟨4, rfl, by decide, by decide, for_range (lo := 0) (n := 4) (g := gName 9) (fun e σ H' => ∃ w9 w10 w11 w12 w13 w14 w15 w16 : Option V, σ = [some (.ref a), some (.int (0 + (i : Nat))), some (.ref p), some (.int n), some (.ref D), v5, some (.ref D2), some (.int st), some (.ref c2), w9, w10, w11, w12, w13, w14, w15, w16] ∧ Same (hide p H9) (hide p H') ∧ PurseAt H' p (N + 38 - 3 * e))
    ⟨_, _, _, _, _, _, _, _, rfl, .refl _, pu7⟩ ?_ ?_⟩
  rotate_left
  · rintro σ H10 ⟨w9, w10, w11, w12, w13, w14, w15, w16, rfl, s10, pu10⟩
    exact ⟨_, _, _, _, _, _, _, _, _, _, _, _, _, _, _, _, rfl, sG.trans (s10.trans hide_same)⟩
  rintro e σ H10 he ⟨w9, w10, w11, w12, w13, w14, w15, w16, rfl, s10, pu10⟩
  refine ⟨_, rfl, p, 40, N + 38 - 3 * e - 1, rfl, pu10.less (by omega), by decide, by decide, fun H11 y0 hh11 pu11 a0 a1 => ⟨_, _, rfl, rfl, _, rfl, p, 12, N + 38 - 3 * e - 2, rfl, pu11.less (by omega), by decide, by decide, fun H12 y1 hh12 pu12 b0 b1 => ⟨_, rfl, p, 6, N + 38 - 3 * e - 3, rfl, pu12.less (by omega), by decide, by decide, fun H13 y2 hh13 pu13 c0 c1 => ⟨.int (4 + y0), .int y1, .int y2, rfl, ?_⟩⟩⟩⟩
  replace s10 := s10.trans ((same_eq hh11).trans ((same_eq hh12).trans (same_eq hh13)))
  have fW := s10 _ _ kW
  have fF := s10 _ _ kF
  have fD := Dn.fix (CD := T.C_Doc) (.of s10)
  replace pu13 : PurseAt H13 p (N + 38 - 3 * (e + 1)) := pu13.less (by omega)
  obtain ⟨W, hW, W0, W1⟩ : ∃ W : Int, 4 + y0 = W ∧ 0 ≤ W ∧ W ≤ 60 := ⟨4 + y0, rfl, by omega, by omega⟩
  rw [hW]
  clear hW hh11 hh12 hh13 a0 a1 pu10 pu11 pu12 kW kF Dn sG y0
  refine nxI ?_
  -- due
  have gW := hide_same (p := p) _ _ fW
  have gF := hide_same (p := p) _ _ fF
  have gD := fD.fix (CD := T.C_Doc) (.of hide_same)
  refine ⟨_, rfl, _, rfl, _, rfl, _, rfl, _, rfl, _, rfl, D, D2, u, us, fs, W, y2, st, y1, rfl, hwf (.of gW) (.of gF), fun v2 H14 R s14 d14 isl => ?_⟩
  refine gn (v := v2) ?_
  -- best
  have D14 := gD.fix (CD := T.C_Doc) (.of s14)
  refine ⟨_, rfl, _, rfl, _, rfl, _, rfl, rfl, rfl, c2, W, y1, y2, .ne st t, rfl, D14, okT, ?_, ?_, W0, W1, b0, c0, fun b15 H15 m S s15 d15 cov mS lS => ?_⟩
  · show t.wt + 1 ≤ 900000
    omega
  · have := sm.w1
    show t.ways.1 ≠ 0
    omega
  have d14' := Dp.same s15 d14
  obtain ⟨ra, rr, rxs, rfl, hra, hrr, hdr⟩ := tD_at d14'
  have rok := RF_ok (st := st) _ 0 [] _ (fun c h => (by cases h)) wu wg R isl.1
  have shR := rows_shaped rok
  have eR : M32.all m.2 = R := M32.IsL.one (M32.best_least Bu cov mS lS) isl
  rw [eR] at d15
  refine ⟨_, rfl, ra, _, 2, .ref rr, rfl, rfl, hra, rfl, _, _, d15, .tup hrr hdr, shR, shR, _, rfl, ?_⟩
  have eqR : PyData.eqv (PyData.tuple ((M32.val W y2 y1 R).2.2.map M32.rD)) (PyData.tuple ((M32.val W y2 y1 R).2.2.map M32.rD)) = true := SeqAt.eqv_refl _ (SeqAt.canLay_of_shaped shR)
  rw [show PyData.eqv (PyData.tuple (R.map M32.rD)) (PyData.tuple ((M32.val W y2 y1 R).2.2.map M32.rD)) = true from eqR]
  refine iteF (nxI ?_)
  have lgz : fs.length = us.length := lfu
  refine seq_cut (fun σ' H' => ∃ (v13 : V) (v14 v15 v16 : Option V) (R2 : List M32.Rw), σ' = [some (.ref a), some (.int (0 + (i : Nat))), some (.ref p), some (.int n), some (.ref D), v5, some (.ref D2), some (.int st), some (.ref c2), some (.int (0 + (e : Nat))), some (.int W), some (.int y1), some (.int y2), some v13, v14, v15, v16] ∧
    Same H15 H' ∧ Dp K H' v13 (M32.tD (M32.val W y2 y1 R2)) ∧ IsG W y2 st y1 u.cps.toList (M32.gz fs us) R2) (fun σ' H' hR => ?_) (fun nx => ?_)
  rotate_left
  · have q15 := s14.trans s15
    have eW := q15 _ _ gW
    have eF := q15 _ _ gF
    refine ⟨_, rfl, D2, _, rfl, .inl (.of eF), rfl, flats_flat fs, _, rfl, ?_⟩
    refine ite2 (fun c => ?_) (fun c => ?_)
    · have c' : (!inV .non (fs.map optV)) = true := c
      rw [none_in] at c'
      have nn : none ∉ fs := by simpa using c'
      -- the string
      refine ⟨_, rfl, D, _, 0, .str u, rfl, rfl, .of eW, at_of (j := 0) rfl rfl, ⟨_, rfl⟩, _, rfl, _, rfl, _, rfl, D, _, rfl, .of eW, fun bl hbl => ?_⟩
      have ec : cutV ((u :: us).map V.str) (some 1) none = us.map V.str := cut_drop _ 1 (by simp)
      rw [ec]
      have t1 := same_new (o := .lst (us.map V.str)) hbl
      have kb : upd H15 bl (.lst (us.map V.str)) bl = some (.lst (us.map V.str)) := upd_same
      have kf := t1 _ _ eF
      generalize upd H15 bl (.lst (us.map V.str)) = H16 at t1 kb kf ⊢
      refine ⟨D2, bl, _, _, rfl, .inl ⟨.of kf, .of kb, fun D3 hD3 => ?_⟩⟩
      refine lc_zip (K := K) (xs := fs.map optV) (ys := us.map V.str) (by rw [List.length_map, List.length_map, lgz]) (fun x H' => H' D3 = some (.lst (((Zs fs us).take x).map V.str)) ∧ Same H16 H') ⟨upd_same, same_new hD3⟩ (fun x H' _ q => ⟨.of (q.2 _ _ kf), .of (q.2 _ _ kb)⟩) ?_ ?_
      · rintro x y0 y1' T' H17 hx hy ⟨k3, s3⟩ hT
        obtain ⟨f1, w1, rfl, rfl, mf, mw, et⟩ := Zs_at hx hy nn
        refine ⟨T', _, rfl, .of upd_same, rfl, _, _, rfl, _, _, rfl, rfl, rfl, yesT (iteT ?_)⟩
        have lf1 := (hf6 _ mf f1 rfl).1.1
        have lw1 := (hw4 w1 (List.mem_cons_of_mem _ mw)).1.1
        have lx : x < fs.length := by
          have := (List.getElem?_eq_some_iff.mp hx).1
          rwa [List.length_map] at this
        refine ⟨_, rfl, _, rfl, f1, w1, rfl, rfl, Nat.le_trans (m := 100) (by omega) (by decide), ?_⟩
        have nT : D3 ≠ T' := ne_of_none k3 hT
        refine ⟨_, (upd_ne nT).trans k3, Nat.lt_of_le_of_lt (m := 100) (by rw [List.length_map, List.length_take]; omega) (by decide), ?_, ?_⟩
        · rw [upd_same, et, List.map_append]
          rfl
        · intro b o q
          have nb : b ≠ D3 := ne_of_none q hD3
          rw [upd_ne nb, upd_ne (ne_of_none (s3 _ _ q) hT)]
          exact s3 _ _ q
      · rintro H17 ⟨k3, s3⟩
        have lZ := Zs_len lgz
        rw [List.length_map, List.take_of_length_le (by omega)] at k3
        have sZ := Zs_sum fs us hf6 fun w hw => hw4 w (List.mem_cons_of_mem _ hw)
        have l0 : (Str.ofString "").length = 0 := by decide +kernel
        refine ⟨_, _, Zs fs us, rfl, rfl, .inl (.of k3), ?_, ?_⟩
        · rw [l0]
          exact Nat.le_trans (m := 400) (by omega) (by decide)
        obtain ⟨Z, hZ⟩ : ∃ Z, Z = u ++ Txt.join (Str.ofString "") (Zs fs us) := ⟨_, rfl⟩
        have eZ : Z.cps.toList = u.cps.toList ++ gl fs us := by
          rw [hZ, str_cps, join0, Zs_gl fs us lgz nn]
        have zf := flatS_all fs us u.cps.toList lgz nn
        rw [← eZ] at zf
        have lU := (hw4 u (List.mem_cons_self ..)).1.1
        have lJ : (Txt.join (Str.ofString "") (Zs fs us)).length ≤ 400 := by
          show (Txt.join (Str.ofString "") (Zs fs us)).cps.size ≤ 400
          rw [← Array.length_toList, join0, List.length_flatten, List.map_map]
          have e : ((fun l : List Nat => l.length) ∘ fun s : Str => s.cps.toList) = fun s : Str => s.length := funext fun s => Array.length_toList
          have e2 : (List.map (List.length ∘ fun s : Str => s.cps.toList) (Zs fs us)).sum = ((Zs fs us).map fun s => s.length).sum := congrArg (fun g => (List.map g (Zs fs us)).sum) e
          rw [e2]
          omega
        refine ⟨u, _, rfl, rfl, Nat.le_trans (m := 500) (by omega) (by decide), ?_⟩
        have lZZ : Z.length ≤ 500 := by
          rw [hZ, str_lapp]
          omega
        rw [← hZ]
        clear hZ
        refine gn (v := V.str Z) ?_
        have u17 := t1.trans s3
        have d17 := Dp.same u17 d14'
        refine ⟨_, rfl, _, rfl, _, rfl, _, _, rfl, ⟨Nat.le_trans lZZ (by decide), rfl⟩, _, _, rfl, rfl, _, rfl, _, _, rfl, rfl, _, _, rfl, _, rfl, (by show 2 ≤ sizeLine; decide), fun e1 he1 => ⟨(by show 1 ≤ sizeLine; decide), fun e2 he2 => ⟨(by show 3 ≤ sizeLine; decide), fun e3 he3 => ?_⟩⟩⟩
        have x1 := same_new (o := .tup [.int 0, .str Z]) he1
        have x2 := same_new (o := .tup [.ref e1]) he2
        generalize hov : (if (0 : Int) > y1 + ((Z.length : Nat) : Int) - W then (0 : Int) else y1 + ((Z.length : Nat) : Int) - W) = ov at he3 ⊢
        have x3 := same_new (o := .tup [.int ov, .int 1, .ref e2]) he3
        have eov : ov = M32.overs W y1 y2 [(0, Z.cps.toList)] := by
          rw [← hov]
          show _ = max 0 (y1 + ((Z.cps.toList.length : Nat) : Int) - W) + 0
          rw [show Z.cps.toList.length = Z.length from Array.length_toList]
          split <;> omega
        subst eov
        have dn : Dp K (upd (upd (upd H17 e1 (.tup [.int 0, .str Z])) e2 (.tup [.ref e1])) e3 (.tup [.int (M32.overs W y1 y2 [(0, Z.cps.toList)]), .int 1, .ref e2])) (.ref e3) (M32.tD (M32.val W y2 y1 [(0, Z.cps.toList)])) :=
          .tup (.of upd_same) (.cons (.int _) (.cons (.int 1) (.cons (.tup (Same.seqT x3 (.of upd_same)) (.cons (.tup (Same.seqT (x2.trans x3) (.of upd_same)) (.cons (.int 0) (.cons (.str Z) .nil))) .nil)) .nil)))
        refine ⟨_, _, _, _, rfl, Dp.same (x1.trans (x2.trans x3)) d17, dn, (alike_two _ _).1, (alike_two _ _).2, fun v hv dv => ?_⟩
        obtain ⟨S2, eS, iS⟩ := isG_min isl zf
        rw [eS] at dv
        exact gn (v := v) (nx _ _ ⟨v, _, _, _, S2, rfl, u17.trans (x1.trans (x2.trans x3)), dv, iS⟩)
    · have c' : ¬ (!inV .non (fs.map optV)) = true := c
      rw [none_in] at c'
      have nn : none ∈ fs := by simpa using c'
      exact nx _ _ ⟨_, _, _, _, R, rfl, .refl _, d14', isG_none isl (flatS_none fs us _ lgz nn)⟩
  obtain ⟨v13, v14, v15, v16, R2, rfl, s16, d16, isG⟩ := hR
  have D16 := gD.fix (CD := T.C_Doc) (.of (s14.trans (s15.trans s16)))
  obtain ⟨⟨_, ⟨da, ha⟩, _⟩⟩ := id D16
  refine ⟨_, rfl, c2, da, _, rfl, ha, rfl, c2, .ne st t, [], rfl, D16, ⟨w40, by decide, fun x hx => by cases hx⟩, fun c3 out H17 s17 D17 gs => ?_⟩
  replace D17 := one0 D17 gs
  refine ⟨_, rfl, _, rfl, _, rfl, rfl, rfl, c3, W, y1, y2, .gr (.ne st t), rfl, D17, okT, ?_, ?_, W0, W1, b0, c0, fun b18 H18 m2 S2 s18 d18 cov2 mS2 lS2 => ?_⟩
  · have := sm.wt
    show 2 * (t.wt + 1) + 4 ≤ 900000
    omega
  · have h1 := sm.w1
    have h2 := sm.w2
    show t.ways.1 + t.ways.2 ≠ 0
    omega
  have d18' := Dp.same (s17.trans s18) d16
  obtain ⟨ra2, rr2, rxs2, rfl, hra2, hrr2, hdr2⟩ := tD_at d18'
  have isB : IsG W y2 st y1 u.cps.toList (M32.gz fs us) (M32.all m2.2) := let ⟨h1, h2, h3⟩ := M32.best_group Bu cov2 mS2 lS2; ⟨h1, h2, h3⟩
  have eR2 : M32.all m2.2 = R2 := isB.one isG
  have shR2 := rows_shaped (isG.ok wu wg)
  rw [eR2] at d18
  refine ⟨_, rfl, ra2, _, 2, .ref rr2, rfl, rfl, hra2, rfl, _, _, d18, .tup hrr2 hdr2, shR2, shR2, _, rfl, ?_⟩
  have eqR2 : PyData.eqv (PyData.tuple ((M32.val W y2 y1 R2).2.2.map M32.rD)) (PyData.tuple ((M32.val W y2 y1 R2).2.2.map M32.rD)) = true := SeqAt.eqv_refl _ (SeqAt.canLay_of_shaped shR2)
  rw [show PyData.eqv (PyData.tuple (R2.map M32.rD)) (PyData.tuple ((M32.val W y2 y1 R2).2.2.map M32.rD)) = true from eqR2]
  have sE := s14.trans (s15.trans (s16.trans (s17.trans s18)))
  exact iteF (nxI ⟨_, _, _, _, _, _, _, _, rfl, s10.trans (Same.hide sE), pu13.same sE⟩)
end
end K33

namespace K33
open PySem PySem.Spec PyProof.Rows L2 Vk
theorem kit_ty {K : PySem.W.Frag} {t : String} {D : Addr} (h : PySem.W.subIn K (.type t) (.ref D) = some false) (hc : PySem.W.hasDictIn K D = true) (ht : PySem.W.typeIn K (.ref D) = some (.type "type")) :
    PySem.W.kitOne K (.type t) (.ref D) = some false := by
  have ne : (Value.type t == Value.ref D) = false := rfl
  obtain ⟨cd, hcd, _⟩ := PySem.W.any_some hc
  unfold PySem.W.kitOne PySem.W.kitCls
  rw [ne, if_neg Bool.false_ne_true]
  show (if ((PySem.W.clsIn K D).isSome && PySem.W.typeIn K (.ref D) == some (.type "type")) = true then PySem.W.subIn K (.type t) (.ref D) else none) = some false
  rw [hcd, ht]
  exact h
section
variable {P : Program} {w : World} {K : PySem.W.Frag} {mg : Str → Option Value} {base : Heap}
theorem main_ok (T : Tx K mg) : FnOk P w K mg base CX0 35 T.a_law T.d_law P_law (spLaw K) := by
  have g_at := ok_at (P := P) (w := w) (base := base) (k := 0) T
  have g_mixed := ok_mixed (P := P) (w := w) (base := base) (k := 0) T
  have g_purse := ok_purse T g_at
  have g_draw := ok_draw T g_mixed
  have g_least := ok_least (P := P) (w := w) (base := base) (k := 0) T
  have g_rows := ok_rows T g_least
  have g_due := ok_dueG T g_rows (g_least.mono (by decide))
  have g_whole := ok_whole (P := P) (w := w) (base := base) (k := 0) T
  have g_plain := ok_plain (P := P) (w := w) (base := base) (k := 0) T
  have g_steps := ok_steps T g_whole
  have g_gaps := ok_gaps (P := P) (w := w) (base := base) (k := 0) T
  have g_counts := ok_counts (P := P) (w := w) (base := base) (k := 0) T
  have g_settled := ok_settled (P := P) (w := w) (base := base) (k := 0) T
  have g_node := ok_node T g_gaps g_counts g_settled
  have g_docI := (ok_docI (P := P) (w := w) (base := base) (k := 0) T).mono (show 1 ≤ 2 by decide)
  have g_add := ok_add T g_docI g_node
  have g_group := ok_group T g_docI g_node
  have g_nested := ok_nested T g_steps g_docI g_node
  have g_text := ok_text T (g_plain.mono (by decide)) g_docI g_node
  have g_line := ok_line T (g_plain.mono (by decide)) g_docI g_node
  have g_holes := ok_holes (P := P) (w := w) (base := base) (k := 0) T
  have g_ways := ok_ways (P := P) (w := w) (base := base) (k := 0) T
  have g_pruned := ok_prG (P := P) (w := w) (base := base) (k := 0) T
  have g_merged := ok_mgG T g_pruned
  have g_broken := ok_brG (P := P) (w := w) (base := base) (k := 0) T
  have g_written := ok_wrG (P := P) (w := w) (base := base) (k := 0) T
  have g_turn := ok_tnG (P := P) (w := w) (base := base) (k := 0) T
  have g_fork := ok_fkG (P := P) (w := w) (base := base) (k := 0) T
  have g_enter := ok_enG T g_written g_broken g_fork
  have g_si := ok_siG (P := P) (w := w) (base := base) (k := 0) T
  have g_run := ok_runG T g_enter (g_turn.mono (by decide)) g_merged
  have g_rd := ok_rd (P := P) (w := w) (base := base) (k := 2) T
  have g_rh := ok_rh T g_holes
  have g_rw := ok_rw T g_whole
  have g_best := ok_bestG (k := 3) T (by decide) g_rd (g_rh.mono (by decide)) (g_rw.mono (by decide)) (g_ways.mono (by decide)) (g_si.mono (by decide)) g_run
  have g_rdT := ok_rdT (P := P) (w := w) (base := base) (k := 3) T
  have g_joined := ok_joined T g_rdT g_text g_add
  have g_built := ok_built T (g_text.mono (by decide)) (g_line.mono (by decide)) (g_group.mono (by decide)) (g_add.mono (by decide)) g_joined 29
  exact ok_law (k := 34) T (g_group.mono (by decide)) (g_nested.mono (by decide)) (g_purse.mono (by decide)) (g_draw.mono (by decide)) g_built (g_due.mono (by decide)) (g_best.mono (by decide))
end
end K33

namespace K33
open PySem PySem.Spec PyProof.Rows L2 Vk
theorem all_mk {l : PySem.W.OpenLaw} {w : World} {K : PySem.W.Frag} {h : Heap} {mg : Str → Option Value} {fa : Addr} (X : K.In h) (G : h.Ns mainGlobals mg) (hfa : mg "law" = some (.ref fa))
  {u_MOST_STEPS : Value} (c_MOST_STEPS : PySem.W.nsIn K mainGlobals "MOST_STEPS" = some (some u_MOST_STEPS)) (rv_MOST_STEPS : RelV (.int 40) u_MOST_STEPS)
  {u_ENTER : Value} (c_ENTER : PySem.W.nsIn K mainGlobals "ENTER" = some (some u_ENTER)) (rv_ENTER : RelV (.int 0) u_ENTER)
  {u_TURN : Value} (c_TURN : PySem.W.nsIn K mainGlobals "TURN" = some (some u_TURN)) (rv_TURN : RelV (.int 1) u_TURN)
  {u_MERGE : Value} (c_MERGE : PySem.W.nsIn K mainGlobals "MERGE" = some (some u_MERGE)) (rv_MERGE : RelV (.int 2) u_MERGE)
  {u_PAGE : Value} (c_PAGE : PySem.W.nsIn K mainGlobals "PAGE" = some (some u_PAGE)) (rv_PAGE : RelV (.int 50) u_PAGE)
  {C_Node : Addr} (pc_Node : PySem.W.nsIn K mainGlobals "Node" = some (some (.ref C_Node))) (pg_Node : PySem.W.plainGet K C_Node Str.empty = true) (hd_Node : PySem.W.hasDictIn K C_Node = true) (po_Node : PySem.W.plainOver K C_Node = true) (sa_Node : PySem.W.findIn K (.ref C_Node) "__setattr__" = some (some (.builtin "object.__setattr__"))) (mk_Node : PySem.W.makesIn K C_Node = true) (kc_Node : PySem.W.keepIn K (.ref C_Node) = true)
  (na_Node_kind : PySem.W.findIn K (.ref C_Node) "kind" = some none)
  (na_Node_own : PySem.W.findIn K (.ref C_Node) "own" = some none)
  (na_Node_inner : PySem.W.findIn K (.ref C_Node) "inner" = some none)
  (na_Node_gaps : PySem.W.findIn K (.ref C_Node) "gaps" = some none)
  (na_Node_size : PySem.W.findIn K (.ref C_Node) "size" = some none)
  (na_Node_most : PySem.W.findIn K (.ref C_Node) "most" = some none)
  (na_Node_settled : PySem.W.findIn K (.ref C_Node) "settled" = some none)
  (na_Node_broken : PySem.W.findIn K (.ref C_Node) "broken" = some none)
  (na_Node_flat : PySem.W.findIn K (.ref C_Node) "flat" = some none)
  {C_Doc : Addr} (pc_Doc : PySem.W.nsIn K mainGlobals "Doc" = some (some (.ref C_Doc))) (pg_Doc : PySem.W.plainGet K C_Doc Str.empty = true) (hd_Doc : PySem.W.hasDictIn K C_Doc = true) (po_Doc : PySem.W.plainOver K C_Doc = true) (sa_Doc : PySem.W.findIn K (.ref C_Doc) "__setattr__" = some (some (.builtin "object.__setattr__"))) (mk_Doc : PySem.W.makesIn K C_Doc = true) (kc_Doc : PySem.W.keepIn K (.ref C_Doc) = true)
  (na_Doc_node : PySem.W.findIn K (.ref C_Doc) "node" = some none)
  (so_Doc : PySem.W.selfFirst K C_Doc = true)
  {C_Search : Addr} (pc_Search : PySem.W.nsIn K mainGlobals "Search" = some (some (.ref C_Search))) (pg_Search : PySem.W.plainGet K C_Search Str.empty = true) (hd_Search : PySem.W.hasDictIn K C_Search = true) (po_Search : PySem.W.plainOver K C_Search = true) (sa_Search : PySem.W.findIn K (.ref C_Search) "__setattr__" = some (some (.builtin "object.__setattr__"))) (mk_Search : PySem.W.makesIn K C_Search = true) (kc_Search : PySem.W.keepIn K (.ref C_Search) = true)
  (na_Search_limit : PySem.W.findIn K (.ref C_Search) "limit" = some none)
  (na_Search_left : PySem.W.findIn K (.ref C_Search) "left" = some none)
  (na_Search_states : PySem.W.findIn K (.ref C_Search) "states" = some none)
  (na_Search_kept : PySem.W.findIn K (.ref C_Search) "kept" = some none)
  (na_Search_todo : PySem.W.findIn K (.ref C_Search) "todo" = some none)
  (tt_Doc : PySem.W.typeIn K (.ref C_Doc) = some (.type "type"))
  (cb_Doc : PySem.W.findIn K (.ref C_Doc) "__class__" = some (some (.builtin "object.__class__"))) (mq_Doc : PySem.W.mroIn K C_Doc (.type "object") = some true)
  (ks_NoneType_Doc : PySem.W.subIn K (.type "NoneType") (.ref C_Doc) = some false)
  (ks_bool_Doc : PySem.W.subIn K (.type "bool") (.ref C_Doc) = some false)
  (ks_int_Doc : PySem.W.subIn K (.type "int") (.ref C_Doc) = some false)
  (ks_str_Doc : PySem.W.subIn K (.type "str") (.ref C_Doc) = some false)
  (ks_tuple_Doc : PySem.W.subIn K (.type "tuple") (.ref C_Doc) = some false)
  (ks_list_Doc : PySem.W.subIn K (.type "list") (.ref C_Doc) = some false)
  {a0 : Addr} {od0 an0 : Option Addr} {sl0 : Array (Option Value)} {oc0 kV0 dc0 pm0 cd0 ct0 : Value}
  {a1 : Addr} {od1 an1 : Option Addr} {sl1 : Array (Option Value)} {oc1 kV1 dc1 pm1 cd1 ct1 : Value}
  {a2 : Addr} {od2 an2 : Option Addr} {sl2 : Array (Option Value)} {oc2 kV2 dc2 pm2 cd2 ct2 : Value}
  {a3 : Addr} {od3 an3 : Option Addr} {sl3 : Array (Option Value)} {oc3 kV3 dc3 pm3 cd3 ct3 : Value}
  {a4 : Addr} {od4 an4 : Option Addr} {sl4 : Array (Option Value)} {oc4 kV4 dc4 pm4 cd4 ct4 : Value}
  {a5 : Addr} {od5 an5 : Option Addr} {sl5 : Array (Option Value)} {oc5 kV5 dc5 pm5 cd5 ct5 : Value}
  {a6 : Addr} {od6 an6 : Option Addr} {sl6 : Array (Option Value)} {oc6 kV6 dc6 pm6 cd6 ct6 : Value}
  {a7 : Addr} {od7 an7 : Option Addr} {sl7 : Array (Option Value)} {oc7 kV7 dc7 pm7 cd7 ct7 : Value}
  {a8 : Addr} {od8 an8 : Option Addr} {sl8 : Array (Option Value)} {oc8 kV8 dc8 pm8 cd8 ct8 : Value}
  {a9 : Addr} {od9 an9 : Option Addr} {sl9 : Array (Option Value)} {oc9 kV9 dc9 pm9 cd9 ct9 : Value}
  {a10 : Addr} {od10 an10 : Option Addr} {sl10 : Array (Option Value)} {oc10 dc10 pm10 cd10 ct10 : Value}
  {a11 : Addr} {od11 an11 : Option Addr} {sl11 : Array (Option Value)} {oc11 dc11 pm11 cd11 ct11 : Value}
  {a12 : Addr} {od12 an12 : Option Addr} {sl12 : Array (Option Value)} {oc12 kV12 dc12 pm12 cd12 ct12 : Value}
  {a13 : Addr} {od13 an13 : Option Addr} {sl13 : Array (Option Value)} {oc13 kV13 dc13 pm13 cd13 ct13 : Value}
  {a14 : Addr} {od14 an14 : Option Addr} {sl14 : Array (Option Value)} {oc14 kV14 dc14 pm14 cd14 ct14 : Value}
  {a15 : Addr} {od15 an15 : Option Addr} {sl15 : Array (Option Value)} {oc15 kV15 dc15 pm15 cd15 ct15 : Value}
  {a16 : Addr} {od16 an16 : Option Addr} {sl16 : Array (Option Value)} {oc16 kV16 dc16 pm16 cd16 ct16 : Value}
  {a17 : Addr} {od17 an17 : Option Addr} {sl17 : Array (Option Value)} {oc17 kV17 dc17 pm17 cd17 ct17 : Value}
  {a18 : Addr} {od18 an18 : Option Addr} {sl18 : Array (Option Value)} {oc18 kV18 dc18 pm18 cd18 ct18 : Value}
  {a19 : Addr} {od19 an19 : Option Addr} {sl19 : Array (Option Value)} {oc19 kV19 dc19 pm19 cd19 ct19 : Value}
  {a20 : Addr} {od20 an20 : Option Addr} {sl20 : Array (Option Value)} {oc20 kV20 dc20 pm20 cd20 ct20 : Value}
  {a21 : Addr} {od21 an21 : Option Addr} {sl21 : Array (Option Value)} {oc21 kV21 dc21 pm21 cd21 ct21 : Value}
  {a22 : Addr} {od22 an22 : Option Addr} {sl22 : Array (Option Value)} {oc22 kV22 dc22 pm22 cd22 ct22 : Value}
  {a23 : Addr} {od23 an23 : Option Addr} {sl23 : Array (Option Value)} {oc23 kV23 dc23 pm23 cd23 ct23 : Value}
  {a24 : Addr} {od24 an24 : Option Addr} {sl24 : Array (Option Value)} {oc24 kV24 dc24 pm24 cd24 ct24 : Value}
  {a25 : Addr} {od25 an25 : Option Addr} {sl25 : Array (Option Value)} {oc25 kV25 dc25 pm25 cd25 ct25 : Value}
  {a26 : Addr} {od26 an26 : Option Addr} {sl26 : Array (Option Value)} {oc26 kV26 dc26 pm26 cd26 ct26 : Value}
  {a27 : Addr} {od27 an27 : Option Addr} {sl27 : Array (Option Value)} {oc27 kV27 dc27 pm27 cd27 ct27 : Value}
  {a28 : Addr} {od28 an28 : Option Addr} {sl28 : Array (Option Value)} {oc28 kV28 dc28 pm28 cd28 ct28 : Value}
  {a29 : Addr} {od29 an29 : Option Addr} {sl29 : Array (Option Value)} {oc29 kV29 dc29 pm29 cd29 ct29 : Value}
  {a30 : Addr} {od30 an30 : Option Addr} {sl30 : Array (Option Value)} {oc30 kV30 dc30 pm30 cd30 ct30 : Value}
  {a31 : Addr} {od31 an31 : Option Addr} {sl31 : Array (Option Value)} {oc31 kV31 dc31 pm31 cd31 ct31 : Value}
  {a32 : Addr} {od32 an32 : Option Addr} {sl32 : Array (Option Value)} {oc32 kV32 dc32 pm32 cd32 ct32 : Value}
  {a33 : Addr} {od33 an33 : Option Addr} {sl33 : Array (Option Value)} {oc33 kV33 dc33 pm33 cd33 ct33 : Value}
  {a34 : Addr} {od34 an34 : Option Addr} {sl34 : Array (Option Value)} {oc34 kV34 dc34 pm34 cd34 ct34 : Value}
  {a35 : Addr} {od35 an35 : Option Addr} {sl35 : Array (Option Value)} {oc35 kV35 dc35 pm35 cd35 ct35 : Value}
  {a36 : Addr} {od36 an36 : Option Addr} {sl36 : Array (Option Value)} {oc36 kV36 dc36 pm36 cd36 ct36 : Value}
  {a37 : Addr} {od37 an37 : Option Addr} {sl37 : Array (Option Value)} {oc37 kV37 dc37 pm37 cd37 ct37 : Value}
  (p0 : PySem.W.nsIn K mainGlobals "is_whole" = some (some (.ref a0))) (l0 : K.lookup a0 = some ⟨oc0, od0, .func (PySem.W.fnOf "is_whole" "is_whole" (defArgs s_is_whole) (defBody s_is_whole) (defScope s_is_whole) .none kV0 dc0 pm0 an0 cd0 ct0), sl0⟩) (c0 : PySem.W.codeIn K cd0 "is_whole" = true) (k0 : PySem.W.keepIn K (.ref a0) = true)
  (p1 : PySem.W.nsIn K mainGlobals "is_steps" = some (some (.ref a1))) (l1 : K.lookup a1 = some ⟨oc1, od1, .func (PySem.W.fnOf "is_steps" "is_steps" (defArgs s_is_steps) (defBody s_is_steps) (defScope s_is_steps) .none kV1 dc1 pm1 an1 cd1 ct1), sl1⟩) (c1 : PySem.W.codeIn K cd1 "is_steps" = true) (k1 : PySem.W.keepIn K (.ref a1) = true)
  (p2 : PySem.W.nsIn K mainGlobals "is_plain" = some (some (.ref a2))) (l2 : K.lookup a2 = some ⟨oc2, od2, .func (PySem.W.fnOf "is_plain" "is_plain" (defArgs s_is_plain) (defBody s_is_plain) (defScope s_is_plain) .none kV2 dc2 pm2 an2 cd2 ct2), sl2⟩) (c2 : PySem.W.codeIn K cd2 "is_plain" = true) (k2 : PySem.W.keepIn K (.ref a2) = true)
  (p3 : PySem.W.nsIn K mainGlobals "_gaps" = some (some (.ref a3))) (l3 : K.lookup a3 = some ⟨oc3, od3, .func (PySem.W.fnOf "_gaps" "_gaps" (defArgs s_gaps) (defBody s_gaps) (defScope s_gaps) .none kV3 dc3 pm3 an3 cd3 ct3), sl3⟩) (c3 : PySem.W.codeIn K cd3 "_gaps" = true) (k3 : PySem.W.keepIn K (.ref a3) = true)
  (p4 : PySem.W.nsIn K mainGlobals "_counts" = some (some (.ref a4))) (l4 : K.lookup a4 = some ⟨oc4, od4, .func (PySem.W.fnOf "_counts" "_counts" (defArgs s_counts) (defBody s_counts) (defScope s_counts) .none kV4 dc4 pm4 an4 cd4 ct4), sl4⟩) (c4 : PySem.W.codeIn K cd4 "_counts" = true) (k4 : PySem.W.keepIn K (.ref a4) = true)
  (p5 : PySem.W.nsIn K mainGlobals "_is_settled" = some (some (.ref a5))) (l5 : K.lookup a5 = some ⟨oc5, od5, .func (PySem.W.fnOf "_is_settled" "_is_settled" (defArgs s_is_settled) (defBody s_is_settled) (defScope s_is_settled) .none kV5 dc5 pm5 an5 cd5 ct5), sl5⟩) (c5 : PySem.W.codeIn K cd5 "_is_settled" = true) (k5 : PySem.W.keepIn K (.ref a5) = true)
  {T6 : Addr} {oct6 : Value} {odu6 : Option Addr} {nt6 : Nat} {slt6 : Array (Option Value)} {v6_0 : Value}
  (p6 : PySem.W.nsIn K mainGlobals "text" = some (some (.ref a6))) (l6 : K.lookup a6 = some ⟨oc6, od6, .func (PySem.W.fnOf "text" "text" (defArgs s_text) (defBody s_text) (defScope s_text) (.ref T6) kV6 dc6 pm6 an6 cd6 ct6), sl6⟩) (c6 : PySem.W.codeIn K cd6 "text" = true) (k6 : PySem.W.keepIn K (.ref a6) = true) (lT6 : K.lookup T6 = some ⟨oct6, odu6, .seq #[v6_0] nt6, slt6⟩) (rv6_0 : RelV (.str "") v6_0)
  {T7 : Addr} {oct7 : Value} {odu7 : Option Addr} {nt7 : Nat} {slt7 : Array (Option Value)} {v7_0 : Value}
  (p7 : PySem.W.nsIn K mainGlobals "line" = some (some (.ref a7))) (l7 : K.lookup a7 = some ⟨oc7, od7, .func (PySem.W.fnOf "line" "line" (defArgs s_line) (defBody s_line) (defScope s_line) (.ref T7) kV7 dc7 pm7 an7 cd7 ct7), sl7⟩) (c7 : PySem.W.codeIn K cd7 "line" = true) (k7 : PySem.W.keepIn K (.ref a7) = true) (lT7 : K.lookup T7 = some ⟨oct7, odu7, .seq #[v7_0] nt7, slt7⟩) (rv7_0 : RelV (.str " ") v7_0)
  (p8 : PySem.W.nsIn K mainGlobals "refuse_non_docs" = some (some (.ref a8))) (l8 : K.lookup a8 = some ⟨oc8, od8, .func (PySem.W.fnOf "refuse_non_docs" "refuse_non_docs" (defArgs s_refuse_non_docs) (defBody s_refuse_non_docs) (defScope s_refuse_non_docs) .none kV8 dc8 pm8 an8 cd8 ct8), sl8⟩) (c8 : PySem.W.codeIn K cd8 "refuse_non_docs" = true) (k8 : PySem.W.keepIn K (.ref a8) = true)
  (p9 : PySem.W.nsIn K mainGlobals "refuse_holes" = some (some (.ref a9))) (l9 : K.lookup a9 = some ⟨oc9, od9, .func (PySem.W.fnOf "refuse_holes" "refuse_holes" (defArgs s_refuse_holes) (defBody s_refuse_holes) (defScope s_refuse_holes) .none kV9 dc9 pm9 an9 cd9 ct9), sl9⟩) (c9 : PySem.W.codeIn K cd9 "refuse_holes" = true) (k9 : PySem.W.keepIn K (.ref a9) = true)
  {D10 : Addr} {v10_0 : Value}
  (p10 : PySem.W.nsIn K mainGlobals "joined" = some (some (.ref a10))) (l10 : K.lookup a10 = some ⟨oc10, od10, .func (PySem.W.fnOf "joined" "joined" (defArgs s_joined) (defBody s_joined) (defScope s_joined) .none (.ref D10) dc10 pm10 an10 cd10 ct10), sl10⟩) (c10 : PySem.W.codeIn K cd10 "joined" = true) (k10 : PySem.W.keepIn K (.ref a10) = true) (dv10_0 : PySem.W.nsIn K D10 "between" = some (some v10_0)) (rv10_0 : RelV (V.non) v10_0)
  {D11 : Addr} {v11_0 v11_1 : Value}
  (p11 : PySem.W.nsIn K mainGlobals "best" = some (some (.ref a11))) (l11 : K.lookup a11 = some ⟨oc11, od11, .func (PySem.W.fnOf "best" "best" (defArgs s_best) (defBody s_best) (defScope s_best) .none (.ref D11) dc11 pm11 an11 cd11 ct11), sl11⟩) (c11 : PySem.W.codeIn K cd11 "best" = true) (k11 : PySem.W.keepIn K (.ref a11) = true) (dv11_0 : PySem.W.nsIn K D11 "column" = some (some v11_0)) (rv11_0 : RelV (V.int 0) v11_0) (dv11_1 : PySem.W.nsIn K D11 "indent" = some (some v11_1)) (rv11_1 : RelV (V.int 0) v11_1)
  (p12 : PySem.W.nsIn K mainGlobals "_refuse_wrong_numbers" = some (some (.ref a12))) (l12 : K.lookup a12 = some ⟨oc12, od12, .func (PySem.W.fnOf "_refuse_wrong_numbers" "_refuse_wrong_numbers" (defArgs s_refuse_wrong_numbers) (defBody s_refuse_wrong_numbers) (defScope s_refuse_wrong_numbers) .none kV12 dc12 pm12 an12 cd12 ct12), sl12⟩) (c12 : PySem.W.codeIn K cd12 "_refuse_wrong_numbers" = true) (k12 : PySem.W.keepIn K (.ref a12) = true)
  (p13 : PySem.W.nsIn K mainGlobals "_written" = some (some (.ref a13))) (l13 : K.lookup a13 = some ⟨oc13, od13, .func (PySem.W.fnOf "_written" "_written" (defArgs s_written) (defBody s_written) (defScope s_written) .none kV13 dc13 pm13 an13 cd13 ct13), sl13⟩) (c13 : PySem.W.codeIn K cd13 "_written" = true) (k13 : PySem.W.keepIn K (.ref a13) = true)
  (p14 : PySem.W.nsIn K mainGlobals "_broken" = some (some (.ref a14))) (l14 : K.lookup a14 = some ⟨oc14, od14, .func (PySem.W.fnOf "_broken" "_broken" (defArgs s_broken) (defBody s_broken) (defScope s_broken) .none kV14 dc14 pm14 an14 cd14 ct14), sl14⟩) (c14 : PySem.W.codeIn K cd14 "_broken" = true) (k14 : PySem.W.keepIn K (.ref a14) = true)
  (p15 : PySem.W.nsIn K mainGlobals "_merged" = some (some (.ref a15))) (l15 : K.lookup a15 = some ⟨oc15, od15, .func (PySem.W.fnOf "_merged" "_merged" (defArgs s_merged) (defBody s_merged) (defScope s_merged) .none kV15 dc15 pm15 an15 cd15 ct15), sl15⟩) (c15 : PySem.W.codeIn K cd15 "_merged" = true) (k15 : PySem.W.keepIn K (.ref a15) = true)
  (p16 : PySem.W.nsIn K mainGlobals "_pruned" = some (some (.ref a16))) (l16 : K.lookup a16 = some ⟨oc16, od16, .func (PySem.W.fnOf "_pruned" "_pruned" (defArgs s_pruned) (defBody s_pruned) (defScope s_pruned) .none kV16 dc16 pm16 an16 cd16 ct16), sl16⟩) (c16 : PySem.W.codeIn K cd16 "_pruned" = true) (k16 : PySem.W.keepIn K (.ref a16) = true)
  (p17 : PySem.W.nsIn K mainGlobals "_law_at" = some (some (.ref a17))) (l17 : K.lookup a17 = some ⟨oc17, od17, .func (PySem.W.fnOf "_law_at" "_law_at" (defArgs s_l_at) (defBody s_l_at) (defScope s_l_at) .none kV17 dc17 pm17 an17 cd17 ct17), sl17⟩) (c17 : PySem.W.codeIn K cd17 "_law_at" = true) (k17 : PySem.W.keepIn K (.ref a17) = true)
  (p18 : PySem.W.nsIn K mainGlobals "_law_mixed" = some (some (.ref a18))) (l18 : K.lookup a18 = some ⟨oc18, od18, .func (PySem.W.fnOf "_law_mixed" "_law_mixed" (defArgs s_l_mixed) (defBody s_l_mixed) (defScope s_l_mixed) .none kV18 dc18 pm18 an18 cd18 ct18), sl18⟩) (c18 : PySem.W.codeIn K cd18 "_law_mixed" = true) (k18 : PySem.W.keepIn K (.ref a18) = true)
  (p19 : PySem.W.nsIn K mainGlobals "_law_purse" = some (some (.ref a19))) (l19 : K.lookup a19 = some ⟨oc19, od19, .func (PySem.W.fnOf "_law_purse" "_law_purse" (defArgs s_l_purse) (defBody s_l_purse) (defScope s_l_purse) .none kV19 dc19 pm19 an19 cd19 ct19), sl19⟩) (c19 : PySem.W.codeIn K cd19 "_law_purse" = true) (k19 : PySem.W.keepIn K (.ref a19) = true)
  (p20 : PySem.W.nsIn K mainGlobals "_law_draw" = some (some (.ref a20))) (l20 : K.lookup a20 = some ⟨oc20, od20, .func (PySem.W.fnOf "_law_draw" "_law_draw" (defArgs s_l_draw) (defBody s_l_draw) (defScope s_l_draw) .none kV20 dc20 pm20 an20 cd20 ct20), sl20⟩) (c20 : PySem.W.codeIn K cd20 "_law_draw" = true) (k20 : PySem.W.keepIn K (.ref a20) = true)
  (p21 : PySem.W.nsIn K mainGlobals "_law_rows" = some (some (.ref a21))) (l21 : K.lookup a21 = some ⟨oc21, od21, .func (PySem.W.fnOf "_law_rows" "_law_rows" (defArgs s_l_rows) (defBody s_l_rows) (defScope s_l_rows) .none kV21 dc21 pm21 an21 cd21 ct21), sl21⟩) (c21 : PySem.W.codeIn K cd21 "_law_rows" = true) (k21 : PySem.W.keepIn K (.ref a21) = true)
  (p22 : PySem.W.nsIn K mainGlobals "_law_least" = some (some (.ref a22))) (l22 : K.lookup a22 = some ⟨oc22, od22, .func (PySem.W.fnOf "_law_least" "_law_least" (defArgs s_l_least) (defBody s_l_least) (defScope s_l_least) .none kV22 dc22 pm22 an22 cd22 ct22), sl22⟩) (c22 : PySem.W.codeIn K cd22 "_law_least" = true) (k22 : PySem.W.keepIn K (.ref a22) = true)
  (p23 : PySem.W.nsIn K mainGlobals "_law_due" = some (some (.ref a23))) (l23 : K.lookup a23 = some ⟨oc23, od23, .func (PySem.W.fnOf "_law_due" "_law_due" (defArgs s_l_due) (defBody s_l_due) (defScope s_l_due) .none kV23 dc23 pm23 an23 cd23 ct23), sl23⟩) (c23 : PySem.W.codeIn K cd23 "_law_due" = true) (k23 : PySem.W.keepIn K (.ref a23) = true)
  (p24 : PySem.W.nsIn K mainGlobals "_law_built" = some (some (.ref a24))) (l24 : K.lookup a24 = some ⟨oc24, od24, .func (PySem.W.fnOf "_law_built" "_law_built" (defArgs s_l_built) (defBody s_l_built) (defScope s_l_built) .none kV24 dc24 pm24 an24 cd24 ct24), sl24⟩) (c24 : PySem.W.codeIn K cd24 "_law_built" = true) (k24 : PySem.W.keepIn K (.ref a24) = true)
  (p25 : PySem.W.nsIn K mainGlobals "law" = some (some (.ref a25))) (l25 : K.lookup a25 = some ⟨oc25, od25, .func (PySem.W.fnOf "law" "law" (defArgs s_law) (defBody s_law) (defScope s_law) .none kV25 dc25 pm25 an25 cd25 ct25), sl25⟩) (c25 : PySem.W.codeIn K cd25 "law" = true) (k25 : PySem.W.keepIn K (.ref a25) = true)
  (p26 : PySem.W.findIn K (.ref C_Node) "__init__" = some (some (.ref a26))) (i26 : PySem.W.isFn K (.ref a26) = true)
  (l26 : K.lookup a26 = some ⟨oc26, od26, .func (PySem.W.fnOf "__init__" "Node.__init__" (defArgs s_Node_init) (defBody s_Node_init) (defScope s_Node_init) .none kV26 dc26 pm26 an26 cd26 ct26), sl26⟩) (c26 : PySem.W.codeIn K cd26 "Node.__init__" = true) (k26 : PySem.W.keepIn K (.ref a26) = true)
  (p27 : PySem.W.findIn K (.ref C_Doc) "__init__" = some (some (.ref a27))) (i27 : PySem.W.isFn K (.ref a27) = true)
  (l27 : K.lookup a27 = some ⟨oc27, od27, .func (PySem.W.fnOf "__init__" "Doc.__init__" (defArgs s_Doc_init) (defBody s_Doc_init) (defScope s_Doc_init) .none kV27 dc27 pm27 an27 cd27 ct27), sl27⟩) (c27 : PySem.W.codeIn K cd27 "Doc.__init__" = true) (k27 : PySem.W.keepIn K (.ref a27) = true)
  (p28 : PySem.W.findIn K (.ref C_Doc) "__add__" = some (some (.ref a28))) (i28 : PySem.W.isFn K (.ref a28) = true)
  (l28 : K.lookup a28 = some ⟨oc28, od28, .func (PySem.W.fnOf "__add__" "Doc.__add__" (defArgs s_Doc_add) (defBody s_Doc_add) (defScope s_Doc_add) .none kV28 dc28 pm28 an28 cd28 ct28), sl28⟩) (c28 : PySem.W.codeIn K cd28 "Doc.__add__" = true) (k28 : PySem.W.keepIn K (.ref a28) = true)
  (p29 : PySem.W.findIn K (.ref C_Doc) "nested" = some (some (.ref a29))) (i29 : PySem.W.isFn K (.ref a29) = true)
  (l29 : K.lookup a29 = some ⟨oc29, od29, .func (PySem.W.fnOf "nested" "Doc.nested" (defArgs s_Doc_nested) (defBody s_Doc_nested) (defScope s_Doc_nested) .none kV29 dc29 pm29 an29 cd29 ct29), sl29⟩) (c29 : PySem.W.codeIn K cd29 "Doc.nested" = true) (k29 : PySem.W.keepIn K (.ref a29) = true)
  (p30 : PySem.W.findIn K (.ref C_Doc) "group" = some (some (.ref a30))) (i30 : PySem.W.isFn K (.ref a30) = true)
  (l30 : K.lookup a30 = some ⟨oc30, od30, .func (PySem.W.fnOf "group" "Doc.group" (defArgs s_Doc_group) (defBody s_Doc_group) (defScope s_Doc_group) .none kV30 dc30 pm30 an30 cd30 ct30), sl30⟩) (c30 : PySem.W.codeIn K cd30 "Doc.group" = true) (k30 : PySem.W.keepIn K (.ref a30) = true)
  {pp31 : Addr} {re31 : List Value} (pA31 : PySem.W.findIn K (.ref C_Doc) "holes" = some (some (.ref pp31))) (pB31 : PySem.W.specialIn K (.ref pp31) "__get__" = some (some (.builtin "property.__get__"))) (pC31 : PySem.W.takesIn K (.ref pp31) = some true) (pD31 : PySem.W.recIn K pp31 "property" = some (.ref a31 :: re31))
  (l31 : K.lookup a31 = some ⟨oc31, od31, .func (PySem.W.fnOf "holes" "Doc.holes" (defArgs s_Doc_holes) (defBody s_Doc_holes) (defScope s_Doc_holes) .none kV31 dc31 pm31 an31 cd31 ct31), sl31⟩) (c31 : PySem.W.codeIn K cd31 "Doc.holes" = true) (k31 : PySem.W.keepIn K (.ref a31) = true)
  {pp32 : Addr} {re32 : List Value} (pA32 : PySem.W.findIn K (.ref C_Doc) "ways" = some (some (.ref pp32))) (pB32 : PySem.W.specialIn K (.ref pp32) "__get__" = some (some (.builtin "property.__get__"))) (pC32 : PySem.W.takesIn K (.ref pp32) = some true) (pD32 : PySem.W.recIn K pp32 "property" = some (.ref a32 :: re32))
  (l32 : K.lookup a32 = some ⟨oc32, od32, .func (PySem.W.fnOf "ways" "Doc.ways" (defArgs s_Doc_ways) (defBody s_Doc_ways) (defScope s_Doc_ways) .none kV32 dc32 pm32 an32 cd32 ct32), sl32⟩) (c32 : PySem.W.codeIn K cd32 "Doc.ways" = true) (k32 : PySem.W.keepIn K (.ref a32) = true)
  (p33 : PySem.W.findIn K (.ref C_Search) "__init__" = some (some (.ref a33))) (i33 : PySem.W.isFn K (.ref a33) = true)
  (l33 : K.lookup a33 = some ⟨oc33, od33, .func (PySem.W.fnOf "__init__" "Search.__init__" (defArgs s_Search_init) (defBody s_Search_init) (defScope s_Search_init) .none kV33 dc33 pm33 an33 cd33 ct33), sl33⟩) (c33 : PySem.W.codeIn K cd33 "Search.__init__" = true) (k33 : PySem.W.keepIn K (.ref a33) = true)
  (p34 : PySem.W.findIn K (.ref C_Search) "run" = some (some (.ref a34))) (i34 : PySem.W.isFn K (.ref a34) = true)
  (l34 : K.lookup a34 = some ⟨oc34, od34, .func (PySem.W.fnOf "run" "Search.run" (defArgs s_Search_run) (defBody s_Search_run) (defScope s_Search_run) .none kV34 dc34 pm34 an34 cd34 ct34), sl34⟩) (c34 : PySem.W.codeIn K cd34 "Search.run" = true) (k34 : PySem.W.keepIn K (.ref a34) = true)
  (p35 : PySem.W.findIn K (.ref C_Search) "enter" = some (some (.ref a35))) (i35 : PySem.W.isFn K (.ref a35) = true)
  (l35 : K.lookup a35 = some ⟨oc35, od35, .func (PySem.W.fnOf "enter" "Search.enter" (defArgs s_Search_enter) (defBody s_Search_enter) (defScope s_Search_enter) .none kV35 dc35 pm35 an35 cd35 ct35), sl35⟩) (c35 : PySem.W.codeIn K cd35 "Search.enter" = true) (k35 : PySem.W.keepIn K (.ref a35) = true)
  (p36 : PySem.W.findIn K (.ref C_Search) "fork" = some (some (.ref a36))) (i36 : PySem.W.isFn K (.ref a36) = true)
  (l36 : K.lookup a36 = some ⟨oc36, od36, .func (PySem.W.fnOf "fork" "Search.fork" (defArgs s_Search_fork) (defBody s_Search_fork) (defScope s_Search_fork) .none kV36 dc36 pm36 an36 cd36 ct36), sl36⟩) (c36 : PySem.W.codeIn K cd36 "Search.fork" = true) (k36 : PySem.W.keepIn K (.ref a36) = true)
  (p37 : PySem.W.findIn K (.ref C_Search) "turn" = some (some (.ref a37))) (i37 : PySem.W.isFn K (.ref a37) = true)
  (l37 : K.lookup a37 = some ⟨oc37, od37, .func (PySem.W.fnOf "turn" "Search.turn" (defArgs s_Search_turn) (defBody s_Search_turn) (defScope s_Search_turn) .none kV37 dc37 pm37 an37 cd37 ct37), sl37⟩) (c37 : PySem.W.codeIn K cd37 "Search.turn" = true) (k37 : PySem.W.keepIn K (.ref a37) = true)
  (z_all : PySem.W.nsIn K mainGlobals "all" = some none)
  (z_bool : PySem.W.nsIn K mainGlobals "bool" = some none)
  (z_int : PySem.W.nsIn K mainGlobals "int" = some none)
  (z_isinstance : PySem.W.nsIn K mainGlobals "isinstance" = some none)
  (z_len : PySem.W.nsIn K mainGlobals "len" = some none)
  (z_list : PySem.W.nsIn K mainGlobals "list" = some none)
  (z_max : PySem.W.nsIn K mainGlobals "max" = some none)
  (z_min : PySem.W.nsIn K mainGlobals "min" = some none)
  (z_range : PySem.W.nsIn K mainGlobals "range" = some none)
  (z_set : PySem.W.nsIn K mainGlobals "set" = some none)
  (z_sorted : PySem.W.nsIn K mainGlobals "sorted" = some none)
  (z_str : PySem.W.nsIn K mainGlobals "str" = some none)
  (z_tuple : PySem.W.nsIn K mainGlobals "tuple" = some none)
  (z_zip : PySem.W.nsIn K mainGlobals "zip" = some none)
  (hn0 : PySem.W.specialIn K (.builtin "object.__class__") "__get__" = some (some (.builtin "getset_descriptor.__get__"))) (ht0 : PySem.W.takesIn K (.builtin "object.__class__") = some true)
  : ∃ fd : FuncData, (∀ (s : Shared) (v : Value), BindsTo s fd ⟨[v], []⟩ [("_law_script", v)]) ∧ ∀ base : Heap, K.In base → base.Ns mainGlobals mg → FnOk l.prog w K mg base CX0 35 fa fd ["_law_script"] (spLaw K) := by
  have e := hfa.symm.trans (PySem.W.mg_of X G p25)
  cases e
  have F0 := fun_mk (st := s_is_whole) l0 c0 k0
  have F1 := fun_mk (st := s_is_steps) l1 c1 k1
  have F2 := fun_mk (st := s_is_plain) l2 c2 k2
  have F3 := fun_mk (st := s_gaps) l3 c3 k3
  have F4 := fun_mk (st := s_counts) l4 c4 k4
  have F5 := fun_mk (st := s_is_settled) l5 c5 k5
  have F6 := funD_mk (st := s_text) (dvs := [(.str "")]) l6 c6 k6 lT6 rfl (by simp) (.cons rv6_0 .nil)
  have F7 := funD_mk (st := s_line) (dvs := [(.str " ")]) l7 c7 k7 lT7 rfl (by simp) (.cons rv7_0 .nil)
  have F8 := fun_mk (st := s_refuse_non_docs) l8 c8 k8
  have F9 := fun_mk (st := s_refuse_holes) l9 c9 k9
  have F10 := funK_mk (st := s_joined) (kws := [("between", .non)]) l10 c10 k10 (by intro q hq; simp only [List.mem_cons, List.not_mem_nil, or_false] at hq; rcases hq with rfl; exact ⟨_, dv10_0, rv10_0⟩)
  have F11 := funK_mk (st := s_best) (kws := [("column", .int 0), ("indent", .int 0)]) l11 c11 k11 (by intro q hq; simp only [List.mem_cons, List.not_mem_nil, or_false] at hq; rcases hq with rfl | rfl; exact ⟨_, dv11_0, rv11_0⟩; exact ⟨_, dv11_1, rv11_1⟩)
  have F12 := fun_mk (st := s_refuse_wrong_numbers) l12 c12 k12
  have F13 := fun_mk (st := s_written) l13 c13 k13
  have F14 := fun_mk (st := s_broken) l14 c14 k14
  have F15 := fun_mk (st := s_merged) l15 c15 k15
  have F16 := fun_mk (st := s_pruned) l16 c16 k16
  have F17 := fun_mk (st := s_l_at) l17 c17 k17
  have F18 := fun_mk (st := s_l_mixed) l18 c18 k18
  have F19 := fun_mk (st := s_l_purse) l19 c19 k19
  have F20 := fun_mk (st := s_l_draw) l20 c20 k20
  have F21 := fun_mk (st := s_l_rows) l21 c21 k21
  have F22 := fun_mk (st := s_l_least) l22 c22 k22
  have F23 := fun_mk (st := s_l_due) l23 c23 k23
  have F24 := fun_mk (st := s_l_built) l24 c24 k24
  have F25 := fun_mk (st := s_law) l25 c25 k25
  have F26 := fun_mk (st := s_Node_init) l26 c26 k26
  have F27 := fun_mk (st := s_Doc_init) l27 c27 k27
  have F28 := fun_mk (st := s_Doc_add) l28 c28 k28
  have F29 := fun_mk (st := s_Doc_nested) l29 c29 k29
  have F30 := fun_mk (st := s_Doc_group) l30 c30 k30
  have F31 := fun_mk (st := s_Doc_holes) l31 c31 k31
  have F32 := fun_mk (st := s_Doc_ways) l32 c32 k32
  have F33 := fun_mk (st := s_Search_init) l33 c33 k33
  have F34 := fun_mk (st := s_Search_run) l34 c34 k34
  have F35 := fun_mk (st := s_Search_enter) l35 c35 k35
  have F36 := fun_mk (st := s_Search_fork) l36 c36 k36
  have F37 := fun_mk (st := s_Search_turn) l37 c37 k37
  let T : Tx K mg := {
    a_is_whole := a0, d_is_whole := _, F_is_whole := F0, m_is_whole := PySem.W.mg_of X G p0
    b_is_whole := F0.binds (ps := ["thing"]) fun _ _ _ _ _ _ us hl => match us, hl with | [_], _ => rfl
    a_is_steps := a1, d_is_steps := _, F_is_steps := F1, m_is_steps := PySem.W.mg_of X G p1
    b_is_steps := F1.binds (ps := ["thing"]) fun _ _ _ _ _ _ us hl => match us, hl with | [_], _ => rfl
    a_is_plain := a2, d_is_plain := _, F_is_plain := F2, m_is_plain := PySem.W.mg_of X G p2
    b_is_plain := F2.binds (ps := ["thing"]) fun _ _ _ _ _ _ us hl => match us, hl with | [_], _ => rfl
    a_gaps := a3, d_gaps := _, F_gaps := F3, m_gaps := PySem.W.mg_of X G p3
    b_gaps := F3.binds (ps := ["kind", "own", "inner"]) fun _ _ _ _ _ _ us hl => match us, hl with | [_, _, _], _ => rfl
    a_counts := a4, d_counts := _, F_counts := F4, m_counts := PySem.W.mg_of X G p4
    b_counts := F4.binds (ps := ["kind", "own", "inner"]) fun _ _ _ _ _ _ us hl => match us, hl with | [_, _, _], _ => rfl
    a_is_settled := a5, d_is_settled := _, F_is_settled := F5, m_is_settled := PySem.W.mg_of X G p5
    b_is_settled := F5.binds (ps := ["kind", "flat", "inner"]) fun _ _ _ _ _ _ us hl => match us, hl with | [_, _, _], _ => rfl
    a_text := a6, d_text := _, F_text := F6, m_text := PySem.W.mg_of X G p6
    b_text := b1_of F6 1 (by simp) rfl fun _ _ _ _ _ _ _ us its l1 l2 => match us, its, l1, l2 with | [_], [_], _, _ => ⟨_, rfl, rfl⟩
    b_text_0 := F6.binds1 (ps := ["string"]) 0 0 (by simp) rfl fun _ _ _ _ _ _ _ us its l1 l2 => match us, its, l1, l2 with | [], [_], _, _ => ⟨_, rfl, rfl⟩
    a_line := a7, d_line := _, F_line := F7, m_line := PySem.W.mg_of X G p7
    b_line := b1_of F7 1 (by simp) rfl fun _ _ _ _ _ _ _ us its l1 l2 => match us, its, l1, l2 with | [_], [_], _, _ => ⟨_, rfl, rfl⟩
    b_line_0 := F7.binds1 (ps := ["flat"]) 0 0 (by simp) rfl fun _ _ _ _ _ _ _ us its l1 l2 => match us, its, l1, l2 with | [], [_], _, _ => ⟨_, rfl, rfl⟩
    a_refuse_non_docs := a8, d_refuse_non_docs := _, F_refuse_non_docs := F8, m_refuse_non_docs := PySem.W.mg_of X G p8
    b_refuse_non_docs := F8.binds (ps := ["things"]) fun _ _ _ _ _ _ us hl => match us, hl with | [_], _ => rfl
    a_refuse_holes := a9, d_refuse_holes := _, F_refuse_holes := F9, m_refuse_holes := PySem.W.mg_of X G p9
    b_refuse_holes := F9.binds (ps := ["doc"]) fun _ _ _ _ _ _ us hl => match us, hl with | [_], _ => rfl
    a_joined := a10, d_joined := _, F_joined := F10, m_joined := PySem.W.mg_of X G p10
    a_best := a11, d_best := _, F_best := F11, m_best := PySem.W.mg_of X G p11
    a_refuse_wrong_numbers := a12, d_refuse_wrong_numbers := _, F_refuse_wrong_numbers := F12, m_refuse_wrong_numbers := PySem.W.mg_of X G p12
    b_refuse_wrong_numbers := F12.binds (ps := ["width", "column", "indent"]) fun _ _ _ _ _ _ us hl => match us, hl with | [_, _, _], _ => rfl
    a_written := a13, d_written := _, F_written := F13, m_written := PySem.W.mg_of X G p13
    b_written := F13.binds (ps := ["states", "string", "width"]) fun _ _ _ _ _ _ us hl => match us, hl with | [_, _, _], _ => rfl
    a_broken := a14, d_broken := _, F_broken := F14, m_broken := PySem.W.mg_of X G p14
    b_broken := F14.binds (ps := ["states", "steps", "indent", "width"]) fun _ _ _ _ _ _ us hl => match us, hl with | [_, _, _, _], _ => rfl
    a_merged := a15, d_merged := _, F_merged := F15, m_merged := PySem.W.mg_of X G p15
    b_merged := F15.binds (ps := ["one", "other"]) fun _ _ _ _ _ _ us hl => match us, hl with | [_, _], _ => rfl
    a_pruned := a16, d_pruned := _, F_pruned := F16, m_pruned := PySem.W.mg_of X G p16
    b_pruned := F16.binds (ps := ["states"]) fun _ _ _ _ _ _ us hl => match us, hl with | [_], _ => rfl
    a_l_at := a17, d_l_at := _, F_l_at := F17, m_l_at := PySem.W.mg_of X G p17
    b_l_at := F17.binds (ps := ["_law_script", "_law_k"]) fun _ _ _ _ _ _ us hl => match us, hl with | [_, _], _ => rfl
    a_l_mixed := a18, d_l_mixed := _, F_l_mixed := F18, m_l_mixed := PySem.W.mg_of X G p18
    b_l_mixed := F18.binds (ps := ["_law_cell", "_law_k"]) fun _ _ _ _ _ _ us hl => match us, hl with | [_, _], _ => rfl
    a_l_purse := a19, d_l_purse := _, F_l_purse := F19, m_l_purse := PySem.W.mg_of X G p19
    b_l_purse := F19.binds (ps := ["_law_script", "_law_at_here"]) fun _ _ _ _ _ _ us hl => match us, hl with | [_, _], _ => rfl
    a_l_draw := a20, d_l_draw := _, F_l_draw := F20, m_l_draw := PySem.W.mg_of X G p20
    b_l_draw := F20.binds (ps := ["_law_purse_here", "_law_out_of"]) fun _ _ _ _ _ _ us hl => match us, hl with | [_, _], _ => rfl
    a_l_rows := a21, d_l_rows := _, F_l_rows := F21, m_l_rows := PySem.W.mg_of X G p21
    b_l_rows := F21.binds (ps := ["_law_words", "_law_flats", "_law_steps", "_law_wide", "_law_deep"]) fun _ _ _ _ _ _ us hl => match us, hl with | [_, _, _, _, _], _ => rfl
    a_l_least := a22, d_l_least := _, F_l_least := F22, m_l_least := PySem.W.mg_of X G p22
    b_l_least := F22.binds (ps := ["_law_words", "_law_flats", "_law_found", "_law_k", "_law_steps", "_law_wide", "_law_start"]) fun _ _ _ _ _ _ us hl => match us, hl with | [_, _, _, _, _, _, _], _ => rfl
    a_l_due := a23, d_l_due := _, F_l_due := F23, m_l_due := PySem.W.mg_of X G p23
    b_l_due := F23.binds (ps := ["_law_words", "_law_flats", "_law_steps", "_law_wide", "_law_first", "_law_deep"]) fun _ _ _ _ _ _ us hl => match us, hl with | [_, _, _, _, _, _], _ => rfl
    a_l_built := a24, d_l_built := _, F_l_built := F24, m_l_built := PySem.W.mg_of X G p24
    b_l_built := F24.binds (ps := ["_law_words", "_law_flats", "_law_way"]) fun _ _ _ _ _ _ us hl => match us, hl with | [_, _, _], _ => rfl
    a_law := fa, d_law := _, F_law := F25, m_law := PySem.W.mg_of X G p25
    b_law := F25.binds (ps := ["_law_script"]) fun _ _ _ _ _ _ us hl => match us, hl with | [_], _ => rfl
    a_Node_init := a26, d_Node_init := _, F_Node_init := F26
    b_Node_init := F26.binds (ps := ["self", "kind", "own", "inner"]) fun _ _ _ _ _ _ us hl => match us, hl with | [_, _, _, _], _ => rfl
    a_Doc_init := a27, d_Doc_init := _, F_Doc_init := F27
    b_Doc_init := F27.binds (ps := ["self", "node"]) fun _ _ _ _ _ _ us hl => match us, hl with | [_, _], _ => rfl
    a_Doc_add := a28, d_Doc_add := _, F_Doc_add := F28
    b_Doc_add := F28.binds (ps := ["self", "other"]) fun _ _ _ _ _ _ us hl => match us, hl with | [_, _], _ => rfl
    a_Doc_nested := a29, d_Doc_nested := _, F_Doc_nested := F29
    b_Doc_nested := F29.binds (ps := ["self", "steps"]) fun _ _ _ _ _ _ us hl => match us, hl with | [_, _], _ => rfl
    a_Doc_group := a30, d_Doc_group := _, F_Doc_group := F30
    b_Doc_group := F30.binds (ps := ["self"]) fun _ _ _ _ _ _ us hl => match us, hl with | [_], _ => rfl
    a_Doc_holes := a31, d_Doc_holes := _, F_Doc_holes := F31
    b_Doc_holes := F31.binds (ps := ["self"]) fun _ _ _ _ _ _ us hl => match us, hl with | [_], _ => rfl
    a_Doc_ways := a32, d_Doc_ways := _, F_Doc_ways := F32
    b_Doc_ways := F32.binds (ps := ["self"]) fun _ _ _ _ _ _ us hl => match us, hl with | [_], _ => rfl
    a_Search_init := a33, d_Search_init := _, F_Search_init := F33
    b_Search_init := F33.binds (ps := ["self", "width", "column", "indent"]) fun _ _ _ _ _ _ us hl => match us, hl with | [_, _, _, _], _ => rfl
    a_Search_run := a34, d_Search_run := _, F_Search_run := F34
    b_Search_run := F34.binds (ps := ["self", "node"]) fun _ _ _ _ _ _ us hl => match us, hl with | [_, _], _ => rfl
    a_Search_enter := a35, d_Search_enter := _, F_Search_enter := F35
    b_Search_enter := F35.binds (ps := ["self", "node", "flat", "steps"]) fun _ _ _ _ _ _ us hl => match us, hl with | [_, _, _, _], _ => rfl
    a_Search_fork := a36, d_Search_fork := _, F_Search_fork := F36
    b_Search_fork := F36.binds (ps := ["self", "first", "second"]) fun _ _ _ _ _ _ us hl => match us, hl with | [_, _, _], _ => rfl
    a_Search_turn := a37, d_Search_turn := _, F_Search_turn := F37
    b_Search_turn := F37.binds (ps := ["self"]) fun _ _ _ _ _ _ us hl => match us, hl with | [_], _ => rfl
    z_all := PySem.W.mg_none_of X G z_all
    z_bool := PySem.W.mg_none_of X G z_bool
    z_int := PySem.W.mg_none_of X G z_int
    z_isinstance := PySem.W.mg_none_of X G z_isinstance
    z_len := PySem.W.mg_none_of X G z_len
    z_list := PySem.W.mg_none_of X G z_list
    z_max := PySem.W.mg_none_of X G z_max
    z_min := PySem.W.mg_none_of X G z_min
    z_range := PySem.W.mg_none_of X G z_range
    z_set := PySem.W.mg_none_of X G z_set
    z_sorted := PySem.W.mg_none_of X G z_sorted
    z_str := PySem.W.mg_none_of X G z_str
    z_tuple := PySem.W.mg_none_of X G z_tuple
    z_zip := PySem.W.mg_none_of X G z_zip
    u_MOST_STEPS := u_MOST_STEPS, c_MOST_STEPS := PySem.W.mg_of X G c_MOST_STEPS, r_MOST_STEPS := rv_MOST_STEPS
    u_ENTER := u_ENTER, c_ENTER := PySem.W.mg_of X G c_ENTER, r_ENTER := rv_ENTER
    u_TURN := u_TURN, c_TURN := PySem.W.mg_of X G c_TURN, r_TURN := rv_TURN
    u_MERGE := u_MERGE, c_MERGE := PySem.W.mg_of X G c_MERGE, r_MERGE := rv_MERGE
    u_PAGE := u_PAGE, c_PAGE := PySem.W.mg_of X G c_PAGE, r_PAGE := rv_PAGE
    C_Node := C_Node, mc_Node := PySem.W.mg_of X G pc_Node, cls_Node := ⟨pg_Node, hd_Node, po_Node, sa_Node⟩
    na_Node_kind := na_Node_kind
    na_Node_own := na_Node_own
    na_Node_inner := na_Node_inner
    na_Node_gaps := na_Node_gaps
    na_Node_size := na_Node_size
    na_Node_most := na_Node_most
    na_Node_settled := na_Node_settled
    na_Node_broken := na_Node_broken
    na_Node_flat := na_Node_flat
    mk_Node := ⟨mk_Node, p26, i26, kc_Node⟩
    C_Doc := C_Doc, mc_Doc := PySem.W.mg_of X G pc_Doc, cls_Doc := ⟨pg_Doc, hd_Doc, po_Doc, sa_Doc⟩
    na_Doc_node := na_Doc_node
    mk_Doc := ⟨mk_Doc, p27, i27, kc_Doc⟩
    me_Doc_add := ⟨p28, i28, k28⟩
    me_Doc_nested := ⟨p29, i29, k29⟩
    me_Doc_group := ⟨p30, i30, k30⟩
    pp_Doc_holes := pp31, pr_Doc_holes := ⟨pA31, pB31, pC31, ⟨_, pD31⟩⟩
    pp_Doc_ways := pp32, pr_Doc_ways := ⟨pA32, pB32, pC32, ⟨_, pD32⟩⟩
    so_Doc := so_Doc
    C_Search := C_Search, mc_Search := PySem.W.mg_of X G pc_Search, cls_Search := ⟨pg_Search, hd_Search, po_Search, sa_Search⟩
    na_Search_limit := na_Search_limit
    na_Search_left := na_Search_left
    na_Search_states := na_Search_states
    na_Search_kept := na_Search_kept
    na_Search_todo := na_Search_todo
    mk_Search := ⟨mk_Search, p33, i33, kc_Search⟩
    me_Search_run := ⟨p34, i34, k34⟩
    me_Search_enter := ⟨p35, i35, k35⟩
    me_Search_fork := ⟨p36, i36, k36⟩
    me_Search_turn := ⟨p37, i37, k37⟩
    ty_Doc := fun ea => .base (.ins ea ⟨pg_Doc, hd_Doc, po_Doc, sa_Doc⟩ cb_Doc hn0 ht0 mq_Doc)
    ko_NoneType_Doc := kit_ty ks_NoneType_Doc hd_Doc tt_Doc
    ko_bool_Doc := kit_ty ks_bool_Doc hd_Doc tt_Doc
    ko_int_Doc := kit_ty ks_int_Doc hd_Doc tt_Doc
    ko_str_Doc := kit_ty ks_str_Doc hd_Doc tt_Doc
    ko_tuple_Doc := kit_ty ks_tuple_Doc hd_Doc tt_Doc
    ko_list_Doc := kit_ty ks_list_Doc hd_Doc tt_Doc
    kb_best_1_width_column_indent := F11.kbinds0 (ps := ["doc", "width", "column", "indent"]) 1 ["width", "column", "indent"] [] (fun us mv ws => seg us 0 ++ seg ws 0 ++ seg ws 1 ++ seg ws 2) (by simp) (by simp) (fun r1 r2 r3 => (((seg_rel r1 0).append (seg_rel r3 0)).append (seg_rel r3 1)).append (seg_rel r3 2)) fun _ _ _ _ _ _ us mv ws l1 l2 l3 => match us, mv, ws, l1, l2, l3 with | [_], [], [_, _, _], _, _, _ => rfl
  }
  exact ⟨T.d_law, fun s v => .of_eq rfl, fun base _ _ => main_ok T⟩
theorem walk {l : PySem.W.OpenLaw} {q : Program} {loose : List Str} {XP : (Str → Option Value) → Heap → Prop} {YP : World → Heap → Prop} {d : DefRec} {K : Params → PySem.W.Frag} (hn : l.most = some 63) (hdf : d.params.defaults = [])
    (hY : ∀ (w : World) (h : Heap), YP w h → (K w.params).In h)
    (F : ∀ (w : World) (mg : Str → Option Value) (fa : Addr) (h : Heap), (K w.params).In h → h.Ns mainGlobals mg → mg d.name = some (.ref fa) →
      ∃ fd : FuncData, (∀ (s : Shared) (u : Value), BindsTo s fd ⟨[u], []⟩ [("_law_script", u)]) ∧ ∀ base : Heap, (K w.params).In base → base.Ns mainGlobals mg → FnOk l.prog w (K w.params) mg base CX0 35 fa fd ["_law_script"] (spLaw (K w.params))) :
    PySem.W.WalkO q loose XP YP l.row.toRowW d [] (fun f vs => PySem.call f vs) :=
  L2.walk_of (n := 63) (k := 35) (x := "_law_script") (CX := fun _ => CX0) (sp := fun w => spLaw (K w.params)) hn (by decide) hdf ⟨rfl, by decide, by decide⟩ hY F (fun _ _ a ns hl _ hS => ⟨a, ns, rfl, hS, hl, fun _ => rfl⟩) fun _ _ _ _ _ z => z
end K33
open PySem PySem.W PyProof.Rows in
set_option maxRecDepth 100000 in
set_option maxHeartbeats 0 in
theorem PySem.Challenge.cw_layoutsets_k32_best_layouts_of_long_text_holds : PySem.Challenge.rw_layoutsets_k32_best_layouts_of_long_text.Holds := by
  w_on; o_law; k_head; (case hw => w_witness2)
  k_fill
  refine K33.walk (l := PySem.Challenge.rw_layoutsets_k32_best_layouts_of_long_text) rfl rfl (fun w h Y => PySem.W.kIn_of Y) ?F
  case F =>
    intro w mg fa h KX G hmg
    refine' K33.all_mk KX G hmg ?c_MOST_STEPS ?rv_MOST_STEPS ?c_ENTER ?rv_ENTER ?c_TURN ?rv_TURN ?c_MERGE ?rv_MERGE ?c_PAGE ?rv_PAGE ?pc_Node ?pg_Node ?hd_Node ?po_Node ?sa_Node ?mk_Node ?kc_Node ?na_Node_kind ?na_Node_own ?na_Node_inner ?na_Node_gaps ?na_Node_size ?na_Node_most ?na_Node_settled ?na_Node_broken ?na_Node_flat ?pc_Doc ?pg_Doc ?hd_Doc ?po_Doc ?sa_Doc ?mk_Doc ?kc_Doc ?na_Doc_node ?so_Doc ?pc_Search ?pg_Search ?hd_Search ?po_Search ?sa_Search ?mk_Search ?kc_Search ?na_Search_limit ?na_Search_left ?na_Search_states ?na_Search_kept ?na_Search_todo ?tt_Doc ?cb_Doc ?mq_Doc ?ks_NoneType_Doc ?ks_bool_Doc ?ks_int_Doc ?ks_str_Doc ?ks_tuple_Doc ?ks_list_Doc ?p0 ?l0 ?c0 ?k0 ?p1 ?l1 ?c1 ?k1 ?p2 ?l2 ?c2 ?k2 ?p3 ?l3 ?c3 ?k3 ?p4 ?l4 ?c4 ?k4 ?p5 ?l5 ?c5 ?k5 ?p6 ?l6 ?c6 ?k6 ?lT6 ?rv6_0 ?p7 ?l7 ?c7 ?k7 ?lT7 ?rv7_0 ?p8 ?l8 ?c8 ?k8 ?p9 ?l9 ?c9 ?k9 ?p10 ?l10 ?c10 ?k10 ?dv10_0 ?rv10_0 ?p11 ?l11 ?c11 ?k11 ?dv11_0 ?rv11_0 ?dv11_1 ?rv11_1 ?p12 ?l12 ?c12 ?k12 ?p13 ?l13 ?c13 ?k13 ?p14 ?l14 ?c14 ?k14 ?p15 ?l15 ?c15 ?k15 ?p16 ?l16 ?c16 ?k16 ?p17 ?l17 ?c17 ?k17 ?p18 ?l18 ?c18 ?k18 ?p19 ?l19 ?c19 ?k19 ?p20 ?l20 ?c20 ?k20 ?p21 ?l21 ?c21 ?k21 ?p22 ?l22 ?c22 ?k22 ?p23 ?l23 ?c23 ?k23 ?p24 ?l24 ?c24 ?k24 ?p25 ?l25 ?c25 ?k25 ?p26 ?i26 ?l26 ?c26 ?k26 ?p27 ?i27 ?l27 ?c27 ?k27 ?p28 ?i28 ?l28 ?c28 ?k28 ?p29 ?i29 ?l29 ?c29 ?k29 ?p30 ?i30 ?l30 ?c30 ?k30 ?pA31 ?pB31 ?pC31 ?pD31 ?l31 ?c31 ?k31 ?pA32 ?pB32 ?pC32 ?pD32 ?l32 ?c32 ?k32 ?p33 ?i33 ?l33 ?c33 ?k33 ?p34 ?i34 ?l34 ?c34 ?k34 ?p35 ?i35 ?l35 ?c35 ?k35 ?p36 ?i36 ?l36 ?c36 ?k36 ?p37 ?i37 ?l37 ?c37 ?k37 ?z_all ?z_bool ?z_int ?z_isinstance ?z_len ?z_list ?z_max ?z_min ?z_range ?z_set ?z_sorted ?z_str ?z_tuple ?z_zip ?hn0 ?ht0
    (case c_MOST_STEPS => k_is)
    (case rv_MOST_STEPS => first | rfl | exact ⟨_, rfl⟩)
    (case c_ENTER => k_is)
    (case rv_ENTER => first | rfl | exact ⟨_, rfl⟩)
    (case c_TURN => k_is)
    (case rv_TURN => first | rfl | exact ⟨_, rfl⟩)
    (case c_MERGE => k_is)
    (case rv_MERGE => first | rfl | exact ⟨_, rfl⟩)
    (case c_PAGE => k_is)
    (case rv_PAGE => first | rfl | exact ⟨_, rfl⟩)
    (case pc_Node => k_is)
    (case pg_Node => k_is)
    (case hd_Node => k_is)
    (case po_Node => k_is)
    (case sa_Node => k_is)
    (case mk_Node => k_is)
    (case kc_Node => k_is)
    (case na_Node_kind => k_is)
    (case na_Node_own => k_is)
    (case na_Node_inner => k_is)
    (case na_Node_gaps => k_is)
    (case na_Node_size => k_is)
    (case na_Node_most => k_is)
    (case na_Node_settled => k_is)
    (case na_Node_broken => k_is)
    (case na_Node_flat => k_is)
    (case pc_Doc => k_is)
    (case pg_Doc => k_is)
    (case hd_Doc => k_is)
    (case po_Doc => k_is)
    (case sa_Doc => k_is)
    (case mk_Doc => k_is)
    (case kc_Doc => k_is)
    (case na_Doc_node => k_is)
    (case so_Doc => k_is)
    (case pc_Search => k_is)
    (case pg_Search => k_is)
    (case hd_Search => k_is)
    (case po_Search => k_is)
    (case sa_Search => k_is)
    (case mk_Search => k_is)
    (case kc_Search => k_is)
    (case na_Search_limit => k_is)
    (case na_Search_left => k_is)
    (case na_Search_states => k_is)
    (case na_Search_kept => k_is)
    (case na_Search_todo => k_is)
    (case tt_Doc => k_is)
    (case cb_Doc => k_is)
    (case mq_Doc => k_is)
    (case ks_NoneType_Doc => k_is)
    (case ks_bool_Doc => k_is)
    (case ks_int_Doc => k_is)
    (case ks_str_Doc => k_is)
    (case ks_tuple_Doc => k_is)
    (case ks_list_Doc => k_is)
    (case p0 => k_is)
    (case l0 => k_is)
    (case c0 => k_is)
    (case k0 => k_is)
    (case p1 => k_is)
    (case l1 => k_is)
    (case c1 => k_is)
    (case k1 => k_is)
    (case p2 => k_is)
    (case l2 => k_is)
    (case c2 => k_is)
    (case k2 => k_is)
    (case p3 => k_is)
    (case l3 => k_is)
    (case c3 => k_is)
    (case k3 => k_is)
    (case p4 => k_is)
    (case l4 => k_is)
    (case c4 => k_is)
    (case k4 => k_is)
    (case p5 => k_is)
    (case l5 => k_is)
    (case c5 => k_is)
    (case k5 => k_is)
    (case p6 => k_is)
    (case l6 => k_is)
    (case c6 => k_is)
    (case k6 => k_is)
    (case lT6 => k_is)
    (case rv6_0 => first | rfl | exact ⟨_, rfl⟩)
    (case p7 => k_is)
    (case l7 => k_is)
    (case c7 => k_is)
    (case k7 => k_is)
    (case lT7 => k_is)
    (case rv7_0 => first | rfl | exact ⟨_, rfl⟩)
    (case p8 => k_is)
    (case l8 => k_is)
    (case c8 => k_is)
    (case k8 => k_is)
    (case p9 => k_is)
    (case l9 => k_is)
    (case c9 => k_is)
    (case k9 => k_is)
    (case p10 => k_is)
    (case l10 => k_is)
    (case c10 => k_is)
    (case k10 => k_is)
    (case dv10_0 => k_is)
    (case rv10_0 => first | rfl | exact ⟨_, rfl⟩)
    (case p11 => k_is)
    (case l11 => k_is)
    (case c11 => k_is)
    (case k11 => k_is)
    (case dv11_0 => k_is)
    (case rv11_0 => first | rfl | exact ⟨_, rfl⟩)
    (case dv11_1 => k_is)
    (case rv11_1 => first | rfl | exact ⟨_, rfl⟩)
    (case p12 => k_is)
    (case l12 => k_is)
    (case c12 => k_is)
    (case k12 => k_is)
    (case p13 => k_is)
    (case l13 => k_is)
    (case c13 => k_is)
    (case k13 => k_is)
    (case p14 => k_is)
    (case l14 => k_is)
    (case c14 => k_is)
    (case k14 => k_is)
    (case p15 => k_is)
    (case l15 => k_is)
    (case c15 => k_is)
    (case k15 => k_is)
    (case p16 => k_is)
    (case l16 => k_is)
    (case c16 => k_is)
    (case k16 => k_is)
    (case p17 => k_is)
    (case l17 => k_is)
    (case c17 => k_is)
    (case k17 => k_is)
    (case p18 => k_is)
    (case l18 => k_is)
    (case c18 => k_is)
    (case k18 => k_is)
    (case p19 => k_is)
    (case l19 => k_is)
    (case c19 => k_is)
    (case k19 => k_is)
    (case p20 => k_is)
    (case l20 => k_is)
    (case c20 => k_is)
    (case k20 => k_is)
    (case p21 => k_is)
    (case l21 => k_is)
    (case c21 => k_is)
    (case k21 => k_is)
    (case p22 => k_is)
    (case l22 => k_is)
    (case c22 => k_is)
    (case k22 => k_is)
    (case p23 => k_is)
    (case l23 => k_is)
    (case c23 => k_is)
    (case k23 => k_is)
    (case p24 => k_is)
    (case l24 => k_is)
    (case c24 => k_is)
    (case k24 => k_is)
    (case p25 => k_is)
    (case l25 => k_is)
    (case c25 => k_is)
    (case k25 => k_is)
    (case p26 => k_is)
    (case i26 => k_is)
    (case l26 => k_is)
    (case c26 => k_is)
    (case k26 => k_is)
    (case p27 => k_is)
    (case i27 => k_is)
    (case l27 => k_is)
    (case c27 => k_is)
    (case k27 => k_is)
    (case p28 => k_is)
    (case i28 => k_is)
    (case l28 => k_is)
    (case c28 => k_is)
    (case k28 => k_is)
    (case p29 => k_is)
    (case i29 => k_is)
    (case l29 => k_is)
    (case c29 => k_is)
    (case k29 => k_is)
    (case p30 => k_is)
    (case i30 => k_is)
    (case l30 => k_is)
    (case c30 => k_is)
    (case k30 => k_is)
    (case pA31 => k_is)
    (case pB31 => k_is)
    (case pC31 => k_is)
    (case pD31 => k_is)
    (case l31 => k_is)
    (case c31 => k_is)
    (case k31 => k_is)
    (case pA32 => k_is)
    (case pB32 => k_is)
    (case pC32 => k_is)
    (case pD32 => k_is)
    (case l32 => k_is)
    (case c32 => k_is)
    (case k32 => k_is)
    (case p33 => k_is)
    (case i33 => k_is)
    (case l33 => k_is)
    (case c33 => k_is)
    (case k33 => k_is)
    (case p34 => k_is)
    (case i34 => k_is)
    (case l34 => k_is)
    (case c34 => k_is)
    (case k34 => k_is)
    (case p35 => k_is)
    (case i35 => k_is)
    (case l35 => k_is)
    (case c35 => k_is)
    (case k35 => k_is)
    (case p36 => k_is)
    (case i36 => k_is)
    (case l36 => k_is)
    (case c36 => k_is)
    (case k36 => k_is)
    (case p37 => k_is)
    (case i37 => k_is)
    (case l37 => k_is)
    (case c37 => k_is)
    (case k37 => k_is)
    (case z_all => k_is)
    (case z_bool => k_is)
    (case z_int => k_is)
    (case z_isinstance => k_is)
    (case z_len => k_is)
    (case z_list => k_is)
    (case z_max => k_is)
    (case z_min => k_is)
    (case z_range => k_is)
    (case z_set => k_is)
    (case z_sorted => k_is)
    (case z_str => k_is)
    (case z_tuple => k_is)
    (case z_zip => k_is)
    (case hn0 => k_is)
    (case ht0 => k_is)
