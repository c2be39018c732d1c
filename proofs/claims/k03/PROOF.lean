import PyProof.Rows.All
import Wide.All
import OpenK.AllK
import Wide.FinOn
import HandS.ForMost
import HandS.Codes
import HandS.IsInst
import HandS.Strs
import HandS.Star
import HandS.Style
import HandS.SortInts
import HandS.Conv
import HandS.More
import HandS.Wide
import HandS.TupAny
import HandS.Flow
import PyProof.EqAt
import PyProof.EqKinds
import PyProof.TupleCall
import KE.KFromBytes
import KE.KExcSuper
import HandS.Base
import HandS.Call
import HandS.List
import HandS.Ends
import HandS.Exc
import HandS.ExcInit
import HandS.FStr
import KE.KExcIs
import HandS.ExcIs
import HandS.ExcField
import HandS.SetFor
import HandS.Lambda
import HandS.WordsExc
import HandS.ExcOwn
import HandS.HeadHook1
import HandS.Head0
import HandS.Head1
import HandS.Head2
import HandS.HeadEnd
import HandS.HeadHook2
import HandS.HeadHook3
import HandS.HeadHook4
import HandS.HeadWalk
import PySem.Challenge.RW_movesatonce_k03_single_moves
set_option Elab.async false
set_option linter.all false
set_option maxRecDepth 100000
set_option maxHeartbeats 4000000
namespace MV
open PySem PySem.Spec PyProof.Rows L2
/-! ### what is known and stays (G), what stands (H); M: the addresses that may be written -/
structure Ext (M : List Addr) (G H G1 H1 : Hp) : Prop where
  g : Same G G1
  s : Same G1 H1
  h : ∀ b o, b ∉ M → H b = some o → H1 b = some o
  d : ∀ b, H1 b = none → H b = none
  n : ∀ b, G1 b = G b ∨ H b = none
section
variable {M : List Addr} {G H G1 H1 G2 H2 : Hp} {p : Addr} {o : HO}
theorem Ext.refl (s : Same G H) : Ext M G H G H := ⟨Same.refl _, s, fun _ _ _ h => h, fun _ h => h, fun _ => .inl rfl⟩
theorem Ext.trans (a : Ext M G H G1 H1) (b : Ext M G1 H1 G2 H2) : Ext M G H G2 H2 :=
  ⟨a.g.trans b.g, b.s, fun c u m h => b.h c u m (a.h c u m h), fun c h => a.d c (b.d c h), fun c => (b.n c).elim (fun e => (a.n c).elim (fun f => .inl (e.trans f)) .inr) fun e => .inr (a.d c e)⟩
theorem Ext.wide {M2 : List Addr} (a : Ext M G H G1 H1) (h : ∀ x, x ∈ M → x ∈ M2) : Ext M2 G H G1 H1 := ⟨a.g, a.s, fun c u m e => a.h c u (fun z => m (h c z)) e, a.d, a.n⟩
theorem Ext.to (a : Ext [] G H G1 H1) : Ext M G H G1 H1 := a.wide fun _ h => nomatch h
theorem Ext.same (a : Ext [] G H G1 H1) : Same H H1 := fun b u e => a.h b u (fun h => nomatch h) e
theorem Ext.keep (a : Ext M G H G1 H1) (h : H p = some o) (m : p ∉ M) : H1 p = some o := a.h p o m h
theorem Ext.keep0 (a : Ext [] G H G1 H1) (h : H p = some o) : H1 p = some o := a.same p o h
/-- what G does not know and stands stays unknown -/
theorem Ext.un (a : Ext M G H G1 H1) (g : G p = none) (h : H p = some o) : G1 p = none := by
  rcases a.n p with e | e
  · rw [e]; exact g
  · rw [h] at e; cases e
theorem same_put (s : Same G H) : Same (upd G p o) (upd H p o) := fun b u e => by
  by_cases h : b = p
  · subst h; rw [upd_same] at e ⊢; exact e
  · rw [upd_ne h] at e ⊢; exact s b u e
theorem same_new (h : H p = none) : Same H (upd H p o) := fun b u q => by rw [upd_ne (ne_of_none q h)]; exact q
theorem same_none (s : Same G H) (h : H p = none) : G p = none := s.free h
/-- a new object that nothing will write -/
theorem Ext.new (a : Ext M G H G1 H1) (h : H1 p = none) : Ext M G H (upd G1 p o) (upd H1 p o) :=
  ⟨a.g.trans (same_new (a.s.free h)), same_put a.s, fun b u m e => by rw [upd_ne (ne_of_none (a.h b u m e) h)]; exact a.h b u m e, fun b e => by
    by_cases q : b = p
    · subst q; rw [upd_same] at e; cases e
    · rw [upd_ne q] at e; exact a.d b e, fun b => by
    by_cases q : b = p
    · subst q; exact .inr (a.d _ h)
    · rw [upd_ne q]; exact a.n b⟩
/-- a new object that will be written -/
theorem Ext.tmp (a : Ext M G H G1 H1) (h : H1 p = none) : Ext M G H G1 (upd H1 p o) :=
  ⟨a.g, a.s.trans (same_new h), fun b u m e => by rw [upd_ne (ne_of_none (a.h b u m e) h)]; exact a.h b u m e, fun b e => by
    by_cases q : b = p
    · subst q; rw [upd_same] at e; cases e
    · rw [upd_ne q] at e; exact a.d b e, a.n⟩
theorem same_mut (s : Same G H) (g : G p = none) : Same G (upd H p o) := fun b u e => by rw [upd_ne (ne_of_none e g)]; exact s b u e
/-- .. is written -/
theorem Ext.mut (a : Ext M G H G1 H1) (h : H p = none) (g : G1 p = none) : Ext M G H G1 (upd H1 p o) :=
  ⟨a.g, same_mut a.s g, fun b u m e => by rw [upd_ne (ne_of_none e h)]; exact a.h b u m e, fun b e => by
    by_cases q : b = p
    · subst q; exact h
    · rw [upd_ne q] at e; exact a.d b e, a.n⟩
/-- one of M is written -/
theorem Ext.mutM (a : Ext M G H G1 H1) (m : p ∈ M) (g : G1 p = none) : Ext M G H G1 (upd H1 p o) :=
  ⟨a.g, same_mut a.s g, fun b u m2 e => by rw [upd_ne (fun z => m2 (by rw [z]; exact m))]; exact a.h b u m2 e, fun b e => by
    by_cases q : b = p
    · subst q; rw [upd_same] at e; cases e
    · rw [upd_ne q] at e; exact a.d b e, a.n⟩
/-- .. is written no more -/
theorem Ext.frz (a : Ext M G H G1 H1) (h : H p = none) (g : G1 p = none) (e : H1 p = some o) : Ext M G H (upd G1 p o) H1 :=
  ⟨a.g.trans (same_new g), fun b u q => by
    by_cases z : b = p
    · subst z; rw [upd_same] at q; cases q; exact e
    · rw [upd_ne z] at q; exact a.s b u q, a.h, a.d, fun b => by
    by_cases z : b = p
    · subst z; exact .inr h
    · rw [upd_ne z]; exact a.n b⟩
end
/-! ### data -/
section
variable {K : PySem.W.Frag} {H H1 : Hp}
theorem sqT_mono (e : Same H H1) {a : Addr} {xs : List V} (h : SqT K H a xs) : SqT K H1 a xs := by
  rcases h with (h | ⟨o, h⟩) | h
  · exact .inl (.inl (e _ _ h))
  · exact .inl (.inr ⟨o, e _ _ h⟩)
  · exact .inr h
mutual
theorem dp_mono (e : Same H H1) : ∀ (d : PyData) (v : V), Dp K H v d → Dp K H1 v d
  | .none, v, h => by cases h; exact .non
  | .bool b, v, h => by cases h; exact .bl b
  | .int i, v, h => by cases h; exact .int i
  | .str x, v, h => by cases h; exact .str x
  | .list ds, v, h => by
    cases h with
    | lst hs ha => exact .lst (e.seq hs) (dpAll_mono e ds _ ha)
  | .tuple ds, v, h => by
    cases h with
    | tup hs ha => exact .tup (sqT_mono e hs) (dpAll_mono e ds _ ha)
  | .dict _, v, h => nomatch h
theorem dpAll_mono (e : Same H H1) : ∀ (ds : List PyData) (vs : List V), DpAll K H vs ds → DpAll K H1 vs ds
  | [], vs, h => by cases h; exact .nil
  | d :: ds, vs, h => by
    cases h with
    | cons h1 h2 => exact .cons (dp_mono e d _ h1) (dpAll_mono e ds _ h2)
end
end
end MV
namespace MV
open PySem PySem.Spec PyProof.Rows L2
/-! ### min of a tuple of whole numbers -/
section
variable {prog : Program} {w : World} {A : Around} {E : Value → Shared → Prop} {s : Shared} {l : Addr} {xs : Array (Int × Tok)}
theorem iter_intTup {Q : Value → Shared → Prop} (hl : s.heap.IsTuple l (intItems xs))
    (h : ∀ s₂ : Shared, s₂ = { s with heap := s.heap.push { cls := .type "tuple_iterator", data := .fields #[.ref l, .int 0 0] } } →
      (s₂.heap.IsTupleIter s.heap.objs.size l 0 ∧ s₂.heap.IsTuple l (intItems xs)) → (∀ b ∈ [s.heap.objs.size, l], b < s₂.heap.objs.size) → l ≠ s.heap.objs.size → Q (.ref s.heap.objs.size) s₂) :
    wpAny (model prog w) A (pyIter (.ref l)) Q E s := by
  have hlt : l < s.heap.objs.size := by obtain ⟨_, e, _⟩ := hl; exact Heap.lt_size e
  refine wpAny_pyIter_tuple hl (h _ rfl ⟨⟨_, Heap.get?_push_size _ rfl, rfl, rfl⟩, hl.push _⟩ (fun b hb => ?_) (Nat.ne_of_lt hlt))
  show b < (s.heap.push _).objs.size
  rw [Heap.size_push]
  rcases List.mem_cons.mp hb with rfl | hb
  · exact Nat.lt_succ_self _
  · rcases List.mem_cons.mp hb with rfl | hb
    · exact Nat.lt_succ_of_lt hlt
    · cases hb
theorem old_keptT {h' : Heap} (hk : ∀ b o, b ∉ [s.heap.objs.size] → (s.heap.push { cls := .type "tuple_iterator", data := .fields #[.ref l, .int 0 0] }).get? b = some o → h'.get? b = some o) :
    ∀ b o, s.heap.get? b = some o → h'.get? b = some o := fun b o e => by
  refine hk b o (fun hm => ?_) (Heap.get?_push_of_some _ e)
  rcases List.mem_cons.mp hm with e1 | hm
  · exact absurd (e1 ▸ Heap.lt_size e) (Nat.lt_irrefl _)
  · cases hm
theorem min_intTup {Q : Value → Shared → Prop} (hh : A.handled = none) (hl : s.heap.IsTuple l (intItems xs)) (hne : 0 < xs.size)
    (h : ∀ v h' tk, (intItems xs)[argBest (fun i j => decide (numAt xs i < numAt xs j)) (xs.size - 1)]? = some v → (∀ b o, s.heap.get? b = some o → h'.get? b = some o) → Q v { s with heap := h', toks := tk }) :
    wpAny (model prog w) A (call (.builtin "min") [.ref l]) Q E s := by
  refine call_min_walk (iter_intTup hl fun s₂ e st hfp hlI => ?_)
  subst e
  refine ⟨_, _, _, _, _, _, _, rfl, Walks.tuple (A := A.in1) hh _ l hlI (intItems xs), st, hfp, by simpa [intItems] using hne, CmpOf.ints_lt (numAt xs) (fun _ _ => intItems_at), fun v h' tk hP hk => ?_⟩
  exact h v h' tk (by simpa [intItems] using hP) (old_keptT hk)
theorem min_rawT {its : List Value} {ns : List Int} {Q : Value → Shared → Prop} (hh : A.handled = none) (hl : s.heap.IsTuple l its.toArray) (hi : IntsAre its ns) (hne : 0 < ns.length)
    (h : ∀ h' tk M t', (∀ b o, s.heap.get? b = some o → h'.get? b = some o) → M ∈ ns → (∀ a, a ∈ ns → M ≤ a) → Q (.int M t') { s with heap := h', toks := tk }) : wpAny (model prog w) A (call (.builtin "min") [.ref l]) Q E s := by
  obtain ⟨xs, e⟩ := hi.allInts.items
  have hn : numsOf (intItems xs).toList = ns := by rw [← e]; exact hi.numsOf
  rw [nums_intItems] at hn
  subst hn
  rw [e] at hl
  have hsz : 0 < xs.size := by simpa using hne
  refine min_intTup hh hl hsz fun v h' tk hv hk => ?_
  obtain ⟨t, rfl⟩ := intItems_at hv
  obtain ⟨h1, h2⟩ := argBest_lt (numAt xs) (xs.size - 1)
  refine h h' tk _ t hk ?_ fun a ha => ?_
  · rw [numAt_eq]; exact PySem.getD_mem (by rw [List.length_map, Array.length_toList]; omega)
  · obtain ⟨j, hj, rfl⟩ := mem_getD ha
    rw [List.length_map, Array.length_toList] at hj
    rw [← numAt_eq]; exact h2 j (by omega)
end
section
variable {X : Cx}
def rMinT (K : PySem.W.Frag) : List V → Hp → VK → Prop := fun vs H Q => ∃ (a : Addr) (ns : List Int), vs = [V.ref a] ∧ SqT K H a (ns.map V.int) ∧ 0 < ns.length ∧ ∀ m, m ∈ ns → (∀ y, y ∈ ns → m ≤ y) → Q (.int m) H
theorem cr_minT (hc : X.calm = true) : CallR X (.builtin "min") (rMinT X.K) := by
  intro pins s σ H vs us Q I r h
  obtain ⟨a, ns, rfl, hs, hne, q⟩ := h
  obtain ⟨its, rv, hl, _⟩ := I.tuple hs
  rw [Vals.ref1 r]
  exact min_rawT (I.ok.hd hc) hl rv.ints hne fun h' tk m t' hk h1 h2 => ⟨.int _, H, I.kept hk, ⟨_, rfl⟩, q m h1 h2⟩
/-! ### xs[:0:-1] -/
theorem bounds_tailrev (n : Nat) : sliceBounds none (some 0) (some (-1)) n = ((n : Int) - 1, (if n = 0 then -1 else 0), -1) := by
  unfold sliceBounds
  by_cases h : n = 0
  · subst h; rfl
  · simp [h]
    try omega
theorem range_tailrev (n : Nat) (h : 0 < n) : sliceRange ((n : Int) - 1) 0 (-1) = (List.range (n - 1)).map fun k => n - 1 - k := by
  unfold sliceRange
  have h1 : ¬ ((-1 : Int) > 0) := by decide
  by_cases h2 : (n : Int) - 1 > 0
  · have e : ((n : Int) - 1 - 0 - -1 - 1) / (- -1) = ((n - 1 : Nat) : Int) := by
      rw [show (- -1 : Int) = 1 by decide, Int.ediv_one]
      omega
    simp only [h1, if_false, h2, if_true, e, Int.toNat_natCast]
    apply List.map_congr_left
    intro k hk
    have := List.mem_range.mp hk
    omega
  · have e : n = 1 := by omega
    subst e
    simp
theorem pick_tailrev (items : Array Value) : slicePick items none (some 0) (some (-1)) = (items.toList.drop 1).reverse.toArray := by
  unfold slicePick
  rw [bounds_tailrev]
  by_cases h : items.size = 0
  · have e : items = #[] := Array.eq_empty_of_size_eq_zero h
    subst e
    rfl
  · rw [if_neg h]
    show ((sliceRange ((items.size : Int) - 1) 0 (-1)).filterMap (items[·]?)).toArray = _
    rw [range_tailrev items.size (by omega)]
    have h0 := pick_run items 1 (items.size - 1)
    have hr : (List.range (items.size - 1)).map (fun k => items.size - 1 - k) = ((List.range (items.size - 1)).map (1 + ·)).reverse := by
      apply List.ext_getElem
      · simp
      · intro i h1 h2
        rw [List.length_map, List.length_range] at h1
        rw [List.getElem_map, List.getElem_reverse]
        simp
        omega
    rw [hr, List.filterMap_reverse, h0, List.take_of_length_le (by simp)]
/-- xs[:0:-1]: from the last one back to the second one -/
def tTailRev (K : PySem.W.Frag) (te : TE) : TE := fun σ H Q => te σ H fun x H1 => ∃ a xs, x = .ref a ∧ SqL K H1 a xs ∧ ∀ p, H1 p = none → Q (.ref p) (upd H1 p (.lst (xs.drop 1).reverse))
theorem pe_tailRev {e : Expr} {te : TE} {k k0 : Nat} {p0 p1 p2 p3 pos : Pos} (he : PE X e te) : PE X (.Subscript e (.Slice none (some (.Constant (.int 0) k0 p0)) (some (.UnaryOp .USub (.Constant (.int 1) k p1) p2)) p3) pos) (tTailRev X.K te) := by
  refine ⟨fun pins s σ H Q I h => ?_⟩
  refine Subscript_ (thn (he.run pins s σ H _ I h) fun v s1 ⟨x, H1, I1, r1, q1⟩ => ?_)
  obtain ⟨a, xs, ex, hx, q⟩ := q1
  subst ex
  cases r1
  have hu : PO X (some (.Constant (.int 0) k0 p0)) (tPart (tC (.int 0))) := po_some pe_int
  have hst : PO X (some (.UnaryOp .USub (.Constant (.int 1) k p1) p2)) (tPart (tUn (rU fun i => .int (-i)) (tC (.int 1)))) := po_some (pe_un un_neg pe_int)
  refine wpAny_Slice (thn (po_none.run pins s1 σ H1 (fun o H2 => o = none ∧ H2 = H1) I1 ⟨rfl, rfl⟩) fun vl s2 ⟨l, H2, I2, pl, el, e2⟩ => ?_)
  subst el e2
  refine thn (hu.run pins s2 σ H2 (fun o H3 => o = some 0 ∧ H3 = H2) I2 ⟨0, rfl, rfl, rfl⟩) fun vu s3 ⟨u, H3, I3, pu, eu, e3⟩ => ?_
  subst eu e3
  refine thn (hst.run pins s3 σ H3 (fun o H4 => o = some (-1) ∧ H4 = H3) I3 ⟨1, rfl, -1, rfl, rfl, rfl⟩) fun vs s4 ⟨o, H4, I4, ps, eo, e4⟩ => ?_
  subst eo e4
  have I5 : Inv X pins σ H4 { s4 with heap := s4.heap.push { cls := .type "slice", data := .fields #[vl, vu, vs] } } := I4.kept (t' := s4.toks) fun b ob q => Heap.get?_push_of_some _ q
  obtain ⟨its, r, ht, hz⟩ := I5.list hx
  have hlen := r.length
  show wpAny (model X.prog X.w) X.A (subscriptTail e (.Slice none (some (.Constant (.int 0) k0 p0)) (some (.UnaryOp .USub (.Constant (.int 1) k p1) p2)) p3) (.ref a) (.ref s4.heap.objs.size)) (EP X pins σ Q) X.xe { s4 with heap := s4.heap.push { cls := .type "slice", data := .fields #[vl, vu, vs] } }
  refine tail_any (ops := [.ref a, .ref s4.heap.objs.size]) ht.isList.typeIs (PySem.slot_list_getitem.lookup) ?_ (by with_unfolding_all rfl)
  refine wpAny_getItem_list_slice ht.isList (Heap.IsSliceOf.new _ vl vu vs) pl pu ps (by decide) ?_ (by rw [List.size_toArray]; omega)
  rw [pick_tailrev]
  refine ⟨.ref _, _, I5.laid (t' := s4.toks) (o := .lst (xs.drop 1).reverse) (fun b ob q => Heap.get?_push_of_some _ q) (Nat.le_refl _) ?_, rfl, q _ (I5.hok.fresh (Nat.le_refl _))⟩
  refine ⟨by rw [List.length_reverse, List.length_drop]; omega, _, 0, (r.drop 1).reverse, Heap.get?_push_size _ rfl⟩
end
end MV
namespace MV
open PySem PySem.Spec PyProof.Rows L2
def vAdd : R2 := rI0 fun i j => .int (i + j)
def vSub : R2 := rI0 fun i j => .int (i - j)
def vMul : R2 := rI CMul fun i j => .int (i * j)
def vMod : R2 := rI (fun _ j => 0 < j) fun i j => .int (i % j)
def vDiv : R2 := rI CDivW fun i j => .int (i / j)
def vPow : R2 := rI CPow fun i j => .int (i ^ j.toNat)
def vNeg : V → Hp → VK → Prop := rU fun i => .int (-i)
def vLt : R2 := rI0 fun i j => .bl (decide (i < j))
def vLe : R2 := rI0 fun i j => .bl (decide (i ≤ j))
def vGt : R2 := rI0 fun i j => .bl (decide (j < i))
def vGe : R2 := rI0 fun i j => .bl (decide (j ≤ i))
def vIsN : R2 := fun x y H Q => y = .non ∧ Q (.bl (decide (x = .non))) H
def vNotN : R2 := fun x y H Q => y = .non ∧ Q (.bl (!decide (x = .non))) H
def vLen (K : PySem.W.Frag) : List V → Hp → VK → Prop := fun xs H Q => ∃ p ys, xs = [.ref p] ∧ (SqL K H p ys ∨ SqT K H p ys) ∧ Q (.int ys.length) H
def vLenD : List V → Hp → VK → Prop := fun xs H Q => ∃ a kvs, xs = [V.ref a] ∧ H a = some (.dK kvs) ∧ Q (.int kvs.length) H
def vListOf (K : PySem.W.Frag) : List V → Hp → VK → Prop := fun xs H Q => ∃ p ys, xs = [.ref p] ∧ (SqL K H p ys ∨ SqT K H p ys) ∧ ∀ l, H l = none → Q (.ref l) (upd H l (.lst ys))
def vTupleOf (K : PySem.W.Frag) : List V → Hp → VK → Prop := fun xs H Q => ∃ p ys, xs = [.ref p] ∧ ((SqL K H p ys ∧ ∀ l, H l = none → Q (.ref l) (upd H l (.tup ys))) ∨ (SqT K H p ys ∧ Q (.ref p) H))
def vDictP (K : PySem.W.Frag) : List V → Hp → VK → Prop := fun xs H Q => ∃ (a : Addr) (ps : List Addr) (kvs : List (Key × V)), xs = [.ref a] ∧ SqL K H a (ps.map V.ref) ∧ Paired (fun p kv => SqT K H p [kV kv.1, kv.2]) ps kvs ∧
    ∀ p, H p = none → Q (.ref p) (upd H p (.dK (mergeK [] kvs)))
def vSortedDI : List V → Hp → VK → Prop := fun xs H Q => ∃ (a : Addr) (kvs : List (Key × V)) (ks : List Int), xs = [.ref a] ∧ Rd H a (.dK kvs) ∧ kvs.map (·.1) = ks.map Sum.inl ∧ ks.length < 64 ∧
    ∀ (ys : List Int) (p : Addr), ys.Perm ks → ys.Pairwise (· ≤ ·) → H p = none → Q (.ref p) (upd H p (.lst (ys.map V.int)))
def vMax2 : List V → Hp → VK → Prop := fun xs H Q => ∃ i j, xs = [.int i, .int j] ∧ Q (.int (if j > i then j else i)) H
def vMin2 : List V → Hp → VK → Prop := fun xs H Q => ∃ i j, xs = [.int i, .int j] ∧ Q (.int (if j < i then j else i)) H
def vTru (K : PySem.W.Frag) (ta : TE) : TT := fun σ H Q => ta σ H fun x H' => ∃ k, TruV K x H' k ∧ Q k H'
def vAddS : R2 := fun x y H Q => ∃ i j, x = .str i ∧ y = .str j ∧ i.length + j.length ≤ sizeLine ∧ Q (.str (i ++ j)) H
def vLtS : R2 := fun x y H Q => ∃ i j, x = .str i ∧ y = .str j ∧ Q (.bl (decide (i.cps.toList < j.cps.toList))) H
section
variable {σ : L2.St} {H : Hp} {Q : VK} {QB : Bool → Hp → Prop} {QA : List V → Hp → Prop} {i j : Int} {v x y : V} {r : R2} {ta tb te : TE} {t u : TT} {D : Ends} {ts tu : TS} {K : PySem.W.Frag} {n : Nat} {g : TG} {A : TA}
theorem k_var {m : Nat} (h : σ[m]? = some (some v)) (q : Q v H) : tVar m σ H Q := ⟨v, h, q⟩
theorem k_c (q : Q v H) : tC v σ H Q := q
theorem k_op (q : ta σ H fun x H1 => tb σ H1 fun y H2 => r x y H2 Q) : tOp r ta tb σ H Q := q
theorem k_un {r : V → Hp → VK → Prop} (q : ta σ H fun x H1 => r x H1 Q) : tUn r ta σ H Q := q
theorem k_add (q : Q (.int (i + j)) H) : vAdd (.int i) (.int j) H Q := ⟨i, j, rfl, rfl, q⟩
theorem k_sub (q : Q (.int (i - j)) H) : vSub (.int i) (.int j) H Q := ⟨i, j, rfl, rfl, q⟩
theorem k_mul (h : CMul i j) (q : Q (.int (i * j)) H) : vMul (.int i) (.int j) H Q := ⟨i, j, rfl, rfl, h, q⟩
theorem k_mod (h : 0 < j) (q : Q (.int (i % j)) H) : vMod (.int i) (.int j) H Q := ⟨i, j, rfl, rfl, h, q⟩
theorem k_div (h : CDivW i j) (q : Q (.int (i / j)) H) : vDiv (.int i) (.int j) H Q := ⟨i, j, rfl, rfl, h, q⟩
theorem k_pow (h : CPow i j) (q : Q (.int (i ^ j.toNat)) H) : vPow (.int i) (.int j) H Q := ⟨i, j, rfl, rfl, h, q⟩
theorem k_neg (q : Q (.int (-i)) H) : vNeg (.int i) H Q := ⟨i, rfl, q⟩
theorem k_lt (q : Q (.bl (decide (i < j))) H) : vLt (.int i) (.int j) H Q := ⟨i, j, rfl, rfl, q⟩
theorem k_le (q : Q (.bl (decide (i ≤ j))) H) : vLe (.int i) (.int j) H Q := ⟨i, j, rfl, rfl, q⟩
theorem k_gt (q : Q (.bl (decide (j < i))) H) : vGt (.int i) (.int j) H Q := ⟨i, j, rfl, rfl, q⟩
theorem k_ge (q : Q (.bl (decide (j ≤ i))) H) : vGe (.int i) (.int j) H Q := ⟨i, j, rfl, rfl, q⟩
theorem k_eqI (q : Q (.bl (decide (i = j))) H) : rEq (.int i) (.int j) H Q := ⟨rfl, by
  have e : decide (V.int i = V.int j) = decide (i = j) := by
    by_cases h : i = j
    · subst h; simp
    · have : ¬ V.int i = V.int j := fun z => h (V.int.inj z)
      rw [decide_eq_false h, decide_eq_false this]
  rw [e]; exact q⟩
theorem k_neI (q : Q (.bl (!decide (i = j))) H) : rNe (.int i) (.int j) H Q := ⟨rfl, by
  have e : decide (V.int i = V.int j) = decide (i = j) := by
    by_cases h : i = j
    · subst h; simp
    · have : ¬ V.int i = V.int j := fun z => h (V.int.inj z)
      rw [decide_eq_false h, decide_eq_false this]
  rw [e]; exact q⟩
theorem k_eq (s : scal x y = true) (q : Q (.bl (decide (x = y))) H) : rEq x y H Q := ⟨s, q⟩
theorem k_ne (s : scal x y = true) (q : Q (.bl (!decide (x = y))) H) : rNe x y H Q := ⟨s, q⟩
theorem k_isN (q : Q (.bl (decide (x = .non))) H) : vIsN x .non H Q := ⟨rfl, q⟩
theorem k_notN (q : Q (.bl (!decide (x = .non))) H) : vNotN x .non H Q := ⟨rfl, q⟩
theorem k_test (q : ta σ H fun x H1 => ∃ k, x = .bl k ∧ QB k H1) : tTest ta σ H QB := q
theorem k_B (q : ta σ H fun x H1 => ∃ k, x = .bl k ∧ QB k H1) : tB ta σ H QB := q
theorem k_bl {k : Bool} (q : QB k H) : ∃ k', V.bl k = .bl k' ∧ QB k' H := ⟨k, rfl, q⟩
theorem k_blV {k : Bool} {R : Bool → Prop} (q : R k) : ∃ k', V.bl k = .bl k' ∧ R k' := ⟨k, rfl, q⟩
theorem k_and (q : t σ H fun c H1 => if c = true then u σ H1 QB else QB false H1) : tAnd t u σ H QB := q
theorem k_or (q : t σ H fun c H1 => if c = true then QB true H1 else u σ H1 QB) : tOr t u σ H QB := q
theorem k_not (q : t σ H fun c H1 => QB (!c) H1) : tNot t σ H QB := q
theorem k_andV (q : ta σ H fun x H1 => ∃ c, x = .bl c ∧ if c = true then tb σ H1 Q else Q (.bl false) H1) : tAndV ta tb σ H Q := q
theorem k_orV (q : ta σ H fun x H1 => ∃ c, x = .bl c ∧ if c = true then Q (.bl true) H1 else tb σ H1 Q) : tOrV ta tb σ H Q := q
theorem k_notV (q : ta σ H fun x H1 => ∃ c, x = .bl c ∧ Q (.bl (!c)) H1) : tNotV ta σ H Q := q
theorem k_if (q : t σ H fun c H1 => if c = true then ta σ H1 Q else tb σ H1 Q) : tIf t ta tb σ H Q := q
theorem k_tru (q : ta σ H fun x H1 => ∃ k, TruV K x H1 k ∧ QB k H1) : vTru K ta σ H QB := q
theorem k_chain {r' : R2} {tc : TE} (q : ta σ H fun x H1 => tb σ H1 fun y H2 => r x y H2 fun z H3 => ∃ k, z = .bl k ∧ (if k = true then tc σ H3 fun w' H4 => r' y w' H4 Q else Q (.bl false) H3)) : tChain r r' ta tb tc σ H Q := q
theorem k_seq (q : ts { D with nx := tu D } σ H) : tSeq ts tu D σ H := q
theorem k_next (q : D.nx σ H) : tNext D σ H := q
theorem k_asg (q : te σ H fun x H1 => g x σ H1 D.nx) : tAsg te g D σ H := q
theorem k_name {R : L2.St → Hp → Prop} (q : R (σ.set n (some v)) H) : gName n v σ H R := q
theorem k_drop (q : te σ H fun _ H1 => D.nx σ H1) : tDrop te D σ H := q
theorem k_ret (q : te σ H D.rt) : tRet te D σ H := q
theorem k_retN (q : D.rt .non H) : tRetN D σ H := q
theorem k_ifS (q : t σ H fun b H1 => if b = true then ts D σ H1 else tu D σ H1) : tIfS t ts tu D σ H := q
theorem k_brk (q : D.bk σ H) : tBreak D σ H := q
theorem k_cont (q : D.ct σ H) : tCont D σ H := q
theorem k_nil (q : QA [] H) : tNil σ H QA := q
theorem k_cons (q : te σ H fun x H1 => A σ H1 fun xs H2 => QA (x :: xs) H2) : tCons te A σ H QA := q
theorem k_tup (q : A σ H fun xs H1 => xs.length ≤ sizeLine ∧ ∀ p, H1 p = none → Q (.ref p) (upd H1 p (.tup xs))) : tTup A σ H Q := q
theorem k_lst (q : A σ H fun xs H1 => xs.length ≤ sizeLine ∧ ∀ p, H1 p = none → Q (.ref p) (upd H1 p (.lst xs))) : tLst A σ H Q := q
theorem k_cb {r : List V → Hp → VK → Prop} (q : A σ H fun vs H1 => r vs H1 Q) : tCB r A σ H Q := q
theorem k_call {sp : Sp} {E : XK} (q : A σ H fun vs H1 => sp vs H1 Q E) : tCall sp [] E A σ H Q := by
  have e : (fun vs H1 => sp (vs ++ []) H1 Q E) = fun vs H1 => sp vs H1 Q E := by funext vs H1; rw [List.append_nil]
  show A σ H fun vs H1 => sp (vs ++ []) H1 Q E
  rw [e]; exact q
theorem k_tupN {K : PySem.W.Frag} {a : Addr} {xs : List V} {gs : TGs} {R : L2.St → Hp → Prop} (h : SqT K H a xs) (hl : xs.length = n) (q : gs xs σ H R) : gTup K n gs (.ref a) σ H R := ⟨a, xs, rfl, h, hl, q⟩
theorem k_gnil {R : L2.St → Hp → Prop} (q : R σ H) : gNil [] σ H R := ⟨rfl, q⟩
theorem k_gcons {vs : List V} {gs : TGs} {R : L2.St → Hp → Prop} (q : g v σ H fun σ' H' => gs vs σ' H' R) : gCons g gs (v :: vs) σ H R := ⟨v, vs, rfl, q⟩
theorem k_gsub {o ti : TE} {w : TSet} {R : L2.St → Hp → Prop} (q : o σ H fun o H1 => ti σ H1 fun i H2 => w o i v H2 fun H3 => R σ H3) : gSub o ti w v σ H R := q
theorem k_bm {T : String} {r : V → List V → Hp → VK → Prop} (q : ta σ H fun x H1 => tyV K T x H1 ∧ A σ H1 fun xs H2 => r x xs H2 Q) : tBM K T r ta A σ H Q := q
theorem k_bm0 {T : String} {r : V → List V → Hp → VK → Prop} (q : ta σ H fun x H1 => tyV K T x H1 ∧ r x [] H1 Q) : tBM0 K T r ta σ H Q := q
theorem k_ixL {p : Addr} {xs : List V} (h : SqL K H p xs) (ha : atI xs i = some v) (q : Q v H) : rIxL K (.ref p) (.int i) H Q := ⟨p, xs, i, v, rfl, rfl, h, ha, q⟩
theorem k_ixT {p : Addr} {xs : List V} (h : SqT K H p xs) (ha : atI xs i = some v) (q : Q v H) : rIxT K (.ref p) (.int i) H Q := ⟨p, xs, i, v, rfl, rfl, h, ha, q⟩
theorem k_setL {p : Addr} {xs : List V} {j : Nat} {R : Hp → Prop} (h : H p = some (.lst xs)) (hj : ixN xs.length i = some j) (q : R (upd H p (.lst (xs.set j v)))) : rSetL (.ref p) (.int i) v H R := ⟨p, xs, i, j, rfl, rfl, h, hj, q⟩
theorem k_len {p : Addr} {ys : List V} (h : SqL K H p ys ∨ SqT K H p ys) (q : Q (.int ys.length) H) : vLen K [.ref p] H Q := ⟨p, ys, rfl, h, q⟩
theorem k_append {l : Addr} {xs : List V} (h : H l = some (.lst xs)) (hz : xs.length < sizeLine) (q : Q .non (upd H l (.lst (xs ++ [y])))) : rAppend (.ref l) [y] H Q := ⟨l, xs, y, rfl, rfl, h, hz, q⟩
theorem k_seqTrue {A B : Prop} (h : A) : if true = true then A else B := iteT h
theorem k_seqFalse {A B : Prop} (h : B) : if false = true then A else B := iteF h
theorem k_true {c : Prop} [Decidable c] {A B : Prop} (hc : c) (h : A) : if decide c = true then A else B := by rw [decide_eq_true hc]; exact iteT h
theorem k_false {c : Prop} [Decidable c] {A B : Prop} (hc : ¬ c) (h : B) : if decide c = true then A else B := by rw [decide_eq_false hc]; exact iteF h
theorem k_both {c : Prop} [Decidable c] {A B : Prop} (h : c → A) (h2 : ¬ c → B) : if decide c = true then A else B := by
  by_cases hc : c
  · exact k_true hc (h hc)
  · exact k_false hc (h2 hc)
theorem k_ntrue {c : Prop} [Decidable c] {A B : Prop} (hc : ¬ c) (h : A) : if (!decide c) = true then A else B := by rw [decide_eq_false hc]; exact iteT h
theorem k_nfalse {c : Prop} [Decidable c] {A B : Prop} (hc : c) (h : B) : if (!decide c) = true then A else B := by rw [decide_eq_true hc]; exact iteF h
theorem k_nboth {c : Prop} [Decidable c] {A B : Prop} (h : ¬ c → A) (h2 : c → B) : if (!decide c) = true then A else B := by
  by_cases hc : c
  · exact k_nfalse hc (h2 hc)
  · exact k_ntrue hc (h hc)
theorem sz1 {n : Nat} (h : n ≤ 100000) : n ≤ sizeLine := by rw [sizeLine_eq]; omega
theorem sz2 {n : Nat} (h : n < 100000) : n < sizeLine := by rw [sizeLine_eq]; omega
end
local macro_rules | `(tactic| walk_at "go") => `(tactic| repeat (first
  | with_reducible refine k_seq ?_ | with_reducible refine k_asg ?_ | with_reducible refine k_name ?_ | with_reducible refine k_op ?_ | (with_reducible refine k_var ?hv ?_; (case hv => exact rfl)) | with_reducible refine k_c ?_
  | with_reducible refine k_add ?_ | with_reducible refine k_sub ?_ | with_reducible refine k_lt ?_ | with_reducible refine k_le ?_ | with_reducible refine k_gt ?_ | with_reducible refine k_ge ?_ | with_reducible refine k_eqI ?_ | with_reducible refine k_neI ?_
  | with_reducible refine k_test ?_ | with_reducible refine k_B ?_ | with_reducible refine k_bl ?_ | with_reducible refine k_blV ?_ | with_reducible refine k_and ?_ | with_reducible refine k_or ?_ | with_reducible refine k_not ?_ | with_reducible refine k_andV ?_ | with_reducible refine k_orV ?_ | with_reducible refine k_notV ?_
  | with_reducible refine k_if ?_ | with_reducible refine k_tru ?_ | with_reducible refine k_chain ?_ | with_reducible refine k_next ?_ | with_reducible refine k_drop ?_ | with_reducible refine k_ret ?_ | with_reducible refine k_retN ?_ | with_reducible refine k_ifS ?_ | with_reducible refine k_brk ?_ | with_reducible refine k_cont ?_
  | with_reducible refine k_nil ?_ | with_reducible refine k_cons ?_ | with_reducible refine k_tup ?_ | with_reducible refine k_lst ?_ | with_reducible refine k_cb ?_ | with_reducible refine k_call ?_ | with_reducible refine k_gnil ?_ | with_reducible refine k_gcons ?_ | with_reducible refine k_gsub ?_
  | with_reducible refine k_bm ?_ | with_reducible refine k_bm0 ?_ | with_reducible refine k_un ?_ | with_reducible refine k_neg ?_ | with_reducible refine k_isN ?_ | with_reducible refine k_notN ?_ | with_reducible refine iteT ?_ | with_reducible refine iteF ?_))
end MV
namespace MV
open PySem PySem.Spec PyProof.Rows L2
section
variable {M : List Addr} {G H G1 H1 G2 H2 : Hp} {p a : Addr} {o u f : HO} {K : PySem.W.Frag}
theorem Ext.back (e : Ext M G H G1 H1) (s : Same G H) : Ext M G H G H1 := ⟨Same.refl _, e.g.trans e.s, e.h, e.d, fun _ => .inl rfl⟩
/-- a new address is none of those that may be written any more -/
theorem Ext.drop (e : Ext M G H G1 H1) (x : Ext (p :: M) G1 H1 G2 H2) (h : H p = none) : Ext M G H G2 H2 :=
  ⟨e.g.trans x.g, x.s, fun b u m q => x.h b u (fun z => (List.mem_cons.mp z).elim (fun y => by rw [y, h] at q; cases q) m) (e.h b u m q), fun b q => e.d b (x.d b q), fun b => (x.n b).elim (fun y => (e.n b).elim (fun z => .inl (y.trans z)) .inr) fun y => .inr (e.d b y)⟩
theorem Ext.fin {M2 : List Addr} (e : Ext M G H G1 H1) (x : Ext M2 G1 H1 G2 H2) (h : ∀ p, p ∈ M2 → p ∈ M ∨ H p = none) : Ext M G H G2 H2 :=
  ⟨e.g.trans x.g, x.s, fun b u m q => x.h b u (fun z => (h b z).elim m fun y => by rw [y] at q; cases q) (e.h b u m q), fun b q => e.d b (x.d b q), fun b => (x.n b).elim (fun y => (e.n b).elim (fun z => .inl (y.trans z)) .inr) fun y => .inr (e.d b y)⟩
theorem Ext.cons (e : Ext M G H G1 H1) : Ext (p :: M) G H G1 H1 := e.wide fun _ h => List.mem_cons_of_mem _ h
theorem Ext.out (e : Ext M G H G1 H1) (hM : ∀ m, m ∈ M → H m ≠ none) : ∀ m, m ∈ M → H1 m ≠ none := fun m h z => hM m h (e.d m z)
theorem Ext.sqL (e : Ext M G H G1 H1) {xs : List V} (h : SqL K G a xs) : SqL K G1 a xs := e.g.seq h
theorem Ext.sqT (e : Ext M G H G1 H1) {xs : List V} (h : SqT K G a xs) : SqT K G1 a xs := sqT_mono e.g h
theorem Ext.dp (e : Ext M G H G1 H1) {v : V} {d : PyData} (h : Dp K G v d) : Dp K G1 v d := dp_mono e.g d v h
theorem Ext.dpA (e : Ext M G H G1 H1) {v : List V} {d : List PyData} (h : DpAll K G v d) : DpAll K G1 v d := dpAll_mono e.g d v h
/-- a thing of G is locked, and then not any more -/
theorem Ext.unlock (e : Ext M (upd G p f) (upd H p f) G1 H1) (s : Same G H) (g : G p = some u) (hm : p ∉ M) : Ext M G H (upd G1 p u) (upd H1 p u) := by
  have hp : H p = some u := s p u g
  refine ⟨fun b o q => ?_, same_put e.s, fun b o m q => ?_, fun b q => ?_, fun b => ?_⟩
  · by_cases h : b = p
    · subst h; rw [upd_same]; rw [g] at q; exact q
    · rw [upd_ne h]; exact e.g b o (by rw [upd_ne h]; exact q)
  · by_cases h : b = p
    · subst h; rw [upd_same]; rw [hp] at q; exact q
    · rw [upd_ne h]; exact e.h b o m (by rw [upd_ne h]; exact q)
  · by_cases h : b = p
    · subst h; rw [upd_same] at q; cases q
    · rw [upd_ne h] at q; have := e.d b q; rwa [upd_ne h] at this
  · by_cases h : b = p
    · subst h; rw [upd_same]; exact .inl g.symm
    · rw [upd_ne h]
      rcases e.n b with q | q
      · rw [upd_ne h] at q; exact .inl q
      · rw [upd_ne h] at q; exact .inr q
theorem dpAll_get : ∀ {xs : List V} {ds : List PyData}, DpAll K H xs ds → ∀ {i : Nat} {x : V}, xs[i]? = some x → ∃ d, ds[i]? = some d ∧ Dp K H x d
  | [], _, _, i, x, hx => by simp at hx
  | y :: ys, _, h, i, x, hx => by
    cases h with
    | cons h1 h2 =>
      cases i with
      | zero => simp at hx; subst hx; exact ⟨_, rfl, h1⟩
      | succ n => simp at hx; obtain ⟨d, e, q⟩ := dpAll_get h2 hx; exact ⟨d, by simpa using e, q⟩
theorem dpAll_len : ∀ {xs : List V} {ds : List PyData}, DpAll K H xs ds → xs.length = ds.length
  | [], _, h => by cases h; rfl
  | y :: ys, _, h => by cases h with
    | cons _ h2 => simp [dpAll_len h2]
theorem dpAll_app : ∀ {xs ys : List V} {ds es : List PyData}, DpAll K H xs ds → DpAll K H ys es → DpAll K H (xs ++ ys) (ds ++ es)
  | [], _, _, _, h, h2 => by cases h; exact h2
  | y :: ys, _, _, _, h, h2 => by cases h with
    | cons a b => exact .cons a (dpAll_app b h2)
theorem dpAll_one {x : V} {d : PyData} (h : Dp K H x d) : DpAll K H [x] [d] := .cons h .nil
theorem dpAll_ints (ns : List Int) : DpAll K H (ns.map V.int) (ns.map PyData.int) := by
  induction ns with
  | nil => exact .nil
  | cons n r ih => exact .cons (.int n) ih
theorem dpAll_of_ints {xs : List V} {ns : List Int} (h : DpAll K H xs (ns.map PyData.int)) : xs = ns.map V.int := by
  induction ns generalizing xs with
  | nil => cases h; rfl
  | cons n r ih => cases h with
    | cons h1 h2 => cases h1; rw [ih h2]; rfl
theorem dp_list {v : V} {ds : List PyData} (h : Dp K H v (.list ds)) : ∃ a xs, v = .ref a ∧ SqL K H a xs ∧ DpAll K H xs ds := by
  cases h with
  | lst hs ha => exact ⟨_, _, rfl, hs, ha⟩
theorem dp_tuple {v : V} {ds : List PyData} (h : Dp K H v (.tuple ds)) : ∃ a xs, v = .ref a ∧ SqT K H a xs ∧ DpAll K H xs ds := by
  cases h with
  | tup hs ha => exact ⟨_, _, rfl, hs, ha⟩
theorem dp_int {v : V} {n : Int} (h : Dp K H v (.int n)) : v = .int n := by cases h; rfl
end
section
variable {M : List Addr} {G H : Hp} {a : Addr} {xs : List V} {K : PySem.W.Frag} {σ : L2.St} {Q : VK} {tl : TE} {g : TG} {tt : TT} {te : TE} {vs : List Nat} {D : Ends} {tb : TS}
theorem k_yes {H : Hp} {σ : L2.St} {QB : Bool → Hp → Prop} (q : QB true H) : tYes σ H QB := q
theorem k_dput {td ty tv : TE} (q : tv σ H fun v H1 => td σ H1 fun x H2 => ty σ H2 fun y H3 => ∃ a H4, x = .ref a ∧ DPut H3 a y v H4 ∧ D.nx σ H4) : sDPut td ty tv D σ H := q
theorem k_dget {td ty : TE} (q : td σ H fun x H1 => ty σ H1 fun y H2 => ∃ a v, x = .ref a ∧ DGet H2 a y (some v) ∧ Q v H2) : tDGet td ty σ H Q := q
theorem k_dget1 {td ty : TE} (q : td σ H fun x H1 => ∃ a, x = .ref a ∧ IsD H1 a ∧ ty σ H1 fun y H2 => ∃ o, DGet H2 a y o ∧ Q (o.getD .non) H2) : tDGet1 td ty σ H Q := q
theorem k_sl {r : V → Option Int → Option Int → Hp → VK → Prop} {te : TE} {tl th : TO} (q : te σ H fun x H1 => tl σ H1 fun l H2 => th σ H2 fun u H3 => r x l u H3 Q) : tSl r te tl th σ H Q := q
theorem k_nopart {R : Option Int → Hp → Prop} (q : R none H) : tNoPart σ H R := q
theorem k_part {te : TE} {R : Option Int → Hp → Prop} (q : te σ H fun x H1 => ∃ i, x = .int i ∧ R (some i) H1) : tPart te σ H R := q
theorem k_pint {i : Int} {R : Int → Prop} (q : R i) : ∃ j, V.int i = .int j ∧ R j := ⟨i, rfl, q⟩
theorem k_dnew (q : ∀ p, H p = none → Q (.ref p) (upd H p (.dK []))) : tDNewK σ H Q := q
theorem k_lstRg {te : L2.St → Hp → (Int → Int → Hp → Prop) → Prop} (q : te σ H fun a b H1 => RgOk a b ∧ ∀ q, H1 q = none → Q (.ref q) (upd H1 q (.lst (rgV a b)))) : tLstRg te σ H Q := q
theorem k_rg1 {ta : TE} {R : Int → Int → Hp → Prop} (q : ta σ H fun x H1 => ∃ n, x = .int n ∧ R 0 n H1) : tRg1 ta σ H R := q
theorem k_never {P : Prop} (h : False) : P := h.elim
theorem k_lc {wi : TI} (q : wi σ H fun J H1 => ∀ D, H1 D = none → ∃ W : Nat → Nat → Hp → Prop, (∃ m, W 0 m (upd H1 D (.lst []))) ∧ ∀ i m H, W i m H →
  (J.stop i H ∧ Q (.ref D) H) ∨ (J.go i H ∧ ∃ Nx : Hp → Prop, (∀ H', Nx H' → ∃ m', m' < m ∧ W (i + 1) m' H') ∧ ∀ x H', J.yld i H x H' → g x (wipe σ vs) H' fun σ2 H2 => wipe σ2 vs = wipe σ vs ∧ tt σ2 H2 fun b H3 =>
    if b = true then te σ2 H3 fun y H4 => ∃ acc, H4 D = some (.lst acc) ∧ acc.length < sizeLine ∧ Nx (upd H4 D (.lst (acc ++ [y]))) else Nx H3)) : tLc wi g tt te vs σ H Q := q
theorem k_iList {R : It → Hp → Prop} (q : tl σ H fun x H1 => ∃ a, x = .ref a ∧ (∃ xs, SqL K H1 a xs) ∧ R (Itl K a) H1) : iList K tl σ H R := q
theorem k_iL {R : It → Hp → Prop} (hx : SqL K H a xs) (q : R (Itl K a) H) : ∃ a', V.ref a = .ref a' ∧ (∃ xs, SqL K H a' xs) ∧ R (Itl K a') H := ⟨a, rfl, ⟨xs, hx⟩, q⟩
theorem k_iTup {R : It → Hp → Prop} (q : tl σ H fun x H1 => ∃ a, x = .ref a ∧ (∃ xs, SqT K H1 a xs) ∧ R (Itt K a) H1) : iTup K tl σ H R := q
theorem k_iT {R : It → Hp → Prop} (hx : SqT K H a xs) (q : R (Itt K a) H) : ∃ a', V.ref a = .ref a' ∧ (∃ xs, SqT K H a' xs) ∧ R (Itt K a') H := ⟨a, rfl, ⟨xs, hx⟩, q⟩
theorem k_iRng1 {ta : TA} {R : It → Hp → Prop} (q : ta σ H fun vs H1 => ∃ j : Int, vs = [.int j] ∧ -(2 ^ 62) ≤ j ∧ j < 2 ^ 62 ∧ R (Itr 0 j.toNat) H1) : iRng1 ta σ H R := q
theorem k_iR {n : Int} {R : It → Hp → Prop} (h1 : -1000000 ≤ n) (h2 : n ≤ 1000000) (q : R (Itr 0 n.toNat) H) : ∃ j : Int, [V.int n] = [.int j] ∧ -(2 ^ 62) ≤ j ∧ j < 2 ^ 62 ∧ R (Itr 0 j.toNat) H := ⟨n, rfl, by omega, by omega, q⟩
/-- a comprehension's turns over what stands still -/
theorem lcX {Qd : Addr → Hp → Prop} {J : It} {n : Nat} {Y : Nat → V → Prop} (hstop : ∀ H1, Same G H1 → J.stop n H1) (hgo : ∀ i H1, i < n → Same G H1 → J.go i H1) (hyl : ∀ i H1 x H2, i < n → Same G H1 → J.yld i H1 x H2 → H2 = H1 ∧ Y i x)
    (s : Same G H) (hM : ∀ m, m ∈ M → H m ≠ none) (hz : n ≤ 10000) (Iv : Nat → List V → Hp → Hp → Prop) (hJ : ∀ i acc G1 H1 H2, (∀ m, m ∈ M → H2 m = H1 m) → Iv i acc G1 H1 → Iv i acc G1 H2) (h0 : Iv 0 [] G H)
    (hs : ∀ i x acc G1 H1 (Ry : V → Hp → Prop) (Rn : Hp → Prop), i < n → Y i x → Ext M G H G1 H1 → Iv i acc G1 H1 →
      (∀ y G4 H4, Ext M G1 H1 G4 H4 → Iv (i + 1) (acc ++ [y]) G4 H4 → Ry y H4) → (∀ G4 H4, Ext M G1 H1 G4 H4 → Iv (i + 1) acc G4 H4 → Rn H4) →
      g x (wipe σ vs) H1 fun σ2 H2 => wipe σ2 vs = wipe σ vs ∧ tt σ2 H2 fun b H3 => if b = true then te σ2 H3 Ry else Rn H3)
    (hd : ∀ D acc G1 H1, Ext M G H G1 H1 → H D = none → G1 D = none → H1 D = some (.lst acc) → acc.length ≤ n → Iv n acc G1 H1 → Qd D H1) :
    ∀ D, H D = none → ∃ W : Nat → Nat → Hp → Prop, (∃ m, W 0 m (upd H D (.lst []))) ∧ ∀ i m H, W i m H →
      (J.stop i H ∧ Qd D H) ∨ (J.go i H ∧ ∃ Nx : Hp → Prop, (∀ H', Nx H' → ∃ m', m' < m ∧ W (i + 1) m' H') ∧ ∀ x H', J.yld i H x H' → g x (wipe σ vs) H' fun σ2 H2 => wipe σ2 vs = wipe σ vs ∧ tt σ2 H2 fun b H3 =>
        if b = true then te σ2 H3 fun y H4 => ∃ acc, H4 D = some (.lst acc) ∧ acc.length < sizeLine ∧ Nx (upd H4 D (.lst (acc ++ [y]))) else Nx H3) := by
  intro D hD
  have nM : D ∉ M := fun m => hM D m hD
  have off : ∀ (H1 : Hp) (o : HO) (m : Addr), m ∈ M → upd H1 D o m = H1 m := fun H1 o m hm => upd_ne fun z => nM (z ▸ hm)
  refine ⟨fun i m H1 => m = n - i ∧ i ≤ n ∧ ∃ acc G1, Ext M G H G1 H1 ∧ G1 D = none ∧ H1 D = some (.lst acc) ∧ acc.length ≤ i ∧ Iv i acc G1 H1,
    ⟨n, rfl, Nat.zero_le _, [], G, (Ext.refl s).tmp hD, s.free hD, upd_same, Nat.le_refl _, hJ _ _ _ _ _ (off H _) h0⟩, ?_⟩
  rintro i m H1 ⟨rfl, hi, acc, G1, e, g1, h1, hl, iv⟩
  have sG : Same G H1 := e.g.trans e.s
  by_cases hlt : i < n
  · refine .inr ⟨hgo i H1 hlt sG, fun H2 => i + 1 ≤ n ∧ ∃ acc G1, Ext M G H G1 H2 ∧ G1 D = none ∧ H2 D = some (.lst acc) ∧ acc.length ≤ i + 1 ∧ Iv (i + 1) acc G1 H2, fun H2 q => ⟨n - (i + 1), by omega, rfl, q.1, q.2⟩, fun x H2 y => ?_⟩
    obtain ⟨rfl, yx⟩ := hyl i H1 x H2 hlt sG y
    refine hs i x acc G1 H2 _ _ hlt yx e iv (fun y G4 H4 e4 iv4 => ?_) (fun G4 H4 e4 iv4 => ?_)
    · have a4 := e4.keep h1 nM
      have g4 := e4.un g1 h1
      refine ⟨acc, a4, by rw [sizeLine_eq]; omega, hlt, acc ++ [y], G4, (e.trans e4).mut hD g4, g4, upd_same, by simp; omega, hJ _ _ _ _ _ (off H4 _) iv4⟩
    · exact ⟨hlt, acc, G4, e.trans e4, e4.un g1 h1, e4.keep h1 nM, by omega, iv4⟩
  · have en : i = n := by omega
    subst en
    exact .inl ⟨hstop H1 sG, hd D acc G1 H1 e hD g1 h1 hl iv⟩
theorem sqL_at {H1 : Hp} (hx : SqL K G a xs) (s : Same G H1) : SqL K H1 a xs := s.seq hx
/-- over a list -/
theorem lcL {Qd : Addr → Hp → Prop} (s : Same G H) (hM : ∀ m, m ∈ M → H m ≠ none) (hx : SqL K G a xs) (hz : xs.length ≤ 10000) (Iv : Nat → List V → Hp → Hp → Prop) (hJ : ∀ i acc G1 H1 H2, (∀ m, m ∈ M → H2 m = H1 m) → Iv i acc G1 H1 → Iv i acc G1 H2) (h0 : Iv 0 [] G H)
    (hs : ∀ i x acc G1 H1 (Ry : V → Hp → Prop) (Rn : Hp → Prop), i < xs.length → xs[i]? = some x → Ext M G H G1 H1 → Iv i acc G1 H1 →
      (∀ y G4 H4, Ext M G1 H1 G4 H4 → Iv (i + 1) (acc ++ [y]) G4 H4 → Ry y H4) → (∀ G4 H4, Ext M G1 H1 G4 H4 → Iv (i + 1) acc G4 H4 → Rn H4) →
      g x (wipe σ vs) H1 fun σ2 H2 => wipe σ2 vs = wipe σ vs ∧ tt σ2 H2 fun b H3 => if b = true then te σ2 H3 Ry else Rn H3)
    (hd : ∀ D acc G1 H1, Ext M G H G1 H1 → H D = none → G1 D = none → H1 D = some (.lst acc) → acc.length ≤ xs.length → Iv xs.length acc G1 H1 → Qd D H1) :
    ∀ D, H D = none → ∃ W : Nat → Nat → Hp → Prop, (∃ m, W 0 m (upd H D (.lst []))) ∧ ∀ i m H, W i m H →
      ((Itl K a).stop i H ∧ Qd D H) ∨ ((Itl K a).go i H ∧ ∃ Nx : Hp → Prop, (∀ H', Nx H' → ∃ m', m' < m ∧ W (i + 1) m' H') ∧ ∀ x H', (Itl K a).yld i H x H' → g x (wipe σ vs) H' fun σ2 H2 => wipe σ2 vs = wipe σ vs ∧ tt σ2 H2 fun b H3 =>
        if b = true then te σ2 H3 fun y H4 => ∃ acc, H4 D = some (.lst acc) ∧ acc.length < sizeLine ∧ Nx (upd H4 D (.lst (acc ++ [y]))) else Nx H3) :=
  lcX (Y := fun i x => xs[i]? = some x) (fun H1 s1 => ⟨xs, s1.seq hx, Nat.le_refl _⟩) (fun i H1 hi s1 => ⟨xs, xs[i], s1.seq hx, List.getElem?_eq_getElem hi⟩) (fun i H1 x H2 hi s1 y => ⟨y.1, y.2 xs (s1.seq hx)⟩) s hM hz Iv hJ h0 hs hd
/-- over a tuple -/
theorem lcT {Qd : Addr → Hp → Prop} (s : Same G H) (hM : ∀ m, m ∈ M → H m ≠ none) (hx : SqT K G a xs) (hz : xs.length ≤ 10000) (Iv : Nat → List V → Hp → Hp → Prop) (hJ : ∀ i acc G1 H1 H2, (∀ m, m ∈ M → H2 m = H1 m) → Iv i acc G1 H1 → Iv i acc G1 H2) (h0 : Iv 0 [] G H)
    (hs : ∀ i x acc G1 H1 (Ry : V → Hp → Prop) (Rn : Hp → Prop), i < xs.length → xs[i]? = some x → Ext M G H G1 H1 → Iv i acc G1 H1 →
      (∀ y G4 H4, Ext M G1 H1 G4 H4 → Iv (i + 1) (acc ++ [y]) G4 H4 → Ry y H4) → (∀ G4 H4, Ext M G1 H1 G4 H4 → Iv (i + 1) acc G4 H4 → Rn H4) →
      g x (wipe σ vs) H1 fun σ2 H2 => wipe σ2 vs = wipe σ vs ∧ tt σ2 H2 fun b H3 => if b = true then te σ2 H3 Ry else Rn H3)
    (hd : ∀ D acc G1 H1, Ext M G H G1 H1 → H D = none → G1 D = none → H1 D = some (.lst acc) → acc.length ≤ xs.length → Iv xs.length acc G1 H1 → Qd D H1) :
    ∀ D, H D = none → ∃ W : Nat → Nat → Hp → Prop, (∃ m, W 0 m (upd H D (.lst []))) ∧ ∀ i m H, W i m H →
      ((Itt K a).stop i H ∧ Qd D H) ∨ ((Itt K a).go i H ∧ ∃ Nx : Hp → Prop, (∀ H', Nx H' → ∃ m', m' < m ∧ W (i + 1) m' H') ∧ ∀ x H', (Itt K a).yld i H x H' → g x (wipe σ vs) H' fun σ2 H2 => wipe σ2 vs = wipe σ vs ∧ tt σ2 H2 fun b H3 =>
        if b = true then te σ2 H3 fun y H4 => ∃ acc, H4 D = some (.lst acc) ∧ acc.length < sizeLine ∧ Nx (upd H4 D (.lst (acc ++ [y]))) else Nx H3) :=
  lcX (Y := fun i x => xs[i]? = some x) (fun H1 s1 => ⟨xs, sqT_mono s1 hx, Nat.le_refl _⟩) (fun i H1 hi s1 => ⟨xs, xs[i], sqT_mono s1 hx, List.getElem?_eq_getElem hi⟩) (fun i H1 x H2 hi s1 y => ⟨y.1, y.2 xs (sqT_mono s1 hx)⟩) s hM hz Iv hJ h0 hs hd
/-- over a range -/
theorem lcR {Qd : Addr → Hp → Prop} {lo : Int} {n : Nat} (s : Same G H) (hM : ∀ m, m ∈ M → H m ≠ none) (hz : n ≤ 10000) (Iv : Nat → List V → Hp → Hp → Prop) (hJ : ∀ i acc G1 H1 H2, (∀ m, m ∈ M → H2 m = H1 m) → Iv i acc G1 H1 → Iv i acc G1 H2) (h0 : Iv 0 [] G H)
    (hs : ∀ (i : Nat) acc G1 H1 (Ry : V → Hp → Prop) (Rn : Hp → Prop), i < n → Ext M G H G1 H1 → Iv i acc G1 H1 →
      (∀ y G4 H4, Ext M G1 H1 G4 H4 → Iv (i + 1) (acc ++ [y]) G4 H4 → Ry y H4) → (∀ G4 H4, Ext M G1 H1 G4 H4 → Iv (i + 1) acc G4 H4 → Rn H4) →
      g (.int (lo + i)) (wipe σ vs) H1 fun σ2 H2 => wipe σ2 vs = wipe σ vs ∧ tt σ2 H2 fun b H3 => if b = true then te σ2 H3 Ry else Rn H3)
    (hd : ∀ D acc G1 H1, Ext M G H G1 H1 → H D = none → G1 D = none → H1 D = some (.lst acc) → acc.length ≤ n → Iv n acc G1 H1 → Qd D H1) :
    ∀ D, H D = none → ∃ W : Nat → Nat → Hp → Prop, (∃ m, W 0 m (upd H D (.lst []))) ∧ ∀ i m H, W i m H →
      ((Itr lo n).stop i H ∧ Qd D H) ∨ ((Itr lo n).go i H ∧ ∃ Nx : Hp → Prop, (∀ H', Nx H' → ∃ m', m' < m ∧ W (i + 1) m' H') ∧ ∀ x H', (Itr lo n).yld i H x H' → g x (wipe σ vs) H' fun σ2 H2 => wipe σ2 vs = wipe σ vs ∧ tt σ2 H2 fun b H3 =>
        if b = true then te σ2 H3 fun y H4 => ∃ acc, H4 D = some (.lst acc) ∧ acc.length < sizeLine ∧ Nx (upd H4 D (.lst (acc ++ [y]))) else Nx H3) :=
  lcX (Y := fun i x => x = .int (lo + i)) (fun H1 s1 => Nat.le_refl n) (fun i H1 hi s1 => hi) (fun i H1 x H2 hi s1 y => y) s hM hz Iv hJ h0 (fun i x acc G1 H1 Ry Rn hi e => by subst e; exact hs i acc G1 H1 Ry Rn hi) hd
/-- the keys of a locked dict -/
theorem lcK {Qd : Addr → Hp → Prop} {d : Addr} {od : Obj} {kvs : List (Key × V)} (hx : G d = some (.frz od (.dK kvs))) (s : Same G H) (hM : ∀ m, m ∈ M → H m ≠ none) (hz : kvs.length ≤ 10000) (Iv : Nat → List V → Hp → Hp → Prop) (hJ : ∀ i acc G1 H1 H2, (∀ m, m ∈ M → H2 m = H1 m) → Iv i acc G1 H1 → Iv i acc G1 H2) (h0 : Iv 0 [] G H)
    (hs : ∀ (i : Nat) k v acc G1 H1 (Ry : V → Hp → Prop) (Rn : Hp → Prop), i < kvs.length → kvs[i]? = some (k, v) → Ext M G H G1 H1 → Iv i acc G1 H1 →
      (∀ y G4 H4, Ext M G1 H1 G4 H4 → Iv (i + 1) (acc ++ [y]) G4 H4 → Ry y H4) → (∀ G4 H4, Ext M G1 H1 G4 H4 → Iv (i + 1) acc G4 H4 → Rn H4) →
      g (kV k) (wipe σ vs) H1 fun σ2 H2 => wipe σ2 vs = wipe σ vs ∧ tt σ2 H2 fun b H3 => if b = true then te σ2 H3 Ry else Rn H3)
    (hd : ∀ D acc G1 H1, Ext M G H G1 H1 → H D = none → G1 D = none → H1 D = some (.lst acc) → acc.length ≤ kvs.length → Iv kvs.length acc G1 H1 → Qd D H1) :
    ∀ D, H D = none → ∃ W : Nat → Nat → Hp → Prop, (∃ m, W 0 m (upd H D (.lst []))) ∧ ∀ i m H, W i m H →
      ((Itk d od kvs).stop i H ∧ Qd D H) ∨ ((Itk d od kvs).go i H ∧ ∃ Nx : Hp → Prop, (∀ H', Nx H' → ∃ m', m' < m ∧ W (i + 1) m' H') ∧ ∀ x H', (Itk d od kvs).yld i H x H' → g x (wipe σ vs) H' fun σ2 H2 => wipe σ2 vs = wipe σ vs ∧ tt σ2 H2 fun b H3 =>
        if b = true then te σ2 H3 fun y H4 => ∃ acc, H4 D = some (.lst acc) ∧ acc.length < sizeLine ∧ Nx (upd H4 D (.lst (acc ++ [y]))) else Nx H3) :=
  lcX (Y := fun i x => ∃ k v, kvs[i]? = some (k, v) ∧ x = kV k) (fun H1 s1 => ⟨s1 _ _ hx, Nat.le_refl _⟩) (fun i H1 hi s1 => ⟨s1 _ _ hx, hi⟩) (fun i H1 x H2 hi s1 y => y) s hM hz Iv hJ h0 (fun i x acc G1 H1 Ry Rn hi ⟨k, v, e1, e2⟩ => by subst e2; exact hs i k v acc G1 H1 Ry Rn hi e1) hd
/-! ### loops -/
theorem k_for {wi : TI} (q : wi σ H fun J H1 => ∃ W : Nat → Nat → L2.St → Hp → Prop, (∃ m, W 0 m σ H1) ∧ ∀ i m σ H, W i m σ H →
  (J.stop i H ∧ D.nx σ H) ∨ (J.go i H ∧ ∃ N : L2.St → Hp → Prop, (∀ σ' H', N σ' H' → ∃ m', m' < m ∧ W (i + 1) m' σ' H') ∧ ∀ x H', J.yld i H x H' → g x σ H' fun σ2 H2 => tb { D with nx := N, ct := N, bk := D.nx } σ2 H2)) : tFor wi g tb D σ H := q
theorem forX {J : It} {n : Nat} {Y : Nat → V → Prop} {D : Ends} (hstop : ∀ H1, Same G H1 → J.stop n H1) (hgo : ∀ i H1, i < n → Same G H1 → J.go i H1) (hyl : ∀ i H1 x H2, i < n → Same G H1 → J.yld i H1 x H2 → H2 = H1 ∧ Y i x)
    (s : Same G H) (Pv : Nat → L2.St → Hp → Hp → Prop) (h0 : Pv 0 σ G H)
    (hs : ∀ i x σ1 G1 H1, i < n → Y i x → Ext M G H G1 H1 → Pv i σ1 G1 H1 → g x σ1 H1 fun σ2 H2 => tb { D with nx := fun σ3 H3 => ∃ G3, Ext M G1 H1 G3 H3 ∧ Pv (i + 1) σ3 G3 H3, ct := fun σ3 H3 => ∃ G3, Ext M G1 H1 G3 H3 ∧ Pv (i + 1) σ3 G3 H3, bk := D.nx } σ2 H2)
    (hd : ∀ σ1 G1 H1, Ext M G H G1 H1 → Pv n σ1 G1 H1 → D.nx σ1 H1) :
    ∃ W : Nat → Nat → L2.St → Hp → Prop, (∃ m, W 0 m σ H) ∧ ∀ i m σ H, W i m σ H →
      (J.stop i H ∧ D.nx σ H) ∨ (J.go i H ∧ ∃ N : L2.St → Hp → Prop, (∀ σ' H', N σ' H' → ∃ m', m' < m ∧ W (i + 1) m' σ' H') ∧ ∀ x H', J.yld i H x H' → g x σ H' fun σ2 H2 => tb { D with nx := N, ct := N, bk := D.nx } σ2 H2) := by
  refine ⟨fun i m σ1 H1 => m = n - i ∧ i ≤ n ∧ ∃ G1, Ext M G H G1 H1 ∧ Pv i σ1 G1 H1, ⟨n, rfl, Nat.zero_le _, G, Ext.refl s, h0⟩, ?_⟩
  rintro i m σ1 H1 ⟨rfl, hi, G1, e, p⟩
  have sG : Same G H1 := e.g.trans e.s
  by_cases hlt : i < n
  · refine .inr ⟨hgo i H1 hlt sG, fun σ3 H3 => ∃ G3, Ext M G1 H1 G3 H3 ∧ Pv (i + 1) σ3 G3 H3, fun σ3 H3 ⟨G3, e3, p3⟩ => ⟨n - (i + 1), by omega, rfl, hlt, G3, e.trans e3, p3⟩, fun x H2 y => ?_⟩
    obtain ⟨rfl, yx⟩ := hyl i H1 x H2 hlt sG y
    exact hs i x σ1 G1 H2 hlt yx e p
  · have en : i = n := by omega
    subst en
    exact .inl ⟨hstop H1 sG, hd σ1 G1 H1 e p⟩
theorem forL (s : Same G H) (hx : SqL K G a xs) (Pv : Nat → L2.St → Hp → Hp → Prop) (h0 : Pv 0 σ G H)
    (hs : ∀ i x σ1 G1 H1, i < xs.length → xs[i]? = some x → Ext M G H G1 H1 → Pv i σ1 G1 H1 → g x σ1 H1 fun σ2 H2 => tb { D with nx := fun σ3 H3 => ∃ G3, Ext M G1 H1 G3 H3 ∧ Pv (i + 1) σ3 G3 H3, ct := fun σ3 H3 => ∃ G3, Ext M G1 H1 G3 H3 ∧ Pv (i + 1) σ3 G3 H3, bk := D.nx } σ2 H2)
    (hd : ∀ σ1 G1 H1, Ext M G H G1 H1 → Pv xs.length σ1 G1 H1 → D.nx σ1 H1) :
    ∃ W : Nat → Nat → L2.St → Hp → Prop, (∃ m, W 0 m σ H) ∧ ∀ i m σ H, W i m σ H →
      ((Itl K a).stop i H ∧ D.nx σ H) ∨ ((Itl K a).go i H ∧ ∃ N : L2.St → Hp → Prop, (∀ σ' H', N σ' H' → ∃ m', m' < m ∧ W (i + 1) m' σ' H') ∧ ∀ x H', (Itl K a).yld i H x H' → g x σ H' fun σ2 H2 => tb { D with nx := N, ct := N, bk := D.nx } σ2 H2) :=
  forX (Y := fun i x => xs[i]? = some x) (fun H1 s1 => ⟨xs, s1.seq hx, Nat.le_refl _⟩) (fun i H1 hi s1 => ⟨xs, xs[i], s1.seq hx, List.getElem?_eq_getElem hi⟩) (fun i H1 x H2 hi s1 y => ⟨y.1, y.2 xs (s1.seq hx)⟩) s Pv h0 hs hd
theorem forR {lo : Int} {n : Nat} (s : Same G H) (Pv : Nat → L2.St → Hp → Hp → Prop) (h0 : Pv 0 σ G H)
    (hs : ∀ (i : Nat) σ1 G1 H1, i < n → Ext M G H G1 H1 → Pv i σ1 G1 H1 → g (.int (lo + i)) σ1 H1 fun σ2 H2 => tb { D with nx := fun σ3 H3 => ∃ G3, Ext M G1 H1 G3 H3 ∧ Pv (i + 1) σ3 G3 H3, ct := fun σ3 H3 => ∃ G3, Ext M G1 H1 G3 H3 ∧ Pv (i + 1) σ3 G3 H3, bk := D.nx } σ2 H2)
    (hd : ∀ σ1 G1 H1, Ext M G H G1 H1 → Pv n σ1 G1 H1 → D.nx σ1 H1) :
    ∃ W : Nat → Nat → L2.St → Hp → Prop, (∃ m, W 0 m σ H) ∧ ∀ i m σ H, W i m σ H →
      ((Itr lo n).stop i H ∧ D.nx σ H) ∨ ((Itr lo n).go i H ∧ ∃ N : L2.St → Hp → Prop, (∀ σ' H', N σ' H' → ∃ m', m' < m ∧ W (i + 1) m' σ' H') ∧ ∀ x H', (Itr lo n).yld i H x H' → g x σ H' fun σ2 H2 => tb { D with nx := N, ct := N, bk := D.nx } σ2 H2) :=
  forX (Y := fun i x => x = .int (lo + i)) (fun H1 s1 => Nat.le_refl n) (fun i H1 hi s1 => hi) (fun i H1 x H2 hi s1 y => y) s Pv h0 (fun i x σ1 G1 H1 hi e => by subst e; exact hs i σ1 G1 H1 hi) hd
/-- a while -/
theorem k_while {tc : TT} (s : Same G H) (Pv : Nat → L2.St → Hp → Hp → Prop) (m0 : Nat) (h0 : Pv m0 σ G H)
    (hs : ∀ m σ1 G1 H1, Ext M G H G1 H1 → Pv m σ1 G1 H1 → tc σ1 H1 fun b H2 => if b = true then ∃ N : L2.St → Hp → Prop, (∀ σ3 H3, N σ3 H3 → ∃ m3, m3 < m ∧ ∃ G3, Ext M G H G3 H3 ∧ Pv m3 σ3 G3 H3) ∧ tb { D with nx := N, ct := N, bk := D.nx } σ1 H2 else D.nx σ1 H2) :
    tWhile tc tb D σ H :=
  ⟨fun m σ1 H1 => ∃ G1, Ext M G H G1 H1 ∧ Pv m σ1 G1 H1, ⟨m0, G, Ext.refl s, h0⟩, fun m σ1 H1 ⟨G1, e, p⟩ => hs m σ1 G1 H1 e p⟩
end
end MV
namespace MV
open PySem PySem.Spec PyProof.Rows L2
local macro_rules | `(tactic| walk_at "go") => `(tactic| repeat (first
  | with_reducible refine MV.k_seq ?_ | with_reducible refine MV.k_asg ?_ | with_reducible refine MV.k_name ?_ | with_reducible refine MV.k_op ?_ | ((with_reducible apply MV.k_var); exact rfl) | with_reducible refine MV.k_c ?_
  | with_reducible refine MV.k_add ?_ | with_reducible refine MV.k_sub ?_ | with_reducible refine MV.k_lt ?_ | with_reducible refine MV.k_le ?_ | with_reducible refine MV.k_gt ?_ | with_reducible refine MV.k_ge ?_ | with_reducible refine MV.k_eqI ?_ | with_reducible refine MV.k_neI ?_
  | with_reducible refine MV.k_test ?_ | with_reducible refine MV.k_B ?_ | with_reducible refine MV.k_bl ?_ | with_reducible refine MV.k_blV ?_ | with_reducible refine MV.k_and ?_ | with_reducible refine MV.k_or ?_ | with_reducible refine MV.k_not ?_ | with_reducible refine MV.k_andV ?_ | with_reducible refine MV.k_orV ?_ | with_reducible refine MV.k_notV ?_
  | with_reducible refine MV.k_if ?_ | with_reducible refine MV.k_tru ?_ | with_reducible refine MV.k_chain ?_ | with_reducible refine MV.k_next ?_ | with_reducible refine MV.k_drop ?_ | with_reducible refine MV.k_ret ?_ | with_reducible refine MV.k_retN ?_ | with_reducible refine MV.k_ifS ?_ | with_reducible refine MV.k_brk ?_ | with_reducible refine MV.k_cont ?_
  | with_reducible refine MV.k_nil ?_ | with_reducible refine MV.k_cons ?_ | with_reducible refine MV.k_tup ?_ | with_reducible refine MV.k_lst ?_ | with_reducible refine MV.k_cb ?_ | with_reducible refine MV.k_call ?_ | with_reducible refine MV.k_gnil ?_ | with_reducible refine MV.k_gcons ?_ | with_reducible refine MV.k_gsub ?_
  | with_reducible refine MV.k_bm ?_ | with_reducible refine MV.k_bm0 ?_ | with_reducible refine MV.k_un ?_ | with_reducible refine MV.k_neg ?_ | with_reducible refine MV.k_isN ?_ | with_reducible refine MV.k_notN ?_ | with_reducible refine L2.iteT ?_ | with_reducible refine L2.iteF ?_
  | with_reducible refine MV.k_iList ?_ | with_reducible refine MV.k_iTup ?_ | with_reducible refine MV.k_iRng1 ?_ | with_reducible refine MV.k_lc ?_ | with_reducible refine MV.k_for ?_))
def t__law_start (K : PySem.W.Frag) (w : World) : TS :=
  (tSeq (tAsg (tC (.int 1)) (gName 1))
    (tSeq (tFor (iList K (tVar 0)) (gName 2) (tAsg (tOp vMod (tOp vAdd (tOp vAdd (tOp vMul (tVar 1) (tC (.int 48271))) (tVar 2)) (tC (.int 7))) (tC (.int 2147483647))) (gName 1)))
    (tRet (tLst (tCons (tVar 0) (tCons (tC (.int 0)) (tCons (tVar 1) (tCons (tC (.int 0)) tNil))))))))
def t__law_drawn (K : PySem.W.Frag) (w : World) : TS :=
  (tSeq (tIfS (tTest (tOp vGt (tOp (rIxL K) (tVar 0) (tC (.int 3))) (tC (.int 0)))) (tSeq (tAsg (tOp vMod (tOp (rIxL K) (tVar 0) (tC (.int 3))) (tVar 1)) (gName 2))
    (tSeq (tAsg (tOp vDiv (tOp (rIxL K) (tVar 0) (tC (.int 3))) (tVar 1)) (gSub (tVar 0) (tC (.int 3)) rSetL))
    (tRet (tVar 2)))) tNext)
    (tSeq (tAsg (tOp vAdd (tOp (rIxL K) (tVar 0) (tC (.int 1))) (tC (.int 1))) (gSub (tVar 0) (tC (.int 1)) rSetL))
    (tSeq (tIfS (tTest (tOp vLe (tOp (rIxL K) (tVar 0) (tC (.int 1))) (tCB (vLen K) (tCons (tOp (rIxL K) (tVar 0) (tC (.int 0))) tNil)))) (tSeq (tAsg (tOp (rIxL K) (tOp (rIxL K) (tVar 0) (tC (.int 0))) (tOp vSub (tOp (rIxL K) (tVar 0) (tC (.int 1))) (tC (.int 1)))) (gName 3))
    (tSeq (tAsg (tIf (tTest (tOp vGe (tVar 3) (tOp vPow (tC (.int 10)) (tC (.int 18))))) (tOp vDiv (tVar 3) (tVar 1)) (tC (.int 0))) (gSub (tVar 0) (tC (.int 3)) rSetL))
    (tRet (tOp vMod (tVar 3) (tVar 1))))) tNext)
    (tSeq (tAsg (tOp vMod (tOp vAdd (tOp vMul (tOp (rIxL K) (tVar 0) (tC (.int 2))) (tC (.int 48271))) (tC (.int 11))) (tC (.int 2147483647))) (gSub (tVar 0) (tC (.int 2)) rSetL))
    (tRet (tOp vMod (tOp vDiv (tOp (rIxL K) (tVar 0) (tC (.int 2))) (tC (.int 7))) (tVar 1)))))))
/-! ### the law's drawing -/
section
variable {K : PySem.W.Frag} {w : World}
/-- where drawing stands: the list at a, over the script at c -/
def Stt (c a : Addr) (H : Hp) : Prop := ∃ i m r : Int, H a = some (.lst [.ref c, .int i, .int m, .int r]) ∧ 0 ≤ i ∧ 0 ≤ m ∧ m < 2147483647 ∧ 0 ≤ r
theorem Stt.ne {c a : Addr} {H : Hp} (h : Stt c a H) : H a ≠ none := by obtain ⟨i, m, r, e, _⟩ := h; rw [e]; exact fun z => nomatch z
theorem Stt.of {c a : Addr} {H H1 : Hp} (h : Stt c a H) (e : H1 a = H a) : Stt c a H1 := by obtain ⟨i, m, r, z, q⟩ := h; exact ⟨i, m, r, e.trans z, q⟩
/-- the script stands at c -/
def Scr (K : PySem.W.Frag) (c : Addr) (ns : List Int) (G : Hp) : Prop := SqL K G c (ns.map V.int) ∧ ns.length ≤ 63
theorem Scr.mono {c : Addr} {ns : List Int} {G G1 : Hp} (h : Scr K c ns G) (e : Same G G1) : Scr K c ns G1 := ⟨e.seq h.1, h.2⟩
def spStart (K : PySem.W.Frag) : Sp := fun vs H Q _ => ∃ (c : Addr) (ns : List Int), vs = [.ref c] ∧ Scr K c ns H ∧ ∀ a H1, H a = none → Same H H1 → (∀ b, b ≠ a → H1 b = H b) → Stt c a H1 → Q (.ref a) H1
theorem pure_start (vs : List V) (H : Hp) (Q : VK) (E : XK) (h : spStart K vs H Q E) : t__law_start K w { nx := fun _ H1 => Q .non H1, rt := Q } (start ["_law_script", "_law_mixed", "_law_cell"] vs) H := by
  obtain ⟨c, ns, rfl, ⟨hx, h63⟩, q⟩ := h
  unfold t__law_start
  walk_at "go"
  refine ⟨_, rfl, ⟨_, hx⟩, ?_⟩
  refine forL (M := []) (Same.refl H) hx (fun i σ1 G1 H1 => H1 = H ∧ ∃ m x, σ1 = [some (.ref c), some (.int m), x] ∧ 0 ≤ m ∧ m < 2147483647) ⟨rfl, 1, none, rfl, by decide, by decide⟩ (fun i x σ1 G1 H1 hi ex e ⟨eH, m, y, es, m0, m1⟩ => ?_) (fun σ1 G1 H1 e ⟨eH, m, y, es, m0, m1⟩ => ?_)
  · subst eH es
    rw [List.getElem?_map] at ex
    cases en : ns[i]? with
    | none => rw [en] at ex; cases ex
    | some n =>
      rw [en] at ex
      cases ex
      walk_at "go"
      refine k_mul (.inr (by decide)) ?_
      walk_at "go"
      refine k_mod (by decide) ?_
      exact ⟨G1, Ext.refl e.s, rfl, _, _, rfl, Int.emod_nonneg _ (by decide), Int.emod_lt_of_pos _ (by decide)⟩
  · subst eH es
    walk_at "go"
    exact ⟨sz1 (by simp), fun p hp => q p _ hp (same_new hp) (fun b hb => upd_ne hb) ⟨0, m, 0, upd_same, by decide, m0, m1, by decide⟩⟩
/-- a drawn number: any from 0 on below many; the state goes on, all else stands -/
def spDrawn (K : PySem.W.Frag) : Sp := fun vs H Q _ => ∃ (c a : Addr) (ns : List Int) (many : Int), vs = [.ref a, .int many] ∧ Stt c a H ∧ Scr K c ns H ∧ 0 < many ∧ many < 2 ^ 200 ∧
  ∀ v H1, 0 ≤ v → v < many → (∀ b, b ≠ a → H1 b = H b) → Stt c a H1 → Q (.int v) H1
theorem divW {i j : Int} (h : 0 < j) (h2 : j < 2 ^ 200) : CDivW i j := wide_div h (b := 200) (by omega) (by decide) (by decide)
theorem upd4 {H H1 : Hp} {a : Addr} {o : HO} (h : ∀ b, b ≠ a → H1 b = H b) : ∀ b, b ≠ a → upd H1 a o b = H b := fun b hb => (upd_ne hb).trans (h b hb)
theorem pure_drawn (vs : List V) (H : Hp) (Q : VK) (E : XK) (h : spDrawn K vs H Q E) : t__law_drawn K w { nx := fun _ H1 => Q .non H1, rt := Q } (start ["_law_state", "_law_many", "_law_found", "_law_cell"] vs) H := by
  obtain ⟨c, a, ns, many, rfl, ⟨i, m, r, hS, i0, m0, m1, r0⟩, ⟨hx, h63⟩, p0, p1, q⟩ := h
  unfold t__law_drawn
  walk_at "go"
  refine k_ixL (SqL.of hS) rfl ?_
  walk_at "go"
  refine k_both (fun h => ?_) (fun h => ?_)
  · walk_at "go"
    refine k_ixL (SqL.of hS) rfl ?_
    walk_at "go"
    refine k_mod p0 ?_
    walk_at "go"
    refine k_ixL (SqL.of hS) rfl ?_
    walk_at "go"
    refine k_div (divW p0 p1) ?_
    walk_at "go"
    refine k_setL hS (j := 3) rfl ?_
    walk_at "go"
    refine q _ _ (Int.emod_nonneg _ (by omega)) (Int.emod_lt_of_pos _ p0) (fun b hb => upd_ne hb) ⟨i, m, r / many, upd_same, i0, m0, m1, Int.ediv_nonneg r0 (by omega)⟩
  · walk_at "go"
    refine k_ixL (SqL.of hS) rfl ?_
    walk_at "go"
    refine k_setL hS (j := 1) rfl ?_
    walk_at "go"
    refine k_ixL (xs := [.ref c, .int (i + 1), .int m, .int r]) (SqL.of upd_same) rfl ?_
    walk_at "go"
    refine k_ixL (xs := [.ref c, .int (i + 1), .int m, .int r]) (SqL.of upd_same) rfl ?_
    walk_at "go"
    have hx1 : SqL K (upd H a (.lst [.ref c, .int (i + 1), .int m, .int r])) c (ns.map V.int) := by
      rcases hx with (h | ⟨o, h⟩) | h
      · have nca : c ≠ a := ne_of h hS fun z => by
          have z2 := HO.lst.inj z
          cases ns with
          | nil => cases z2
          | cons n r => cases z2
        exact .inl (.inl (by rw [upd_ne nca]; exact h))
      · have nca : c ≠ a := ne_of h hS fun z => by cases z
        exact .inl (.inr ⟨o, by rw [upd_ne nca]; exact h⟩)
      · exact .inr h
    refine k_len (.inl hx1) ?_
    walk_at "go"
    rw [List.length_map]
    refine k_both (fun h2 => ?_) (fun h2 => ?_)
    · walk_at "go"
      refine k_ixL (xs := [.ref c, .int (i + 1), .int m, .int r]) (SqL.of upd_same) rfl ?_
      walk_at "go"
      refine k_ixL (xs := [.ref c, .int (i + 1), .int m, .int r]) (SqL.of upd_same) rfl ?_
      walk_at "go"
      have hi : i.toNat < ns.length := by omega
      refine k_ixL hx1 (v := .int ns[i.toNat]) ?_ ?_
      · refine at_of (j := i.toNat) (by omega) ?_
        rw [List.getElem?_map, List.getElem?_eq_getElem hi]; rfl
      walk_at "go"
      refine k_pow (by unfold CPow; decide) ?_
      walk_at "go"
      have fin : ∀ x : Int, 0 ≤ x → ∀ H1 : Hp, H1 = upd (upd H a (.lst [.ref c, .int (i + 1), .int m, .int r])) a (.lst [.ref c, .int (i + 1), .int m, .int x]) → Q (.int (ns[i.toNat] % many)) H1 := fun x hx H1 e =>
        q _ _ (Int.emod_nonneg _ (by omega)) (Int.emod_lt_of_pos _ p0) (fun b hb => by rw [e, upd_ne hb, upd_ne hb]) ⟨i + 1, m, x, by rw [e, upd_same], by omega, m0, m1, hx⟩
      refine k_both (fun h3 => ?_) (fun h3 => ?_)
      · walk_at "go"
        refine k_div (divW p0 p1) ?_
        walk_at "go"
        refine k_setL (xs := [.ref c, .int (i + 1), .int m, .int r]) upd_same (j := 3) rfl ?_
        walk_at "go"
        refine k_mod p0 ?_
        exact fin _ (Int.ediv_nonneg (Int.le_trans (by decide) h3) (by omega)) _ rfl
      · walk_at "go"
        refine k_setL (xs := [.ref c, .int (i + 1), .int m, .int r]) upd_same (j := 3) rfl ?_
        walk_at "go"
        refine k_mod p0 ?_
        exact fin _ (Int.le_refl 0) _ rfl
    · walk_at "go"
      refine k_ixL (xs := [.ref c, .int (i + 1), .int m, .int r]) (SqL.of upd_same) rfl ?_
      walk_at "go"
      refine k_mul (.inr (by decide)) ?_
      walk_at "go"
      refine k_mod (by decide) ?_
      walk_at "go"
      refine k_setL (xs := [.ref c, .int (i + 1), .int m, .int r]) upd_same (j := 2) rfl ?_
      walk_at "go"
      refine k_ixL (xs := [.ref c, .int (i + 1), .int ((m * 48271 + 11) % 2147483647), .int r]) (SqL.of upd_same) rfl ?_
      walk_at "go"
      refine k_div (divW (by decide) (by decide)) ?_
      walk_at "go"
      refine k_mod p0 ?_
      exact q _ _ (Int.emod_nonneg _ (by omega)) (Int.emod_lt_of_pos _ p0) (fun b hb => by rw [upd_ne hb, upd_ne hb]) ⟨i + 1, _, r, upd_same, by omega, Int.emod_nonneg _ (by decide), Int.emod_lt_of_pos _ (by decide), r0⟩
theorem Ext.draw {M : List Addr} {G H H1 : Hp} {c a : Addr} (s : Same G H) (m : a ∈ M) (g : G a = none) (h : ∀ b, b ≠ a → H1 b = H b) (st : Stt c a H1) : Ext M G H G H1 :=
  ⟨Same.refl _, fun b o e => by rw [h b (fun z => by rw [z, g] at e; cases e)]; exact s b o e, fun b o nm e => by rw [h b (fun z => nm (by rw [z]; exact m))]; exact e, fun b e => by
    by_cases z : b = a
    · rw [z] at e; exact absurd e st.ne
    · rw [← h b z]; exact e, fun b => .inl rfl⟩
theorem k_drawn {M : List Addr} {G H : Hp} {c a : Addr} {ns : List Int} {many : Int} {Q : VK} {E : XK} (s : Same G H) (m : a ∈ M) (g : G a = none) (hS : Stt c a H) (hc : Scr K c ns G) (p0 : 0 < many) (p1 : many < 2 ^ 200)
    (q : ∀ v H1, 0 ≤ v → v < many → Ext M G H G H1 → Stt c a H1 → Q (.int v) H1) : spDrawn K [.ref a, .int many] H Q E :=
  ⟨c, a, ns, many, rfl, hS, hc.mono s, p0, p1, fun v H1 v0 v1 k st => q v H1 v0 v1 (Ext.draw s m g k st) st⟩
end
end MV
namespace MV
open PySem PySem.Spec PyProof.Rows L2
local macro_rules | `(tactic| walk_at "go") => `(tactic| repeat (first
  | with_reducible refine MV.k_seq ?_ | with_reducible refine MV.k_asg ?_ | with_reducible refine MV.k_name ?_ | with_reducible refine MV.k_op ?_ | ((with_reducible apply MV.k_var); exact rfl) | with_reducible refine MV.k_c ?_
  | with_reducible refine MV.k_add ?_ | with_reducible refine MV.k_sub ?_ | with_reducible refine MV.k_lt ?_ | with_reducible refine MV.k_le ?_ | with_reducible refine MV.k_gt ?_ | with_reducible refine MV.k_ge ?_ | with_reducible refine MV.k_eqI ?_ | with_reducible refine MV.k_neI ?_
  | with_reducible refine MV.k_test ?_ | with_reducible refine MV.k_B ?_ | with_reducible refine MV.k_bl ?_ | with_reducible refine MV.k_blV ?_ | with_reducible refine MV.k_and ?_ | with_reducible refine MV.k_or ?_ | with_reducible refine MV.k_not ?_ | with_reducible refine MV.k_andV ?_ | with_reducible refine MV.k_orV ?_ | with_reducible refine MV.k_notV ?_
  | with_reducible refine MV.k_if ?_ | with_reducible refine MV.k_tru ?_ | with_reducible refine MV.k_chain ?_ | with_reducible refine MV.k_next ?_ | with_reducible refine MV.k_drop ?_ | with_reducible refine MV.k_ret ?_ | with_reducible refine MV.k_retN ?_ | with_reducible refine MV.k_ifS ?_ | with_reducible refine MV.k_brk ?_ | with_reducible refine MV.k_cont ?_
  | with_reducible refine MV.k_nil ?_ | with_reducible refine MV.k_cons ?_ | with_reducible refine MV.k_tup ?_ | with_reducible refine MV.k_lst ?_ | with_reducible refine MV.k_cb ?_ | with_reducible refine MV.k_call ?_ | with_reducible refine MV.k_gnil ?_ | with_reducible refine MV.k_gcons ?_ | with_reducible refine MV.k_gsub ?_
  | with_reducible refine MV.k_bm ?_ | with_reducible refine MV.k_bm0 ?_ | with_reducible refine MV.k_un ?_ | with_reducible refine MV.k_neg ?_ | with_reducible refine MV.k_isN ?_ | with_reducible refine MV.k_notN ?_ | with_reducible refine L2.iteT ?_ | with_reducible refine L2.iteF ?_
  | with_reducible refine MV.k_iList ?_ | with_reducible refine MV.k_iTup ?_ | with_reducible refine MV.k_iRng1 ?_ | with_reducible refine MV.k_lc ?_ | with_reducible refine MV.k_for ?_))
def t__law_order (K : PySem.W.Frag) (w : World) (s__law_drawn : Sp) : TS :=
  (tSeq (tAsg (tCB (vListOf K) (tCons (tVar 1) tNil)) (gName 2))
    (tSeq (tAsg (tLst tNil) (gName 3))
    (tSeq (tWhile (tTest (tOp (rNeD K) (tVar 2) (tLst tNil))) (tDrop (tBM K "list" rAppend (tVar 3) (tCons (tBM K "list" rPopAt (tVar 2) (tCons (tCall s__law_drawn [] E0 (tCons (tVar 0) (tCons (tCB (vLen K) (tCons (tVar 2) tNil)) tNil))) tNil)) tNil))))
    (tRet (tVar 3)))))
def t__law_boxes (K : PySem.W.Frag) (w : World) (s__law_drawn : Sp) : TS :=
  (tRet (tOp (rIxL K) (tLst (tCons (tOp vAdd (tC (.int 1)) (tCall s__law_drawn [] E0 (tCons (tVar 0) (tCons (tC (.int 4)) tNil)))) (tCons (tOp vAdd (tC (.int 2)) (tCall s__law_drawn [] E0 (tCons (tVar 0) (tCons (tC (.int 5)) tNil)))) (tCons (tOp vAdd (tC (.int 1)) (tCall s__law_drawn [] E0 (tCons (tVar 0) (tCons (tC (.int 10)) tNil)))) tNil)))) (tCall s__law_drawn [] E0 (tCons (tVar 0) (tCons (tC (.int 3)) tNil)))))
section
variable {K : PySem.W.Frag} {w : World}
/-- drawing may go on: G is known and stays, the state stands at a -/
structure Dr (K : PySem.W.Frag) (c a : Addr) (ns : List Int) (G H : Hp) : Prop where
  s : Same G H
  g : G a = none
  st : Stt c a H
  sc : Scr K c ns G
theorem Dr.next {M : List Addr} {c a : Addr} {ns : List Int} {G H G1 H1 : Hp} (d : Dr K c a ns G H) (e : Ext M G H G1 H1) (st : Stt c a H1) : Dr K c a ns G1 H1 := by
  obtain ⟨i, m, r, z, _⟩ := d.st
  exact ⟨e.s, e.un d.g z, st, d.sc.mono e.g⟩
theorem Dr.pure {M : List Addr} {c a : Addr} {ns : List Int} {G H G1 H1 : Hp} (d : Dr K c a ns G H) (e : Ext M G H G1 H1) (h : a ∉ M) : Dr K c a ns G1 H1 := by
  obtain ⟨i, m, r, z, q⟩ := d.st
  exact d.next e ⟨i, m, r, e.keep z h, q⟩
theorem Dr.draw {M : List Addr} {c a : Addr} {ns : List Int} {G H : Hp} {many : Int} {Q : VK} {E : XK} (d : Dr K c a ns G H) (m : a ∈ M) (p0 : 0 < many) (p1 : many < 2 ^ 200)
    (q : ∀ v H1, 0 ≤ v → v < many → Ext M G H G H1 → Dr K c a ns G H1 → (∀ b, b ≠ a → H1 b = H b) → Q (.int v) H1) : spDrawn K [.ref a, .int many] H Q E :=
  ⟨c, a, ns, many, rfl, d.st, d.sc.mono d.s, p0, p1, fun v H1 v0 v1 k st => q v H1 v0 v1 (Ext.draw d.s m d.g k st) (d.next (Ext.draw d.s m d.g k st) st) k⟩
/-- a thing that stands apart from the state -/
theorem Dr.ne {c a p : Addr} {ns : List Int} {G H : Hp} (d : Dr K c a ns G H) (h : H p = none) : p ≠ a := fun z => d.st.ne (by rw [← z]; exact h)
/-! ### comparing with the empty list -/
theorem lay_ints : ∀ ns : List Int, PyData.canLayAll0 (ns.map PyData.int) = true
  | [] => rfl
  | n :: r => by show (true && PyData.canLayAll0 (r.map PyData.int)) = true; rw [lay_ints r]; rfl
theorem depth_ints : ∀ ns : List Int, PyData.depthAll (ns.map PyData.int) = 0
  | [] => rfl
  | n :: r => by show max 0 (PyData.depthAll (r.map PyData.int)) = 0; rw [depth_ints r]; rfl
theorem shaped_ints (ns : List Int) : SeqAt.shaped (.list (ns.map PyData.int)) = true := by
  unfold SeqAt.shaped
  show (PyData.canLayAll0 (ns.map PyData.int) && decide (PyData.depthAll (ns.map PyData.int) + 1 ≤ 64)) = true
  rw [lay_ints, depth_ints]; rfl
theorem shaped_nil : SeqAt.shaped (.list []) = true := shaped_ints []
theorem eqv_nil (ds : List PyData) : PyData.eqv (.list ds) (.list []) = ds.isEmpty := by
  cases ds with
  | nil => rfl
  | cons d r => rfl
theorem k_neNil {l e : Addr} {H : Hp} {Q : VK} {ns : List Int} (h : SqL K H l (ns.map V.int)) (he : SqL K H e []) (q : Q (.bl (!(ns.map PyData.int).isEmpty)) H) : rNeD K (.ref l) (.ref e) H Q :=
  ⟨.list (ns.map PyData.int), .list [], .lst h (dpAll_ints ns), .lst he .nil, shaped_ints ns, shaped_nil, by rw [eqv_nil]; exact q⟩
theorem k_eqNil {l e : Addr} {H : Hp} {Q : VK} {ns : List Int} (h : SqL K H l (ns.map V.int)) (he : SqL K H e []) (q : Q (.bl (ns.map PyData.int).isEmpty) H) : rEqD K (.ref l) (.ref e) H Q :=
  ⟨.list (ns.map PyData.int), .list [], .lst h (dpAll_ints ns), .lst he .nil, shaped_ints ns, shaped_nil, by rw [eqv_nil]; exact q⟩
theorem erase_map {α β : Type} (f : α → β) : ∀ (l : List α) (i : Nat), (l.map f).eraseIdx i = (l.eraseIdx i).map f
  | [], _ => rfl
  | _ :: _, 0 => rfl
  | a :: l, i + 1 => by show f a :: (l.map f).eraseIdx i = f a :: (l.eraseIdx i).map f; rw [erase_map f l i]
theorem erase_perm {α : Type} : ∀ (l : List α) (i : Nat) (h : i < l.length), (l[i] :: l.eraseIdx i).Perm l
  | a :: l, 0, _ => .refl _
  | a :: l, i + 1, h => by
    show (l[i]'(Nat.lt_of_succ_lt_succ h) :: a :: l.eraseIdx i).Perm (a :: l)
    exact (List.Perm.swap _ _ _).trans (.cons _ (erase_perm l i _))
theorem Dr.frz {c a p : Addr} {ns : List Int} {G H : Hp} {o : HO} (d : Dr K c a ns G H) (g : G p = none) (e : H p = some o) (n : p ≠ a) : Dr K c a ns (upd G p o) H :=
  ⟨fun b q z => by
    by_cases h : b = p
    · subst h; rw [upd_same] at z; cases z; exact e
    · rw [upd_ne h] at z; exact d.s b q z, by rw [upd_ne n.symm]; exact d.g, d.st, d.sc.mono (same_new g)⟩
theorem Dr.new {c a p : Addr} {ns : List Int} {G H : Hp} {o : HO} (d : Dr K c a ns G H) (e : H p = none) : Dr K c a ns (upd G p o) (upd H p o) :=
  ⟨same_put d.s, by rw [upd_ne (d.ne e).symm]; exact d.g, d.st.of (upd_ne (d.ne e).symm), d.sc.mono (same_new (d.s.free e))⟩
theorem Dr.tmp {c a p : Addr} {ns : List Int} {G H : Hp} {o : HO} (d : Dr K c a ns G H) (e : H p = none) : Dr K c a ns G (upd H p o) :=
  ⟨d.s.trans (same_new e), d.g, d.st.of (upd_ne (d.ne e).symm), d.sc⟩
theorem Dr.mut {c a p : Addr} {ns : List Int} {G H : Hp} {o : HO} (d : Dr K c a ns G H) (g : G p = none) (n : p ≠ a) : Dr K c a ns G (upd H p o) :=
  ⟨same_mut d.s g, d.g, d.st.of (upd_ne n.symm), d.sc⟩
/-- a drawn order -/
def spOrder (K : PySem.W.Frag) : Sp := fun vs H Q _ => ∃ (c a p : Addr) (ns ms : List Int) (G : Hp), vs = [.ref a, .ref p] ∧ Dr K c a ns G H ∧ SqL K G p (ms.map V.int) ∧ ms.length ≤ 100 ∧
  ∀ (l : Addr) (zs : List Int) (G1 H1 : Hp), Ext [a] G H G1 H1 → Dr K c a ns G1 H1 → H l = none → zs.Perm ms → G1 l = some (.lst (zs.map V.int)) → Q (.ref l) H1
theorem tyL {l : Addr} {H : Hp} {xs : List V} (h : H l = some (.lst xs)) : tyV K "list" (.ref l) H := .inl ⟨rfl, _, SqL.of h⟩
theorem upd_two {H : Hp} {p q : Addr} {o u : HO} (h : q ≠ p) (e : H q = some u) : upd H p o q = some u := by rw [upd_ne h]; exact e
theorem pure_order (vs : List V) (H : Hp) (Q : VK) (E : XK) (h : spOrder K vs H Q E) : t__law_order K w (spDrawn K) { nx := fun _ H1 => Q .non H1, rt := Q } (start ["_law_state", "_law_some", "_law_left", "_law_found"] vs) H := by
  obtain ⟨c, a, p, ns, ms, G, rfl, d, hp, h64, q⟩ := h
  unfold t__law_order
  walk_at "go"
  refine ⟨p, _, rfl, .inl (d.s.seq hp), fun l1 n1 => ?_⟩
  walk_at "go"
  refine ⟨sz1 (by simp), fun l2 n2 => ?_⟩
  walk_at "go"
  have n2' : H l2 = none := by
    by_cases z : l2 = l1
    · subst z; rw [upd_same] at n2; cases n2
    · rwa [upd_ne z] at n2
  have n21 : l2 ≠ l1 := fun z => by rw [z, upd_same] at n2; cases n2
  have e0 : Ext [a] G H G (upd (upd H l1 (.lst (ms.map V.int))) l2 (.lst [])) := ((Ext.refl d.s).tmp n1).tmp n2
  have a1 := (d.ne n1)
  have a2 := (d.ne n2')
  refine k_while (M := [l1, l2, a]) e0.s (fun m σ1 G1 H1 => G1 = G ∧ ∃ left found : List Int, σ1 = [some (.ref a), some (.ref p), some (.ref l1), some (.ref l2)] ∧ m = left.length ∧ H1 l1 = some (.lst (left.map V.int)) ∧ H1 l2 = some (.lst (found.map V.int)) ∧ (found ++ left).Perm ms ∧ Stt c a H1)
    ms.length ⟨rfl, ms, [], rfl, rfl, upd_two n21.symm upd_same, upd_same, List.Perm.refl _, d.st.of (by rw [upd_ne a2.symm, upd_ne a1.symm])⟩ ?_
  rintro m σ1 G1 H1 e ⟨rfl, left, found, rfl, rfl, h1, h2, pm, st⟩
  have g1 : G1 l1 = none := d.s.free n1
  have g2 : G1 l2 = none := d.s.free n2'
  walk_at "go"
  refine ⟨sz1 (by simp), fun l3 n3 => ?_⟩
  have n31 : l1 ≠ l3 := ne_of_none h1 n3
  have n32 : l2 ≠ l3 := ne_of_none h2 n3
  have n3a : a ≠ l3 := fun z => st.ne (by rw [z]; exact n3)
  refine k_neNil (ns := left) (SqL.of (upd_two n31 h1)) (SqL.of upd_same) ?_
  walk_at "go"
  have d1 : Dr K c a ns G1 (upd H1 l3 (.lst [])) := ⟨(e.tmp n3).s, d.g, st.of (by rw [upd_ne n3a]), d.sc⟩
  have n1a : l1 ≠ a := a1
  cases left with
  | nil =>
    refine iteF ?_
    walk_at "go"
    have eB : Ext [a] G1 H G1 (upd H1 l3 (.lst [])) := e0.fin (e.tmp n3) (by simp [n1, n2'])
    have h2' : (upd H1 l3 (.lst [])) l2 = some (.lst (found.map V.int)) := upd_two n32 h2
    have eC := eB.frz n2' g2 h2'
    rw [List.append_nil] at pm
    exact q l2 found _ _ eC (d1.frz g2 h2' a2) n2' pm upd_same
  | cons x r =>
    refine iteT ?_
    refine ⟨_, fun _ _ h => h, ?_⟩
    walk_at "go"
    refine ⟨tyL (upd_two n32 h2), ?_⟩
    walk_at "go"
    refine ⟨tyL (upd_two n31 h1), ?_⟩
    walk_at "go"
    refine k_len (.inl (SqL.of (upd_two n31 h1))) ?_
    walk_at "go"
    have hl : (((x :: r).map V.int).length : Int) = r.length + 1 := by simp
    have pl : found.length + (r.length + 1) = ms.length := by rw [← pm.length_eq]; simp
    rw [hl]
    refine d1.draw (M := [a]) (by simp) (by omega) (by omega) fun v H2 v0 v1 e2 d2 k2 => ?_
    have hi : v.toNat < (x :: r).length := by simp; omega
    have h1' : H2 l1 = some (.lst ((x :: r).map V.int)) := by rw [k2 l1 a1]; exact upd_two n31 h1
    have h2' : H2 l2 = some (.lst (found.map V.int)) := by rw [k2 l2 a2]; exact upd_two n32 h2
    refine ⟨l1, _, v, v.toNat, .int (x :: r)[v.toNat], rfl, rfl, h1', by omega, by omega, seqIndex_of v0 (by simp; omega), by rw [List.getElem?_map, List.getElem?_eq_getElem hi]; rfl, ?_⟩
    walk_at "go"
    refine k_append (upd_two n21 h2') (by rw [List.length_map]; exact sz2 (by omega)) ?_
    walk_at "go"
    refine ⟨r.length, by simp, G1, ?_, rfl, (x :: r).eraseIdx v.toNat, found ++ [(x :: r)[v.toNat]], rfl, ?_, upd_two n21.symm ?_, ?_, ?_, ?_⟩
    · exact (((e.tmp n3).trans (e2.wide fun _ h => by simp at h; simp [h])).mutM (by simp) g1).mutM (by simp) g2
    · rw [List.length_eraseIdx_of_lt hi]; rfl
    · rw [upd_same, erase_map]
    · rw [upd_same, List.map_append]; rfl
    · rw [List.append_assoc]
      exact ((erase_perm (x :: r) v.toNat hi).append_left found).trans pm
    · exact d2.st.of (by rw [upd_ne a2.symm, upd_ne a1.symm])
end
end MV
namespace MV
open PySem PySem.Spec PyProof.Rows L2
/-! ### leads and what they lead, as plain lists -/
abbrev Lead := List (Int × Int)
def lk (m : Lead) (k : Int) : Option Int := (m.find? fun p => decide (p.1 = k)).map (·.2)
def putI (m : Lead) (k v : Int) : Lead := if (m.any fun p => decide (p.1 = k)) = true then m.map (fun p => if p.1 = k then (p.1, v) else p) else m ++ [(k, v)]
def dct (m : Lead) : List (Key × V) := m.map fun p => (Sum.inl p.1, V.int p.2)
structure GoodM (n : Int) (m : Lead) : Prop where
  rg : ∀ p, p ∈ m → 0 ≤ p.1 ∧ p.1 < n ∧ 0 ≤ p.2 ∧ p.2 < n
  nd : (m.map (·.1)).Nodup
def pdPair (p : Int × Int) : PyData := .tuple [.int p.1, .int p.2]
def pdLead (ld : Lead) : PyData := .list (ld.map pdPair)
def pdInts (r : List Int) : PyData := .tuple (r.map .int)
def real (ld : Lead) : Lead := ld.filter fun p => decide (p.1 ≠ p.2)
theorem key_inl (a b : Int) : decide ((Sum.inl a : Key) = Sum.inl b) = decide (a = b) := by
  by_cases e : a = b
  · subst e; simp
  · have : ¬ (Sum.inl a : Key) = Sum.inl b := fun q => e (Sum.inl.inj q)
    rw [decide_eq_false this, decide_eq_false e]
theorem dct_len (m : Lead) : (dct m).length = m.length := List.length_map _
theorem dct_any (m : Lead) (k : Int) : ((dct m).any fun kv => decide (kv.1 = Sum.inl k)) = m.any fun p => decide (p.1 = k) := by
  unfold dct
  rw [List.any_map]
  congr 1
  funext p
  exact key_inl p.1 k
theorem dct_put (m : Lead) (k v : Int) : putK (dct m) (Sum.inl k) (.int v) = dct (putI m k v) := by
  unfold putK putI
  rw [dct_any]
  by_cases h : (m.any fun p => decide (p.1 = k)) = true
  · rw [if_pos h, if_pos h]
    unfold dct
    rw [List.map_map, List.map_map]
    apply List.map_congr_left
    intro p _
    show (if (Sum.inl p.1 : Key) = Sum.inl k then (Sum.inl p.1, V.int v) else (Sum.inl p.1, V.int p.2)) = (Sum.inl (if p.1 = k then (p.1, v) else p).1, V.int (if p.1 = k then (p.1, v) else p).2)
    by_cases e : p.1 = k
    · rw [if_pos e, if_pos (congrArg Sum.inl e)]
    · rw [if_neg e, if_neg (fun q => e (Sum.inl.inj q))]
  · rw [if_neg h, if_neg h]
    unfold dct
    rw [List.map_append]
    rfl
theorem dct_val (m : Lead) (k : Int) : valV (dct m) (Sum.inl k) = (lk m k).map V.int := by
  unfold valV lk dct
  rw [List.find?_map, Option.map_map, Option.map_map]
  have e : ((fun kv : Key × V => decide (kv.1 = Sum.inl k)) ∘ fun p : Int × Int => (Sum.inl p.1, V.int p.2)) = fun p : Int × Int => decide (p.1 = k) := by
    funext p; exact key_inl p.1 k
  rw [e]
  rfl
theorem dct_keys (m : Lead) : (dct m).map (·.1) = (m.map (·.1)).map Sum.inl := by
  unfold dct; rw [List.map_map, List.map_map]; rfl
theorem lk_none {m : Lead} {k : Int} : lk m k = none ↔ k ∉ m.map (·.1) := by
  unfold lk
  simp only [Option.map_eq_none_iff, List.find?_eq_none, decide_eq_true_eq, List.mem_map, not_exists, not_and]
  try exact Iff.rfl
theorem lk_mem {m : Lead} {k v : Int} (h : lk m k = some v) : (k, v) ∈ m := by
  unfold lk at h
  cases e : m.find? fun p => decide (p.1 = k) with
  | none => rw [e] at h; cases h
  | some p =>
    rw [e] at h
    have h1 := List.mem_of_find?_eq_some e
    have h2 := List.find?_some e
    simp at h2
    have h3 : p.2 = v := Option.some.inj h
    obtain ⟨a, b⟩ := p
    simp only at h2 h3
    rw [← h2, ← h3]; exact h1
theorem lk_of {m : Lead} (nd : (m.map (·.1)).Nodup) {k v : Int} (h : (k, v) ∈ m) : lk m k = some v := by
  induction m with
  | nil => cases h
  | cons p r ih =>
    unfold lk
    rw [List.map_cons, List.nodup_cons] at nd
    rw [List.find?_cons]
    by_cases e : p.1 = k
    · rw [decide_eq_true e]
      rcases List.mem_cons.mp h with h | h
      · rw [← h]; rfl
      · exact absurd (List.mem_map.mpr ⟨_, h, e.symm⟩) nd.1
    · rw [decide_eq_false e]
      rcases List.mem_cons.mp h with h | h
      · exact absurd (by rw [← h]) e
      · exact ih nd.2 h
theorem mem_putI {m : Lead} {k v : Int} {p : Int × Int} (h : p ∈ putI m k v) : p ∈ m ∨ p = (k, v) := by
  unfold putI at h
  split at h
  · obtain ⟨q, hq, e⟩ := List.mem_map.mp h
    by_cases c : q.1 = k
    · rw [if_pos c] at e; exact .inr (by rw [← e, c])
    · rw [if_neg c] at e; exact .inl (by rw [← e]; exact hq)
  · rcases List.mem_append.mp h with h | h
    · exact .inl h
    · exact .inr (List.mem_singleton.mp h)
theorem putI_keys {m : Lead} {k v : Int} : (putI m k v).map (·.1) = if k ∈ m.map (·.1) then m.map (·.1) else m.map (·.1) ++ [k] := by
  unfold putI
  have e : (m.any fun p => decide (p.1 = k)) = decide (k ∈ m.map (·.1)) := by
    by_cases h : k ∈ m.map (·.1)
    · rw [decide_eq_true h, List.any_eq_true]
      obtain ⟨p, hp, e⟩ := List.mem_map.mp h
      exact ⟨p, hp, decide_eq_true e⟩
    · rw [decide_eq_false h, List.any_eq_false]
      intro p hp z
      exact h (List.mem_map.mpr ⟨p, hp, of_decide_eq_true z⟩)
  rw [e]
  by_cases h : k ∈ m.map (·.1)
  · rw [decide_eq_true h, if_pos rfl, if_pos h, List.map_map]
    apply List.map_congr_left
    intro p _
    show (if p.1 = k then (p.1, v) else p).1 = p.1
    split <;> rfl
  · rw [decide_eq_false h, if_neg Bool.false_ne_true, if_neg h, List.map_append]; rfl
theorem GoodM.nil (n : Int) : GoodM n [] := ⟨(fun _ h => nomatch h), List.nodup_nil⟩
theorem GoodM.put {n : Int} {m : Lead} (g : GoodM n m) {k v : Int} (k0 : 0 ≤ k) (k1 : k < n) (v0 : 0 ≤ v) (v1 : v < n) : GoodM n (putI m k v) := by
  refine ⟨fun p hp => ?_, ?_⟩
  · rcases mem_putI hp with h | h
    · exact g.rg p h
    · subst h; exact ⟨k0, k1, v0, v1⟩
  · rw [putI_keys]
    split
    · exact g.nd
    · rename_i h
      refine List.nodup_append.mpr ⟨g.nd, by simp, fun a ha b hb e => ?_⟩
      have : b = k := List.mem_singleton.mp hb
      subst this
      subst e
      exact h ha
def rangeI (n : Nat) : List Int := (List.range n).map fun (i : Nat) => (i : Int)
theorem mem_rangeI {n : Nat} {x : Int} : x ∈ rangeI n ↔ 0 ≤ x ∧ x < n := by
  unfold rangeI
  rw [List.mem_map]
  constructor
  · rintro ⟨i, hi, rfl⟩
    have := List.mem_range.mp hi
    omega
  · rintro ⟨h0, h1⟩
    exact ⟨x.toNat, List.mem_range.mpr (by omega), by omega⟩
theorem len_rangeI (n : Nat) : (rangeI n).length = n := by unfold rangeI; simp
theorem rangeI_nodup (n : Nat) : (rangeI n).Nodup := by
  unfold rangeI
  refine List.Pairwise.map _ (fun a b h => ?_) (List.nodup_range (n := n))
  intro z; exact h (Int.ofNat.inj z)
/-- as many unlike numbers as there are boxes, at most -/
theorem few {n : Int} {l : List Int} (nd : l.Nodup) (h : ∀ x, x ∈ l → 0 ≤ x ∧ x < n) : l.length ≤ n.toNat := by
  have h1 := nd.length_le_of_subset (l₂ := rangeI n.toNat) (fun x hx => mem_rangeI.mpr (by have := h x hx; omega))
  rwa [len_rangeI] at h1
theorem GoodM.len {n : Int} {m : Lead} (g : GoodM n m) : m.length ≤ n.toNat := by
  have := few (n := n) g.nd fun x hx => by
    obtain ⟨p, hp, e⟩ := List.mem_map.mp hx
    subst e
    have := g.rg p hp
    omega
  rwa [List.length_map] at this
/-- a slice of ints -/
theorem cut_ints (zs : List Int) (lo hi : Option Int) : ∃ ys : List Int, cutV (zs.map V.int) lo hi = ys.map V.int ∧ ys.Sublist zs := by
  unfold cutV
  rw [List.length_map]
  exact ⟨(zs.drop _).take _, by rw [← List.map_drop, ← List.map_take], (List.take_sublist _ _).trans (List.drop_sublist _ _)⟩
end MV
namespace MV
open PySem PySem.Spec PyProof.Rows L2
local macro_rules | `(tactic| walk_at "go") => `(tactic| repeat (first
  | with_reducible refine MV.k_seq ?_ | with_reducible refine MV.k_asg ?_ | with_reducible refine MV.k_name ?_ | with_reducible refine MV.k_op ?_ | ((with_reducible apply MV.k_var); exact rfl) | with_reducible refine MV.k_c ?_
  | with_reducible refine MV.k_add ?_ | with_reducible refine MV.k_sub ?_ | with_reducible refine MV.k_lt ?_ | with_reducible refine MV.k_le ?_ | with_reducible refine MV.k_gt ?_ | with_reducible refine MV.k_ge ?_ | with_reducible refine MV.k_eqI ?_ | with_reducible refine MV.k_neI ?_
  | with_reducible refine MV.k_test ?_ | with_reducible refine MV.k_B ?_ | with_reducible refine MV.k_bl ?_ | with_reducible refine MV.k_blV ?_ | with_reducible refine MV.k_and ?_ | with_reducible refine MV.k_or ?_ | with_reducible refine MV.k_not ?_ | with_reducible refine MV.k_andV ?_ | with_reducible refine MV.k_orV ?_ | with_reducible refine MV.k_notV ?_
  | with_reducible refine MV.k_if ?_ | with_reducible refine MV.k_tru ?_ | with_reducible refine MV.k_chain ?_ | with_reducible refine MV.k_next ?_ | with_reducible refine MV.k_drop ?_ | with_reducible refine MV.k_ret ?_ | with_reducible refine MV.k_retN ?_ | with_reducible refine MV.k_ifS ?_ | with_reducible refine MV.k_brk ?_ | with_reducible refine MV.k_cont ?_
  | with_reducible refine MV.k_nil ?_ | with_reducible refine MV.k_cons ?_ | with_reducible refine MV.k_tup ?_ | with_reducible refine MV.k_lst ?_ | with_reducible refine MV.k_cb ?_ | with_reducible refine MV.k_call ?_ | with_reducible refine MV.k_gnil ?_ | with_reducible refine MV.k_gcons ?_ | with_reducible refine MV.k_gsub ?_
  | with_reducible refine MV.k_bm ?_ | with_reducible refine MV.k_bm0 ?_ | with_reducible refine MV.k_un ?_ | with_reducible refine MV.k_neg ?_ | with_reducible refine MV.k_isN ?_ | with_reducible refine MV.k_notN ?_ | with_reducible refine L2.iteT ?_ | with_reducible refine L2.iteF ?_
  | with_reducible refine MV.k_iList ?_ | with_reducible refine MV.k_iTup ?_ | with_reducible refine MV.k_iRng1 ?_ | with_reducible refine MV.k_lc ?_ | with_reducible refine MV.k_for ?_
  | with_reducible refine MV.k_yes ?_ | with_reducible refine MV.k_dput ?_ | with_reducible refine MV.k_dget ?_ | with_reducible refine MV.k_dget1 ?_ | with_reducible refine MV.k_sl ?_ | with_reducible refine MV.k_nopart ?_ | with_reducible refine MV.k_part ?_ | with_reducible refine MV.k_pint ?_ | with_reducible refine MV.k_dnew ?_ | with_reducible refine MV.k_lstRg ?_ | with_reducible refine MV.k_rg1 ?_))
def t__law_lead (K : PySem.W.Frag) (w : World) (s__law_drawn : Sp) (s__law_order : Sp) : TS :=
  (tSeq (tAsg tDNewK (gName 2))
    (tSeq (tAsg (tOp vAdd (tC (.int 1)) (tCall s__law_drawn [] E0 (tCons (tVar 0) (tCons (tC (.int 3)) tNil)))) (gName 3))
    (tSeq (tFor (iRng1 (tCons (tVar 1) tNil)) (gName 4) (tIfS (tTest (tOp rEq (tCall s__law_drawn [] E0 (tCons (tVar 0) (tCons (tVar 3) tNil))) (tC (.int 0)))) (sDPut (tVar 2) (tVar 4) (tCall s__law_drawn [] E0 (tCons (tVar 0) (tCons (tVar 1) tNil)))) tNext))
    (tSeq (tIfS (tTest (tOp rEq (tCall s__law_drawn [] E0 (tCons (tVar 0) (tCons (tC (.int 2)) tNil))) (tC (.int 1)))) (tSeq (tAsg (tCall s__law_order [] E0 (tCons (tVar 0) (tCons (tLstRg (tRg1 (tVar 1))) tNil))) (gName 5))
    (tSeq (tAsg (tSl (rSlL K) (tVar 5) tNoPart (tPart (tCall s__law_drawn [] E0 (tCons (tVar 0) (tCons (tOp vAdd (tVar 1) (tC (.int 1))) tNil))))) (gName 5))
    (tSeq (tIfS (tTest (tOp rEq (tCall s__law_drawn [] E0 (tCons (tVar 0) (tCons (tC (.int 2)) tNil))) (tC (.int 1)))) (tAsg tDNewK (gName 2)) tNext)
    (tSeq (tAsg (tCall s__law_drawn [] E0 (tCons (tVar 0) (tCons (tOp vAdd (tCB (vLen K) (tCons (tVar 5) tNil)) (tC (.int 1))) tNil))) (gName 6))
    (tFor (iList K (tLst (tCons (tSl (rSlL K) (tVar 5) tNoPart (tPart (tVar 6))) (tCons (tSl (rSlL K) (tVar 5) (tPart (tVar 6)) tNoPart) tNil)))) (gName 7) (tFor (iRng1 (tCons (tCB (vLen K) (tCons (tVar 7) tNil)) tNil)) (gName 8) (sDPut (tVar 2) (tOp (rIxL K) (tVar 7) (tVar 8)) (tOp (rIxL K) (tVar 7) (tOp vSub (tVar 8) (tC (.int 1))))))))))) tNext)
    (tRet (tLc (iList K (tCall s__law_order [] E0 (tCons (tVar 0) (tCons (tCB vSortedDI (tCons (tVar 2) tNil)) tNil)))) (gName 9) tYes (tTup (tCons (tVar 9) (tCons (tDGet (tVar 2) (tVar 9)) tNil))) [9]))))))
section
variable {K : PySem.W.Frag} {w : World}
/-- a count of boxes -/
def spBoxes (K : PySem.W.Frag) : Sp := fun vs H Q _ => ∃ (c a : Addr) (ns : List Int) (G : Hp), vs = [.ref a] ∧ Dr K c a ns G H ∧
  ∀ (n : Int) (G1 H1 : Hp), Ext [a] G H G1 H1 → Dr K c a ns G1 H1 → 1 ≤ n → n ≤ 10 → Q (.int n) H1
theorem pure_boxes (vs : List V) (H : Hp) (Q : VK) (E : XK) (h : spBoxes K vs H Q E) : t__law_boxes K w (spDrawn K) { nx := fun _ H1 => Q .non H1, rt := Q } (start ["_law_state"] vs) H := by
  obtain ⟨c, a, ns, G, rfl, d, q⟩ := h
  unfold t__law_boxes
  walk_at "go"
  refine d.draw (M := [a]) (by simp) (by decide) (by decide) fun x1 H1 x10 x11 e1 d1 k1 => ?_
  walk_at "go"
  refine d1.draw (M := [a]) (by simp) (by decide) (by decide) fun x2 H2 x20 x21 e2 d2 k2 => ?_
  walk_at "go"
  refine d2.draw (M := [a]) (by simp) (by decide) (by decide) fun x3 H3 x30 x31 e3 d3 k3 => ?_
  walk_at "go"
  refine ⟨sz1 (by simp), fun p hp => ?_⟩
  walk_at "go"
  have d4 := d3.tmp (o := .lst [.int (1 + x1), .int (2 + x2), .int (1 + x3)]) hp
  have e4 : Ext [a] G H G _ := ((e1.trans e2).trans e3).tmp (o := .lst [.int (1 + x1), .int (2 + x2), .int (1 + x3)]) hp
  refine d4.draw (M := [a]) (by simp) (by decide) (by decide) fun x4 H4 x40 x41 e5 d5 k5 => ?_
  have hp4 : H4 p = some (.lst [.int (1 + x1), .int (2 + x2), .int (1 + x3)]) := by rw [k5 p (d3.ne hp), upd_same]
  have fin : ∀ n : Int, 1 ≤ n → n ≤ 10 → Q (.int n) H4 := fun n h1 h2 => q n _ _ (e4.trans e5) d5 h1 h2
  have c4 : x4 = 0 ∨ x4 = 1 ∨ x4 = 2 := by omega
  rcases c4 with z | z | z
  · subst z; exact k_ixL (SqL.of hp4) rfl (fin _ (by omega) (by omega))
  · subst z; exact k_ixL (SqL.of hp4) rfl (fin _ (by omega) (by omega))
  · subst z; exact k_ixL (SqL.of hp4) rfl (fin _ (by omega) (by omega))
/-- a drawn lead: a new list of new pairs -/
def spLead (K : PySem.W.Frag) : Sp := fun vs H Q _ => ∃ (c a : Addr) (ns : List Int) (G : Hp) (n : Int), vs = [.ref a, .int n] ∧ Dr K c a ns G H ∧ 1 ≤ n ∧ n ≤ 10 ∧
  ∀ (l : Addr) (xs : List V) (ld : Lead) (G1 H1 : Hp), Ext [a] G H G1 H1 → Dr K c a ns G1 H1 → H l = none → G1 l = some (.lst xs) → DpAll K G1 xs (ld.map pdPair) → GoodM n ld → Q (.ref l) H1
theorem k_dgetAt {d : Addr} {m : Lead} {k v : Int} {H : Hp} (h : H d = some (.dK (dct m))) (e : lk m k = some v) : DGet H d (.int k) (some (.int v)) := by
  have q := DGet.k (k := Sum.inl k) h
  rw [dct_val, e] at q
  exact q
theorem lead_end {c a dd : Addr} {ns : List Int} {G0 H0 G H : Hp} {n : Int} {m : Lead} {D : Ends} {x3 x4 x5 x6 x7 x8 x9 y1 : Option V} (e : Ext [a] G0 H0 G H) (d : Dr K c a ns G H) (hd : H dd = some (.dK (dct m))) (nd : H0 dd = none) (gd : G dd = none) (ne : dd ≠ a) (gm : GoodM n m) (n10 : n ≤ 10)
    (q : ∀ (l : Addr) (xs : List V) (ld : Lead) (G1 H1 : Hp), Ext [a] G0 H0 G1 H1 → Dr K c a ns G1 H1 → H0 l = none → G1 l = some (.lst xs) → DpAll K G1 xs (ld.map pdPair) → GoodM n ld → D.rt (.ref l) H1) :
    (tRet (tLc (iList K (tCall (spOrder K) [] E0 (tCons (tVar 0) (tCons (tCB vSortedDI (tCons (tVar 2) tNil)) tNil)))) (gName 9) tYes (tTup (tCons (tVar 9) (tCons (tDGet (tVar 2) (tVar 9)) tNil))) [9])) D [some (.ref a), y1, some (.ref dd), x3, x4, x5, x6, x7, x8, x9] H := by
  have e1 := e.frz nd gd hd
  have d1 := d.frz gd hd ne
  have lm := gm.len
  walk_at "go"
  refine ⟨dd, dct m, m.map (·.1), rfl, .inl hd, dct_keys m, by rw [List.length_map]; omega, fun ys p pm pw np => ?_⟩
  walk_at "go"
  have e2 := e1.new (o := .lst (ys.map V.int)) np
  have d2 := d1.new (o := .lst (ys.map V.int)) np
  refine ⟨c, a, p, ns, ys, _, rfl, d2, SqL.of upd_same, by rw [pm.length_eq, List.length_map]; omega, fun l zs G3 H3 e3 d3 nl pm2 gl => ?_⟩
  have pz : zs.Perm (m.map (·.1)) := pm2.trans pm
  have hdd : G3 dd = some (.dK (dct m)) := e3.g _ _ (by rw [upd_ne (ne_of_none hd np)]; exact upd_same)
  have lz : zs.length ≤ 10 := by rw [pz.length_eq, List.length_map]; omega
  have at_key : ∀ z, z ∈ zs → ∃ v, lk m z = some v := fun z hz => by
    cases h : lk m z with
    | none => exact absurd (pz.mem_iff.mp hz) (lk_none.mp h)
    | some v => exact ⟨v, rfl⟩
  have nlH : H0 l = none := (e2.d l nl)
  refine ⟨_, rfl, ⟨_, d3.s.seq (SqL.of gl)⟩, ?_⟩
  refine lcL (M := []) d3.s (fun _ h => nomatch h) (SqL.of gl) (by rw [List.length_map]; omega) (fun i acc G4 H4 => DpAll K G4 acc ((zs.take i).map fun z => pdPair (z, (lk m z).getD 0))) (fun _ _ _ _ _ _ h => h) .nil
    (fun i x acc G4 H4 Ry Rn hi ex e4 iv hy hn => ?_) (fun l2 acc G4 H4 e4 n2 g2 h2 hl iv => ?_)
  · rw [List.getElem?_map] at ex
    have hi' : i < zs.length := by rwa [List.length_map] at hi
    rw [List.getElem?_eq_getElem hi'] at ex
    cases ex
    obtain ⟨v, hv⟩ := at_key zs[i] (List.getElem_mem hi')
    walk_at "go"
    refine ⟨rfl, ?_⟩
    walk_at "go"
    refine ⟨dd, .int v, rfl, k_dgetAt (e4.s _ _ (e4.g _ _ hdd)) hv, ?_⟩
    walk_at "go"
    refine ⟨sz1 (by simp), fun t nt => ?_⟩
    refine hy _ _ _ ((Ext.refl e4.s).new nt) ?_
    rw [List.take_add_one, List.getElem?_eq_getElem hi']
    show DpAll K _ (acc ++ [.ref t]) ((zs.take i ++ [zs[i]]).map _)
    rw [List.map_append]
    refine dpAll_app (dpAll_mono (same_new (e4.s.free nt)) _ _ iv) (dpAll_one ?_)
    show Dp K _ (.ref t) (.tuple [.int zs[i], .int ((lk m zs[i]).getD 0)])
    rw [hv]
    exact .tup (SqT.of upd_same) (.cons (.int _) (.cons (.int _) .nil))
  · rw [List.length_map, List.take_length] at iv
    have e5 : Ext [a] G0 H0 G4 H4 := (e2.trans e3).trans e4.to
    have n5 : H0 l2 = none := (e2.trans e3).d l2 n2
    refine q l2 acc (zs.map fun z => (z, (lk m z).getD 0)) _ H4 (e5.frz n5 g2 h2) ((d3.pure e4 (by simp)).frz g2 h2 (d3.ne n2)) n5 upd_same ?_ ⟨fun p hp => ?_, ?_⟩
    · rw [List.map_map]
      exact dpAll_mono (same_new g2) _ _ iv
    · obtain ⟨z, hz, rfl⟩ := List.mem_map.mp hp
      obtain ⟨v, hv⟩ := at_key z hz
      have := gm.rg _ (lk_mem hv)
      rw [hv]
      exact this
    · rw [List.map_map]
      have ez : zs.map ((fun x : Int × Int => x.1) ∘ fun z => (z, (lk m z).getD 0)) = zs := by
        rw [show ((fun x : Int × Int => x.1) ∘ fun z => (z, (lk m z).getD 0)) = id from rfl, List.map_id]
      rw [ez]
      exact pz.nodup_iff.mpr gm.nd
theorem rgV_ints (n : Int) : rgV 0 n = (rangeI n.toNat).map V.int := by
  unfold rgV rangeI
  rw [List.map_map, Int.sub_zero]
  apply List.map_congr_left
  intro i _
  show V.int (0 + (i : Int)) = V.int (i : Int)
  rw [Int.zero_add]
def InR (n : Int) (zs : List Int) : Prop := ∀ z, z ∈ zs → 0 ≤ z ∧ z < n
theorem atI_before {zs : List Int} {k : Nat} (hk : k < zs.length) : ∃ z, z ∈ zs ∧ atI (zs.map V.int) ((k : Int) - 1) = some (.int z) := by
  cases k with
  | zero =>
    have hne : zs ≠ [] := fun z => by rw [z] at hk; exact absurd hk (Nat.not_lt_zero _)
    refine ⟨zs.getLast hne, List.getLast_mem hne, ?_⟩
    have e : zs.map V.int = zs.dropLast.map V.int ++ [.int (zs.getLast hne)] := by
      rw [← List.map_singleton, ← List.map_append, List.dropLast_concat_getLast]
    rw [e]
    exact atI_last _ _
  | succ j =>
    have hj : j < zs.length := Nat.lt_of_succ_lt hk
    refine ⟨zs[j], List.getElem_mem hj, at_of (j := j) (by omega) ?_⟩
    rw [List.getElem?_map, List.getElem?_eq_getElem hj]; rfl
theorem atI_here {zs : List Int} {k : Nat} (hk : k < zs.length) : atI (zs.map V.int) (0 + (k : Int)) = some (.int zs[k]) :=
  at_of (j := k) (by omega) (by rw [List.getElem?_map, List.getElem?_eq_getElem hk]; rfl)
theorem atI_here' {zs : List Int} {k : Nat} (hk : k < zs.length) : atI (zs.map V.int) (k : Int) = some (.int zs[k]) :=
  at_of (j := k) rfl (by rw [List.getElem?_map, List.getElem?_eq_getElem hk]; rfl)
theorem k_dputAt {d : Addr} {m : Lead} {k v : Int} {H : Hp} (h : H d = some (.dK (dct m))) (hl : m.length ≤ 1000) : DPut H d (.int k) (.int v) (upd H d (.dK (dct (putI m k v)))) := by
  have q := DPut.k (k := Sum.inl k) (v := .int v) h (by rw [dct_len]; exact sz2 (by omega))
  rw [dct_put] at q
  exact q
/-- the rings put in -/
theorem lead_fill {c a dd p2 : Addr} {ns : List Int} {G H : Hp} {n : Int} {m : Lead} {ys : List Int} {D : Ends} {x3 x4 x6 x7 x8 x9 : Option V} (d : Dr K c a ns G H) (hd : H dd = some (.dK (dct m))) (gd : G dd = none) (ne : dd ≠ a) (gm : GoodM n m) (n10 : n ≤ 10)
    (g2 : G p2 = some (.lst (ys.map V.int))) (hy : InR n ys) (ly : ys.length ≤ 10)
    (q : ∀ (m1 : Lead) (y6 y7 y8 : Option V) (G1 H1 : Hp), Ext [dd, a] G H G1 H1 → Dr K c a ns G1 H1 → H1 dd = some (.dK (dct m1)) → GoodM n m1 → D.nx [some (.ref a), some (.int n), some (.ref dd), x3, x4, some (.ref p2), y6, y7, y8, x9] H1) :
    (tSeq (tAsg (tCall (spDrawn K) [] E0 (tCons (tVar 0) (tCons (tOp vAdd (tCB (vLen K) (tCons (tVar 5) tNil)) (tC (.int 1))) tNil))) (gName 6))
    (tFor (iList K (tLst (tCons (tSl (rSlL K) (tVar 5) tNoPart (tPart (tVar 6))) (tCons (tSl (rSlL K) (tVar 5) (tPart (tVar 6)) tNoPart) tNil)))) (gName 7) (tFor (iRng1 (tCons (tCB (vLen K) (tCons (tVar 7) tNil)) tNil)) (gName 8) (sDPut (tVar 2) (tOp (rIxL K) (tVar 7) (tVar 8)) (tOp (rIxL K) (tVar 7) (tOp vSub (tVar 8) (tC (.int 1)))))))) D [some (.ref a), some (.int n), some (.ref dd), x3, x4, some (.ref p2), x6, x7, x8, x9] H := by
  walk_at "go"
  refine k_len (.inl (d.s.seq (SqL.of g2))) ?_
  walk_at "go"
  have hl : ((ys.map V.int).length : Int) + 1 = ys.length + 1 := by simp
  rw [hl]
  refine d.draw (M := [dd, a]) (by simp) (by omega) (by omega) fun cut H1 c0 c1 e1 d1 k1 => ?_
  have hd1 : H1 dd = some (.dK (dct m)) := by rw [k1 dd ne]; exact hd
  walk_at "go"
  refine ⟨p2, _, rfl, d1.s.seq (SqL.of g2), fun q1 n1 => ?_⟩
  obtain ⟨z1, ez1, s1⟩ := cut_ints ys none (some cut)
  rw [ez1]
  have d2 := d1.new (o := .lst (z1.map V.int)) n1
  have e2 := e1.new (o := .lst (z1.map V.int)) n1
  have g22 : (upd G q1 (.lst (z1.map V.int))) p2 = some (.lst (ys.map V.int)) := by rw [upd_ne (ne_of_none (d1.s _ _ g2) n1)]; exact g2
  walk_at "go"
  refine ⟨p2, _, rfl, d2.s.seq (SqL.of g22), fun q2 n2 => ?_⟩
  obtain ⟨z2, ez2, s2⟩ := cut_ints ys (some cut) none
  rw [ez2]
  have d3 := d2.new (o := .lst (z2.map V.int)) n2
  have e3 := e2.new (o := .lst (z2.map V.int)) n2
  walk_at "go"
  refine ⟨sz1 (by simp), fun q3 n3 => ?_⟩
  have d4 := d3.new (o := .lst [.ref q1, .ref q2]) n3
  have e4 := e3.new (o := .lst [.ref q1, .ref q2]) n3
  have d12 : q1 ≠ q2 := fun z => by rw [← z, upd_same] at n2; cases n2
  have d13 : q1 ≠ q3 := fun z => by rw [← z, upd_ne d12, upd_same] at n3; cases n3
  have d23 : q2 ≠ q3 := fun z => by rw [← z, upd_same] at n3; cases n3
  have a1 : (upd (upd (upd G q1 (.lst (z1.map V.int))) q2 (.lst (z2.map V.int))) q3 (.lst [.ref q1, .ref q2])) q1 = some (.lst (z1.map V.int)) := by rw [upd_ne d13, upd_ne d12, upd_same]
  have a2 : (upd (upd (upd G q1 (.lst (z1.map V.int))) q2 (.lst (z2.map V.int))) q3 (.lst [.ref q1, .ref q2])) q2 = some (.lst (z2.map V.int)) := by rw [upd_ne d23, upd_same]
  have nn1 : dd ≠ q1 := ne_of_none hd1 n1
  have nn2 : dd ≠ q2 := fun z => by rw [← z, upd_ne nn1, hd1] at n2; cases n2
  have nn3 : dd ≠ q3 := fun z => by rw [← z, upd_ne nn2, upd_ne nn1, hd1] at n3; cases n3
  have hd4 : (upd (upd (upd H1 q1 (.lst (z1.map V.int))) q2 (.lst (z2.map V.int))) q3 (.lst [.ref q1, .ref q2])) dd = some (.dK (dct m)) := by rw [upd_ne nn3, upd_ne nn2, upd_ne nn1]; exact hd1
  have gd4 : (upd (upd (upd G q1 (.lst (z1.map V.int))) q2 (.lst (z2.map V.int))) q3 (.lst [.ref q1, .ref q2])) dd = none := by rw [upd_ne nn3, upd_ne nn2, upd_ne nn1]; exact gd
  have g43 : (upd (upd (upd G q1 (.lst (z1.map V.int))) q2 (.lst (z2.map V.int))) q3 (.lst [.ref q1, .ref q2])) q3 = some (.lst [.ref q1, .ref q2]) := upd_same
  generalize (upd (upd (upd G q1 (.lst (z1.map V.int))) q2 (.lst (z2.map V.int))) q3 (.lst [.ref q1, .ref q2])) = G4 at *
  generalize (upd (upd (upd H1 q1 (.lst (z1.map V.int))) q2 (.lst (z2.map V.int))) q3 (.lst [.ref q1, .ref q2])) = H4 at *
  have gm1 : GoodM n m := gm
  refine ⟨_, rfl, ⟨_, d4.s.seq (SqL.of (show G4 q3 = some (.lst [.ref q1, .ref q2]) from g43))⟩, ?_⟩
  refine forL (M := [dd, a]) d4.s (SqL.of g43) (fun i σ1 G5 H5 => ∃ (m1 : Lead) (x7 x8 : Option V), σ1 = [some (.ref a), some (.int n), some (.ref dd), x3, x4, some (.ref p2), some (.int cut), x7, x8, x9] ∧ H5 dd = some (.dK (dct m1)) ∧ GoodM n m1 ∧ Dr K c a ns G5 H5 ∧ G5 dd = none)
    ⟨m, x7, x8, rfl, hd4, gm, d4, gd4⟩ (fun i x σ1 G5 H5 hi ex e5 ⟨m1, y7, y8, es, h5, gm5, d5, gd5⟩ => ?_) (fun σ1 G5 H5 e5 ⟨m1, y7, y8, es, h5, gm5, d5, gd5⟩ => ?_)
  · subst es
    have hx : ∃ (r : Addr) (zs : List Int), x = .ref r ∧ G4 r = some (.lst (zs.map V.int)) ∧ zs.Sublist ys := by
      cases i with
      | zero => cases ex; exact ⟨q1, z1, rfl, a1, s1⟩
      | succ i => cases i with
        | zero => cases ex; exact ⟨q2, z2, rfl, a2, s2⟩
        | succ i => exact absurd hi (by show ¬ i + 1 + 1 < 2; omega)
    obtain ⟨r, zs, rfl, gr, sz⟩ := hx
    have gr5 : G5 r = some (.lst (zs.map V.int)) := e5.g _ _ gr
    have lz : zs.length ≤ 10 := Nat.le_trans sz.length_le ly
    have rz : InR n zs := fun z hz => hy z (sz.subset hz)
    walk_at "go"
    refine k_len (.inl (d5.s.seq (SqL.of gr5))) ?_
    walk_at "go"
    rw [List.length_map]
    refine ⟨_, rfl, by omega, by omega, ?_⟩
    refine forR (M := [dd, a]) d5.s (fun k σ1 G6 H6 => ∃ (m2 : Lead) (x8 : Option V), σ1 = [some (.ref a), some (.int n), some (.ref dd), x3, x4, some (.ref p2), some (.int cut), some (.ref r), x8, x9] ∧ H6 dd = some (.dK (dct m2)) ∧ GoodM n m2 ∧ Dr K c a ns G6 H6 ∧ G6 dd = none)
      ⟨m1, y8, rfl, h5, gm5, d5, gd5⟩ (fun k σ1 G6 H6 hk e6 ⟨m2, y8, es, h6, gm6, d6, gd6⟩ => ?_) (fun σ1 G6 H6 e6 ⟨m2, y8, es, h6, gm6, d6, gd6⟩ => ?_)
    · subst es
      have hk' : k < zs.length := by omega
      obtain ⟨z, hz, az⟩ := atI_before hk'
      have gr6 : SqL K H6 r (zs.map V.int) := d6.s.seq (e6.sqL (SqL.of gr5))
      have lm := gm6.len
      walk_at "go"
      refine k_ixL gr6 (v := .int z) (by rw [show (0 : Int) + (k : Int) - 1 = (k : Int) - 1 by omega]; exact az) ?_
      walk_at "go"
      refine k_ixL gr6 (atI_here hk') ?_
      have r1 := rz _ (List.getElem_mem hk')
      have r2 := rz z hz
      refine ⟨dd, _, rfl, k_dputAt h6 (by omega), ?_⟩
      exact ⟨G6, (Ext.refl d6.s).mutM (by simp) gd6, _, _, rfl, upd_same, gm6.put r1.1 r1.2 r2.1 r2.2, d6.mut gd6 ne, gd6⟩
    · subst es
      exact ⟨G6, e6, m2, _, _, rfl, h6, gm6, d6, gd6⟩
  · subst es
    exact q m1 _ _ _ G5 H5 (e4.trans e5) d5 h5 gm5
theorem pure_lead (vs : List V) (H : Hp) (Q : VK) (E : XK) (h : spLead K vs H Q E) : t__law_lead K w (spDrawn K) (spOrder K) { nx := fun _ H1 => Q .non H1, rt := Q }
    (start ["_law_state", "_law_boxes_here", "_law_known_here", "_law_often", "_law_box", "_law_around", "_law_cut", "_law_ring", "_law_k", "_law_goal"] vs) H := by
  obtain ⟨c, a, ns, G, n, rfl, d, n1, n10, q⟩ := h
  unfold t__law_lead
  walk_at "go"
  intro dd nd
  have ne := d.ne nd
  have gd : G dd = none := d.s.free nd
  have d0 := d.tmp (o := .dK []) nd
  walk_at "go"
  refine d0.draw (M := [a]) (by simp) (by decide) (by decide) fun oft H1 o0 o1 e1 d1 k1 => ?_
  have e1' : Ext [a] G H G H1 := ((Ext.refl d.s).tmp nd).trans e1
  have hd1 : H1 dd = some (.dK (dct [])) := by rw [k1 dd ne]; exact upd_same
  walk_at "go"
  refine ⟨_, rfl, by omega, by omega, ?_⟩
  refine forR (M := [dd, a]) d1.s (fun k σ1 G2 H2 => G2 = G ∧ ∃ (m : Lead) (x4 : Option V), σ1 = [some (.ref a), some (.int n), some (.ref dd), some (.int (1 + oft)), x4, none, none, none, none, none] ∧ H2 dd = some (.dK (dct m)) ∧ GoodM n m ∧ Dr K c a ns G2 H2)
    ⟨rfl, [], none, rfl, hd1, GoodM.nil n, d1⟩ (fun k σ1 G2 H2 hk e2 ⟨eG, m, x4, es, h2, gm, d2⟩ => ?_) (fun σ1 G2 H2 e2 ⟨eG, m, x4, es, h2, gm, d2⟩ => ?_)
  · subst eG es
    have lm := gm.len
    walk_at "go"
    refine d2.draw (M := [dd, a]) (by simp) (by omega) (by omega) fun x H3 x0 x1 e3 d3 k3 => ?_
    have h3 : H3 dd = some (.dK (dct m)) := by rw [k3 dd ne]; exact h2
    walk_at "go"
    refine k_both (fun hx => ?_) (fun hx => ?_)
    · walk_at "go"
      refine d3.draw (M := [dd, a]) (by simp) (by omega) (by omega) fun y H4 y0 y1 e4 d4 k4 => ?_
      have h4 : H4 dd = some (.dK (dct m)) := by rw [k4 dd ne]; exact h3
      walk_at "go"
      refine ⟨dd, _, rfl, k_dputAt h4 (by omega), ?_⟩
      exact ⟨G2, (e3.trans e4).mutM (by simp) gd, rfl, _, _, rfl, upd_same, gm.put (by omega) (by omega) y0 y1, d4.mut gd ne⟩
    · walk_at "go"
      exact ⟨G2, e3, rfl, m, _, rfl, h3, gm, d3⟩
  · subst eG es
    have e2' : Ext [a] G2 H G2 H2 := e1'.fin e2 (by simp [nd])
    walk_at "go"
    refine d2.draw (M := [a]) (by simp) (by decide) (by decide) fun x H3 x0 x1 e3 d3 k3 => ?_
    have h3 : H3 dd = some (.dK (dct m)) := by rw [k3 dd ne]; exact h2
    have e3' := e2'.trans e3
    walk_at "go"
    refine k_both (fun hx => ?_) (fun hx => ?_)
    · walk_at "go"
      refine ⟨RgOk.of_le (by decide) (by omega) (by decide) (by omega), fun pr npr => ?_⟩
      rw [rgV_ints]
      walk_at "go"
      have d4 := d3.new (o := .lst ((rangeI n.toNat).map V.int)) npr
      have e4 := e3'.new (o := .lst ((rangeI n.toNat).map V.int)) npr
      refine ⟨c, a, pr, ns, rangeI n.toNat, _, rfl, d4, SqL.of upd_same, by rw [len_rangeI]; omega, fun l zs G5 H5 e5 d5 nl pm gl => ?_⟩
      have ndp : dd ≠ pr := ne_of_none h3 npr
      have gd4 : (upd G2 pr (.lst ((rangeI n.toNat).map V.int))) dd = none := by rw [upd_ne ndp]; exact gd
      have h4 : (upd H3 pr (.lst ((rangeI n.toNat).map V.int))) dd = some (.dK (dct m)) := by rw [upd_ne ndp]; exact h3
      have h5 : H5 dd = some (.dK (dct m)) := e5.keep h4 (by simpa using ne)
      have gd5 : G5 dd = none := e5.un gd4 h4
      have e5' := e4.trans e5
      walk_at "go"
      refine d5.draw (M := [a]) (by simp) (by omega) (by omega) fun y H6 y0 y1 e6 d6 k6 => ?_
      have h6 : H6 dd = some (.dK (dct m)) := by rw [k6 dd ne]; exact h5
      have e6' := e5'.trans e6
      walk_at "go"
      refine ⟨l, _, rfl, d6.s.seq (SqL.of gl), fun p2 np2 => ?_⟩
      obtain ⟨ys, ey, sy⟩ := cut_ints zs none (some y)
      rw [ey]
      have d7 := d6.new (o := .lst (ys.map V.int)) np2
      have e7 := e6'.new (o := .lst (ys.map V.int)) np2
      have nd2 : dd ≠ p2 := ne_of_none h6 np2
      have h7 : (upd H6 p2 (.lst (ys.map V.int))) dd = some (.dK (dct m)) := by rw [upd_ne nd2]; exact h6
      have gd7 : (upd G5 p2 (.lst (ys.map V.int))) dd = none := by rw [upd_ne nd2]; exact gd5
      have ry : InR n ys := fun z hz => by
        have := mem_rangeI.mp (pm.mem_iff.mp (sy.subset hz))
        omega
      have ly : ys.length ≤ 10 := by
        have h1 := sy.length_le
        have h2 := pm.length_eq
        rw [len_rangeI] at h2
        omega
      walk_at "go"
      refine d7.draw (M := [a]) (by simp) (by decide) (by decide) fun z H8 z0 z1 e8 d8 k8 => ?_
      have h8 : H8 dd = some (.dK (dct m)) := by rw [k8 dd ne]; exact h7
      have e8' := e7.trans e8
      have rest : ∀ (d2 : Addr) (m2 : Lead) (G9 H9 : Hp), Ext [a] G2 H G9 H9 → Dr K c a ns G9 H9 → H9 d2 = some (.dK (dct m2)) → H d2 = none → G9 d2 = none → d2 ≠ a → GoodM n m2 → G9 p2 = some (.lst (ys.map V.int)) →
          (tSeq (tAsg (tCall (spDrawn K) [] E0 (tCons (tVar 0) (tCons (tOp vAdd (tCB (vLen K) (tCons (tVar 5) tNil)) (tC (.int 1))) tNil))) (gName 6))
    (tFor (iList K (tLst (tCons (tSl (rSlL K) (tVar 5) tNoPart (tPart (tVar 6))) (tCons (tSl (rSlL K) (tVar 5) (tPart (tVar 6)) tNoPart) tNil)))) (gName 7) (tFor (iRng1 (tCons (tCB (vLen K) (tCons (tVar 7) tNil)) tNil)) (gName 8) (sDPut (tVar 2) (tOp (rIxL K) (tVar 7) (tVar 8)) (tOp (rIxL K) (tVar 7) (tOp vSub (tVar 8) (tC (.int 1)))))))) 
            { nx := (tRet (tLc (iList K (tCall (spOrder K) [] E0 (tCons (tVar 0) (tCons (tCB vSortedDI (tCons (tVar 2) tNil)) tNil)))) (gName 9) tYes (tTup (tCons (tVar 9) (tCons (tDGet (tVar 2) (tVar 9)) tNil))) [9])) { nx := fun _ H1 => Q .non H1, rt := Q }, rt := Q }
            [some (.ref a), some (.int n), some (.ref d2), some (.int (1 + oft)), x4, some (.ref p2), none, none, none, none] H9 := by
        intro d2 m2 G9 H9 e9 d9 h9 nd9 gd9 ne9 gm9 gp9
        refine lead_fill d9 h9 gd9 ne9 gm9 n10 gp9 ry ly fun m1 y6 y7 y8 G10 H10 e10 d10 h10 gm10 => ?_
        exact lead_end (e9.fin e10 (by simp [nd9])) d10 h10 nd9 (e10.un gd9 h9) ne9 gm10 n10 q
      walk_at "go"
      refine k_both (fun hz => ?_) (fun hz => ?_)
      · walk_at "go"
        intro d2 nd9
        have ne9 := d8.ne nd9
        exact rest d2 [] _ _ (e8'.tmp nd9) (d8.tmp nd9) upd_same (e8'.d _ nd9) (d8.s.free nd9) ne9 (GoodM.nil n) upd_same
      · exact rest dd m _ _ e8' d8 h8 nd gd7 ne gm upd_same
    · refine k_next ?_
      refine lead_end e3' d3 h3 nd gd ne gm n10 ?_
      exact q
end
end MV
namespace MV
open PySem PySem.Spec PyProof.Rows L2
local macro_rules | `(tactic| walk_at "go") => `(tactic| repeat (first
  | with_reducible refine MV.k_seq ?_ | with_reducible refine MV.k_asg ?_ | with_reducible refine MV.k_name ?_ | with_reducible refine MV.k_op ?_ | ((with_reducible apply MV.k_var); exact rfl) | with_reducible refine MV.k_c ?_
  | with_reducible refine MV.k_add ?_ | with_reducible refine MV.k_sub ?_ | with_reducible refine MV.k_lt ?_ | with_reducible refine MV.k_le ?_ | with_reducible refine MV.k_gt ?_ | with_reducible refine MV.k_ge ?_ | with_reducible refine MV.k_eqI ?_ | with_reducible refine MV.k_neI ?_
  | with_reducible refine MV.k_test ?_ | with_reducible refine MV.k_B ?_ | with_reducible refine MV.k_bl ?_ | with_reducible refine MV.k_blV ?_ | with_reducible refine MV.k_and ?_ | with_reducible refine MV.k_or ?_ | with_reducible refine MV.k_not ?_ | with_reducible refine MV.k_andV ?_ | with_reducible refine MV.k_orV ?_ | with_reducible refine MV.k_notV ?_
  | with_reducible refine MV.k_if ?_ | with_reducible refine MV.k_tru ?_ | with_reducible refine MV.k_chain ?_ | with_reducible refine MV.k_next ?_ | with_reducible refine MV.k_drop ?_ | with_reducible refine MV.k_ret ?_ | with_reducible refine MV.k_retN ?_ | with_reducible refine MV.k_ifS ?_ | with_reducible refine MV.k_brk ?_ | with_reducible refine MV.k_cont ?_
  | with_reducible refine MV.k_nil ?_ | with_reducible refine MV.k_cons ?_ | with_reducible refine MV.k_tup ?_ | with_reducible refine MV.k_lst ?_ | with_reducible refine MV.k_cb ?_ | with_reducible refine MV.k_call ?_ | with_reducible refine MV.k_gnil ?_ | with_reducible refine MV.k_gcons ?_ | with_reducible refine MV.k_gsub ?_
  | with_reducible refine MV.k_bm ?_ | with_reducible refine MV.k_bm0 ?_ | with_reducible refine MV.k_un ?_ | with_reducible refine MV.k_neg ?_ | with_reducible refine MV.k_isN ?_ | with_reducible refine MV.k_notN ?_ | with_reducible refine L2.iteT ?_ | with_reducible refine L2.iteF ?_
  | with_reducible refine MV.k_iList ?_ | with_reducible refine MV.k_iTup ?_ | with_reducible refine MV.k_iRng1 ?_ | with_reducible refine MV.k_lc ?_ | with_reducible refine MV.k_for ?_
  | with_reducible refine MV.k_yes ?_ | with_reducible refine MV.k_dput ?_ | with_reducible refine MV.k_dget ?_ | with_reducible refine MV.k_dget1 ?_ | with_reducible refine MV.k_sl ?_ | with_reducible refine MV.k_nopart ?_ | with_reducible refine MV.k_part ?_ | with_reducible refine MV.k_pint ?_ | with_reducible refine MV.k_dnew ?_ | with_reducible refine MV.k_lstRg ?_ | with_reducible refine MV.k_rg1 ?_))
def t__law_same (K : PySem.W.Frag) (w : World) (s__law_same : Sp) : TS :=
  (tSeq (tIfS (tB (tCB (rIsiT K) (tCons (tVar 1) (tCons (tTup (tCons (tC (.ty "tuple")) (tCons (tC (.ty "list")) tNil))) tNil)))) (tSeq (tIfS (tOr (tNot (tB (tCB (rIsiT K) (tCons (tVar 0) (tCons (tTup (tCons (tC (.ty "tuple")) (tCons (tC (.ty "list")) tNil))) tNil))))) (tTest (tOp rNe (tCB (rIsi K) (tCons (tVar 0) (tCons (tC (.ty "list")) tNil))) (tCB (rIsi K) (tCons (tVar 1) (tCons (tC (.ty "list")) tNil)))))) (tRet (tC (.bl false))) tNext)
    (tSeq (tIfS (tTest (tOp rNe (tCB (vLen K) (tCons (tVar 0) tNil)) (tCB (vLen K) (tCons (tVar 1) tNil)))) (tRet (tC (.bl false))) tNext)
    (tRet (tOp (rEqD K) (tLc (iRng1 (tCons (tCB (vLen K) (tCons (tVar 1) tNil)) tNil)) (gName 2) (tNot (tB (tCall s__law_same [] E0 (tCons (tOp (rIx K) (tVar 0) (tVar 2)) (tCons (tOp (rIx K) (tVar 1) (tVar 2)) tNil))))) (tVar 2) [2]) (tLst tNil))))) tNext)
    (tSeq (tIfS (tTest (tOp vIsN (tVar 1) (tC .non))) (tRet (tOp vIsN (tVar 0) (tC .non))) tNext)
    (tSeq (tIfS (tB (tCB (rIsi K) (tCons (tVar 1) (tCons (tC (.ty "str")) tNil)))) (tRet (tAndV (tCB (rIsi K) (tCons (tVar 0) (tCons (tC (.ty "str")) tNil))) (tOp rEq (tVar 0) (tVar 1)))) tNext)
    (tSeq (tIfS (tOr (tB (tCB (rIsi K) (tCons (tVar 1) (tCons (tC (.ty "bool")) tNil)))) (tB (tCB (rIsi K) (tCons (tVar 0) (tCons (tC (.ty "bool")) tNil))))) (tRet (tAndV (tCB (rIsi K) (tCons (tVar 1) (tCons (tC (.ty "bool")) tNil))) (tAndV (tCB (rIsi K) (tCons (tVar 0) (tCons (tC (.ty "bool")) tNil))) (tOp rEq (tVar 0) (tVar 1))))) tNext)
    (tRet (tAndV (tCB (rIsi K) (tCons (tVar 0) (tCons (tC (.ty "int")) tNil))) (tOp rEq (tVar 0) (tVar 1))))))))
mutual
def small : PyData → Bool
  | .list ds => decide (ds.length ≤ 1000) && smallAll ds
  | .tuple ds => decide (ds.length ≤ 1000) && smallAll ds
  | _ => true
def smallAll : List PyData → Bool
  | [] => true
  | d :: r => small d && smallAll r
end
theorem smallAll_get : ∀ {ds : List PyData}, smallAll ds = true → ∀ {i : Nat} {d : PyData}, ds[i]? = some d → small d = true
  | [], _, i, d, e => by simp at e
  | a :: r, h, i, d, e => by
    have h' : small a = true ∧ smallAll r = true := Bool.and_eq_true_iff.mp h
    cases i with
    | zero => simp at e; rw [← e]; exact h'.1
    | succ j => simp at e; exact smallAll_get h'.2 e
theorem smallAll_of {ds : List PyData} (h : ∀ d, d ∈ ds → small d = true) : smallAll ds = true := by
  induction ds with
  | nil => rfl
  | cons a r ih => exact Bool.and_eq_true_iff.mpr ⟨h a (List.mem_cons_self ..), ih fun d hd => h d (List.mem_cons_of_mem _ hd)⟩
theorem depthAll_get : ∀ {ds : List PyData} {i : Nat} {d : PyData}, ds[i]? = some d → d.depth ≤ PyData.depthAll ds
  | [], i, d, e => by simp at e
  | a :: r, i, d, e => by
    show d.depth ≤ max a.depth (PyData.depthAll r)
    cases i with
    | zero => simp at e; rw [← e]; exact Nat.le_max_left _ _
    | succ j => simp at e; exact Nat.le_trans (depthAll_get e) (Nat.le_max_right _ _)
theorem depthAll_le {ds : List PyData} {n : Nat} (h : ∀ d, d ∈ ds → d.depth ≤ n) : PyData.depthAll ds ≤ n := by
  induction ds with
  | nil => exact Nat.zero_le _
  | cons a r ih => exact Nat.max_le.mpr ⟨h a (List.mem_cons_self ..), ih fun d hd => h d (List.mem_cons_of_mem _ hd)⟩
def tn : PyData → String
  | .none => "NoneType" | .bool _ => "bool" | .int _ => "int" | .str _ => "str" | .list _ => "list" | .tuple _ => "tuple" | .dict _ => "dict"
section
variable {K : PySem.W.Frag} {w : World} {H : Hp}
theorem dp_ty : ∀ {d : PyData} {v : V}, Dp K H v d → TyX K H v (.type (tn d)) := by
  intro d v h
  cases h with
  | non => exact .base .non
  | bl b => exact .base (.bl b)
  | int i => exact .base (.int i)
  | str x => exact .base (.str x)
  | lst hs _ =>
    rcases hs with (h | ⟨o, h⟩) | ⟨o, its, n, h, c, _⟩
    · exact .base (.lst h)
    · exact .base (.frz h)
    · exact .kList h c
  | tup hs _ =>
    rcases hs with (h | ⟨o, h⟩) | ⟨o, its, n, h, c, _⟩
    · exact .base (.tup h)
    · exact .fTuple h
    · exact .kTuple h c
/-- isinstance's answers -/
def isK (n : String) : PyData → Bool
  | .list _ => n == "list"
  | .tuple _ => n == "tuple"
  | .str _ => n == "str"
  | .bool _ => n == "bool" || n == "int"
  | .int _ => n == "int"
  | _ => false
theorem kit_isK {n : String} (hn : n ∈ ["list", "tuple", "str", "bool", "int"]) {v : V} : ∀ {d : PyData}, Dp K H v d → PySem.W.kitOne K (.type (tn d)) (.type n) = some (isK n d) := by
  intro d h
  simp only [List.mem_cons, List.not_mem_nil, or_false] at hn
  have all : ∀ m, m ∈ ["NoneType", "bool", "int", "str", "list", "tuple"] → ∀ n, n ∈ ["list", "tuple", "str", "bool", "int"] → kitB m n = some (m == n || (m == "bool" && n == "int")) := by decide +kernel
  have go : ∀ m r, m ∈ ["NoneType", "bool", "int", "str", "list", "tuple"] → (m == n || (m == "bool" && n == "int")) = r → PySem.W.kitOne K (.type m) (.type n) = some r := fun m r hm e => kit_ty (by rw [all m hm n (by simpa using hn), e])
  cases h with
  | non => exact go _ _ (by simp [tn]) (by rcases hn with z | z | z | z | z <;> subst z <;> rfl)
  | bl b => exact go _ _ (by simp [tn]) (by rcases hn with z | z | z | z | z <;> subst z <;> rfl)
  | int i => exact go _ _ (by simp [tn]) (by rcases hn with z | z | z | z | z <;> subst z <;> rfl)
  | str x => exact go _ _ (by simp [tn]) (by rcases hn with z | z | z | z | z <;> subst z <;> rfl)
  | lst hs _ => exact go _ _ (by simp [tn]) (by rcases hn with z | z | z | z | z <;> subst z <;> rfl)
  | tup hs _ => exact go _ _ (by simp [tn]) (by rcases hn with z | z | z | z | z <;> subst z <;> rfl)
theorem k_isi {n : String} (hn : n ∈ ["list", "tuple", "str", "bool", "int"]) {v : V} {d : PyData} {Q : VK} (h : Dp K H v d) (q : Q (.bl (isK n d)) H) : rIsi K [v, .ty n] H Q :=
  ⟨v, .ty n, _, _, _, rfl, .ty n, dp_ty h, kit_isK hn h, q⟩
theorem k_isSeq {v : V} {d : PyData} {Q : VK} {tp : Addr} (h : Dp K H v d) (ht : H tp = some (.tup [.ty "tuple", .ty "list"])) (q : Q (.bl (isK "tuple" d || isK "list" d)) H) : rIsiT K [v, .ref tp] H Q := by
  refine ⟨v, tp, _, _, [.type "tuple", .type "list"], _, rfl, ht, .cons (.ty _) (.cons (.ty _) .nil), dp_ty h, ?_, q⟩
  refine kitAny_cons (kit_isK (by simp) h) (fun e => ?_) (fun e => by rw [e]; rfl)
  rw [e]
  exact kitAny_cons (kit_isK (by simp) h) (fun e => by rw [e]; exact kitAny_nil) (fun e => by rw [e]; rfl)
/-- what is equal at every depth is the same -/
def spSame (K : PySem.W.Frag) (n : Nat) : Sp := fun vs H Q _ => ∃ (G : Hp) (d : PyData) (x y : V), vs = [x, y] ∧ Same G H ∧ Dp K G x d ∧ Dp K G y d ∧ small d = true ∧ d.depth < n ∧ ∀ H1, Ext [] G H G H1 → Q (.bl true) H1
theorem dp_at {G1 : Hp} (s : Same G1 H) {v : V} {d : PyData} (h : Dp K G1 v d) : Dp K H v d := dp_mono s d v h
theorem same_seq {n : Nat} {G : Hp} {d : PyData} {x y : V} {D : Ends} {ds : List PyData} {xs ys : List V} (ax ay : Addr) (ex : x = .ref ax) (ey : y = .ref ay) (s : Same G H) (hx : Dp K G x d) (hy : Dp K G y d)
    (hsx : SqL K G ax xs ∨ SqT K G ax xs) (hsy : SqL K G ay ys ∨ SqT K G ay ys) (gx : DpAll K G xs ds) (gy : DpAll K G ys ds) (sm : smallAll ds = true) (len : ds.length ≤ 1000) (dep : PyData.depthAll ds < n) (hk : (isK "tuple" d || isK "list" d) = true)
    (q : ∀ H1, Ext [] G H G H1 → D.rt (.bl true) H1) : t__law_same K w (spSame K n) D (start ["_law_found", "_law_due", "_law_k"] [x, y]) H := by
  subst ex ey
  have lx : xs.length = ds.length := dpAll_len gx
  have ly : ys.length = ds.length := dpAll_len gy
  have mono : ∀ {H2 : Hp}, Same G H2 → ∀ {p : Addr} {zs : List V}, (SqL K G p zs ∨ SqT K G p zs) → (SqL K H2 p zs ∨ SqT K H2 p zs) := fun s2 _ _ h => h.imp (fun z => s2.seq z) (fun z => sqT_mono s2 z)
  unfold t__law_same
  walk_at "go"
  refine ⟨sz1 (by simp), fun t1 n1 => ?_⟩
  have s1 := s.trans (same_new (o := .tup [.ty "tuple", .ty "list"]) n1)
  have e1 := (Ext.refl (M := []) s).tmp (o := .tup [.ty "tuple", .ty "list"]) n1
  walk_at "go"
  refine k_isSeq (dp_at s1 hy) upd_same ?_
  walk_at "go"
  rw [hk]
  refine iteT ?_
  walk_at "go"
  refine ⟨sz1 (by simp), fun t2 n2 => ?_⟩
  have s2 := s1.trans (same_new (o := .tup [.ty "tuple", .ty "list"]) n2)
  have e2 := e1.tmp (o := .tup [.ty "tuple", .ty "list"]) n2
  walk_at "go"
  refine k_isSeq (dp_at s2 hx) upd_same ?_
  walk_at "go"
  rw [hk]
  refine iteF ?_
  walk_at "go"
  refine k_isi (by simp) (dp_at s2 hx) ?_
  walk_at "go"
  refine k_isi (by simp) (dp_at s2 hy) ?_
  refine k_ne rfl ?_
  walk_at "go"
  refine k_nfalse rfl ?_
  walk_at "go"
  refine k_len (mono s2 hsx) ?_
  walk_at "go"
  refine k_len (mono s2 hsy) ?_
  walk_at "go"
  refine k_nfalse (by rw [lx, ly]) ?_
  walk_at "go"
  refine k_len (mono s2 hsy) ?_
  walk_at "go"
  refine ⟨_, rfl, by omega, by omega, ?_⟩
  rw [ly]
  refine lcR (n := ((ds.length : Nat) : Int).toNat) (M := []) s2 (fun _ h => nomatch h) (by omega) (fun i acc G1 H1 => acc = [] ∧ G1 = G) (fun _ _ _ _ _ _ h => h) ⟨rfl, rfl⟩ (fun i acc G1 H1 Ry Rn hi e iv fy fn => ?_) (fun l acc G1 H1 e nl gl hl ln iv => ?_)
  · obtain ⟨rfl, rfl⟩ := iv
    have hi' : i < ds.length := by omega
    have hx1 : i < xs.length := by omega
    have hy1 : i < ys.length := by omega
    obtain ⟨d1, ed1, p1⟩ := dpAll_get gx (List.getElem?_eq_getElem hx1)
    obtain ⟨d2, ed2, p2⟩ := dpAll_get gy (List.getElem?_eq_getElem hy1)
    have e12 : d2 = d1 := by rw [ed1] at ed2; exact (Option.some.inj ed2).symm
    subst e12
    have at1 : atI xs ((0 : Int) + (i : Int)) = some xs[i] := at_of (j := i) (by omega) (List.getElem?_eq_getElem hx1)
    have at2 : atI ys ((0 : Int) + (i : Int)) = some ys[i] := at_of (j := i) (by omega) (List.getElem?_eq_getElem hy1)
    walk_at "go"
    refine ⟨rfl, ?_⟩
    walk_at "go"
    have ix : ∀ {p : Addr} {zs : List V} {v : V} {Q : VK} {H2 : Hp}, (SqL K H2 p zs ∨ SqT K H2 p zs) → atI zs ((0 : Int) + (i : Int)) = some v → Q v H2 → rIx K (.ref p) (.int (0 + (i : Int))) H2 Q := fun h a q => by
      rcases h with h | h
      · exact .inl (k_ixL h a q)
      · exact .inr (.inl (k_ixT h a q))
    refine ix (mono e.s hsx) at1 ?_
    walk_at "go"
    refine ix (mono e.s hsy) at2 ?_
    walk_at "go"
    refine ⟨G1, d2, xs[i], ys[i], rfl, e.s, p1, p2, smallAll_get sm ed1, Nat.lt_of_le_of_lt (depthAll_get ed1) dep, fun H2 e2 => ?_⟩
    walk_at "go"
    exact fn _ _ e2 ⟨rfl, rfl⟩
  · obtain ⟨rfl, rfl⟩ := iv
    walk_at "go"
    refine ⟨sz1 (by simp), fun l2 nl2 => ?_⟩
    refine k_eqNil (ns := []) (SqL.of (upd_two (ne_of_none hl nl2) hl)) (SqL.of upd_same) ?_
    exact q _ ((e2.trans e).tmp nl2)
theorem pure_same {n : Nat} (vs : List V) (Q : VK) (E : XK) (h : spSame K (n + 1) vs H Q E) : t__law_same K w (spSame K n) { nx := fun _ H1 => Q .non H1, rt := Q } (start ["_law_found", "_law_due", "_law_k"] vs) H := by
  obtain ⟨G, d, x, y, rfl, s, hx, hy, sm, dep, q⟩ := h
  have flat : isK "tuple" d = false → isK "list" d = false → ∀ z, x = z → y = z → (∃ b, scal z z = b ∧ b = true) → (d = .none ∨ (∃ b, d = .bool b) ∨ (∃ i, d = .int i) ∨ ∃ b, d = .str b) →
      t__law_same K w (spSame K n) { nx := fun _ H1 => Q .non H1, rt := Q } (start ["_law_found", "_law_due", "_law_k"] [x, y]) H := by
    intro k1 k2 z ex ey hs hd
    subst ex ey
    obtain ⟨_, sc, rfl⟩ := hs
    unfold t__law_same
    walk_at "go"
    refine ⟨sz1 (by simp), fun t1 n1 => ?_⟩
    have s1 := s.trans (same_new (o := .tup [.ty "tuple", .ty "list"]) n1)
    have e1 := (Ext.refl (M := []) s).tmp (o := .tup [.ty "tuple", .ty "list"]) n1
    walk_at "go"
    refine k_isSeq (dp_at s1 hy) upd_same ?_
    walk_at "go"
    rw [k1, k2]
    refine iteF ?_
    walk_at "go"
    rcases hd with rfl | ⟨b, rfl⟩ | ⟨i, rfl⟩ | ⟨b, rfl⟩
    · have hx2 := hx
      cases hx2
      refine k_true rfl ?_
      walk_at "go"
      exact q _ e1
    · have hx2 := hx
      cases hx2
      refine k_false (fun z => nomatch z) ?_
      walk_at "go"
      refine k_isi (by simp) (dp_at s1 hy) ?_
      walk_at "go"
      refine iteF ?_
      walk_at "go"
      refine k_isi (by simp) (dp_at s1 hy) ?_
      walk_at "go"
      refine iteT ?_
      walk_at "go"
      refine k_isi (by simp) (dp_at s1 hy) ?_
      walk_at "go"
      refine iteT ?_
      walk_at "go"
      refine k_isi (by simp) (dp_at s1 hx) ?_
      walk_at "go"
      refine iteT ?_
      walk_at "go"
      refine k_eq rfl ?_
      rw [decide_eq_true rfl]
      exact q _ e1
    · have hx2 := hx
      cases hx2
      refine k_false (fun z => nomatch z) ?_
      walk_at "go"
      refine k_isi (by simp) (dp_at s1 hy) ?_
      walk_at "go"
      refine iteF ?_
      walk_at "go"
      refine k_isi (by simp) (dp_at s1 hy) ?_
      walk_at "go"
      refine iteF ?_
      walk_at "go"
      refine k_isi (by simp) (dp_at s1 hx) ?_
      walk_at "go"
      refine iteF ?_
      walk_at "go"
      refine k_isi (by simp) (dp_at s1 hx) ?_
      walk_at "go"
      refine iteT ?_
      walk_at "go"
      rw [decide_eq_true rfl]
      exact q _ e1
    · have hx2 := hx
      cases hx2
      refine k_false (fun z => nomatch z) ?_
      walk_at "go"
      refine k_isi (by simp) (dp_at s1 hy) ?_
      walk_at "go"
      refine iteT ?_
      walk_at "go"
      refine k_isi (by simp) (dp_at s1 hx) ?_
      walk_at "go"
      refine iteT ?_
      walk_at "go"
      refine k_eq rfl ?_
      rw [decide_eq_true rfl]
      exact q _ e1
  cases d with
  | none => cases hx; cases hy; exact flat rfl rfl _ rfl rfl ⟨_, rfl, rfl⟩ (.inl rfl)
  | bool b => cases hx; cases hy; exact flat rfl rfl _ rfl rfl ⟨_, rfl, rfl⟩ (.inr (.inl ⟨b, rfl⟩))
  | int i => cases hx; cases hy; exact flat rfl rfl _ rfl rfl ⟨_, rfl, rfl⟩ (.inr (.inr (.inl ⟨i, rfl⟩)))
  | str z => cases hx; cases hy; exact flat rfl rfl _ rfl rfl ⟨_, rfl, rfl⟩ (.inr (.inr (.inr ⟨z, rfl⟩)))
  | dict _ => cases hx
  | list ds =>
    obtain ⟨ax, xs, rfl, h1, g1⟩ := dp_list hx
    obtain ⟨ay, ys, rfl, h2, g2⟩ := dp_list hy
    have sm' : decide (ds.length ≤ 1000) = true ∧ smallAll ds = true := Bool.and_eq_true_iff.mp sm
    exact same_seq ax ay rfl rfl s hx hy (.inl h1) (.inl h2) g1 g2 sm'.2 (of_decide_eq_true sm'.1) (by have : PyData.depthAll ds + 1 < n + 1 := dep; omega) rfl q
  | tuple ds =>
    obtain ⟨ax, xs, rfl, h1, g1⟩ := dp_tuple hx
    obtain ⟨ay, ys, rfl, h2, g2⟩ := dp_tuple hy
    have sm' : decide (ds.length ≤ 1000) = true ∧ smallAll ds = true := Bool.and_eq_true_iff.mp sm
    exact same_seq ax ay rfl rfl s hx hy (.inr h1) (.inr h2) g1 g2 sm'.2 (of_decide_eq_true sm'.1) (by have : PyData.depthAll ds + 1 < n + 1 := dep; omega) rfl q
end
end MV
namespace MV
open PySem PySem.Spec PyProof.Rows L2
local macro_rules | `(tactic| walk_at "go") => `(tactic| repeat (first
  | with_reducible refine MV.k_seq ?_ | with_reducible refine MV.k_asg ?_ | with_reducible refine MV.k_name ?_ | with_reducible refine MV.k_op ?_ | ((with_reducible apply MV.k_var); exact rfl) | with_reducible refine MV.k_c ?_
  | with_reducible refine MV.k_add ?_ | with_reducible refine MV.k_sub ?_ | with_reducible refine MV.k_lt ?_ | with_reducible refine MV.k_le ?_ | with_reducible refine MV.k_gt ?_ | with_reducible refine MV.k_ge ?_ | with_reducible refine MV.k_eqI ?_ | with_reducible refine MV.k_neI ?_
  | with_reducible refine MV.k_test ?_ | with_reducible refine MV.k_B ?_ | with_reducible refine MV.k_bl ?_ | with_reducible refine MV.k_blV ?_ | with_reducible refine MV.k_and ?_ | with_reducible refine MV.k_or ?_ | with_reducible refine MV.k_not ?_ | with_reducible refine MV.k_andV ?_ | with_reducible refine MV.k_orV ?_ | with_reducible refine MV.k_notV ?_
  | with_reducible refine MV.k_if ?_ | with_reducible refine MV.k_tru ?_ | with_reducible refine MV.k_chain ?_ | with_reducible refine MV.k_next ?_ | with_reducible refine MV.k_drop ?_ | with_reducible refine MV.k_ret ?_ | with_reducible refine MV.k_retN ?_ | with_reducible refine MV.k_ifS ?_ | with_reducible refine MV.k_brk ?_ | with_reducible refine MV.k_cont ?_
  | with_reducible refine MV.k_nil ?_ | with_reducible refine MV.k_cons ?_ | with_reducible refine MV.k_tup ?_ | with_reducible refine MV.k_lst ?_ | with_reducible refine MV.k_cb ?_ | with_reducible refine MV.k_call ?_ | with_reducible refine MV.k_gnil ?_ | with_reducible refine MV.k_gcons ?_ | with_reducible refine MV.k_gsub ?_
  | with_reducible refine MV.k_bm ?_ | with_reducible refine MV.k_bm0 ?_ | with_reducible refine MV.k_un ?_ | with_reducible refine MV.k_neg ?_ | with_reducible refine MV.k_isN ?_ | with_reducible refine MV.k_notN ?_ | with_reducible refine L2.iteT ?_ | with_reducible refine L2.iteF ?_
  | with_reducible refine MV.k_iList ?_ | with_reducible refine MV.k_iTup ?_ | with_reducible refine MV.k_iRng1 ?_ | with_reducible refine MV.k_lc ?_ | with_reducible refine MV.k_for ?_
  | with_reducible refine MV.k_yes ?_ | with_reducible refine MV.k_dput ?_ | with_reducible refine MV.k_dget ?_ | with_reducible refine MV.k_dget1 ?_ | with_reducible refine MV.k_sl ?_ | with_reducible refine MV.k_nopart ?_ | with_reducible refine MV.k_part ?_ | with_reducible refine MV.k_pint ?_ | with_reducible refine MV.k_dnew ?_ | with_reducible refine MV.k_lstRg ?_ | with_reducible refine MV.k_rg1 ?_))
def t_is_count (K : PySem.W.Frag) (w : World) : TS :=
  (tRet (tChain vLe vLe (tC (.int 1)) (tVar 0) (tC (.int 10))))
def t_check_boxes (K : PySem.W.Frag) (w : World) (s_is_count : Sp) : TS :=
  (tIfS (tNot (tB (tCall s_is_count [] E0 (tCons (tVar 0) tNil)))) tNever tNext)
def t_is_box (K : PySem.W.Frag) (w : World) : TS :=
  (tRet (tChain vLe vLt (tC (.int 0)) (tVar 1) (tVar 0)))
def t_check_lead (K : PySem.W.Frag) (w : World) (s_check_boxes : Sp) (s_is_box : Sp) : TS :=
  (tSeq (tDrop (tCall s_check_boxes [] E0 (tCons (tVar 0) tNil)))
    (tSeq (tAsg (tCB (rSet0 w) tNil) (gName 2))
    (tFor (iList K (tVar 1)) (gName 3) (tSeq (tIfS (tTest (tOp rNe (tCB (vLen K) (tCons (tVar 3) tNil)) (tC (.int 2)))) tNever tNext)
    (tSeq (tAsg (tVar 3) (gTup K 2 (gCons (gName 4) (gCons (gName 5) gNil))))
    (tSeq (tIfS (tOr (tNot (tB (tCall s_is_box [] E0 (tCons (tVar 0) (tCons (tVar 4) tNil))))) (tNot (tB (tCall s_is_box [] E0 (tCons (tVar 0) (tCons (tVar 5) tNil)))))) tNever tNext)
    (tSeq (tIfS (tTest (tOp (rSIn w) (tVar 4) (tVar 2))) tNever tNext)
    (tDrop (tSAdd w (tVar 2) (tCons (tVar 4) tNil))))))))))
def t_real_pairs (K : PySem.W.Frag) (w : World) : TS :=
  (tRet (tLc (iList K (tVar 0)) (gTup K 2 (gCons (gName 1) (gCons (gName 2) gNil))) (tTest (tOp rNe (tVar 1) (tVar 2))) (tTup (tCons (tVar 1) (tCons (tVar 2) tNil))) [1, 2]))
section
variable {K : PySem.W.Frag} {w : World} {H : Hp}
theorem pair_of {G : Hp} {v : V} {p : Int × Int} (h : Dp K G v (pdPair p)) : ∃ t, v = .ref t ∧ SqT K G t [.int p.1, .int p.2] := by
  obtain ⟨t, zs, rfl, hs, ha⟩ := dp_tuple h
  refine ⟨t, rfl, ?_⟩
  have e := dpAll_of_ints (ns := [p.1, p.2]) ha
  rw [e] at hs
  exact hs
theorem pair_at {G : Hp} {xs : List V} {ld : Lead} (h : DpAll K G xs (ld.map pdPair)) {i : Nat} {x : V} (e : xs[i]? = some x) : ∃ t p, ld[i]? = some p ∧ x = .ref t ∧ SqT K G t [.int p.1, .int p.2] := by
  obtain ⟨d, ed, q⟩ := dpAll_get h e
  rw [List.getElem?_map] at ed
  cases e2 : ld[i]? with
  | none => rw [e2] at ed; cases ed
  | some p =>
    rw [e2] at ed
    cases ed
    obtain ⟨t, rfl, hs⟩ := pair_of q
    exact ⟨t, p, rfl, rfl, hs⟩
/-- a lead as a list of pairs at l -/
structure LeadAt (K : PySem.W.Frag) (G : Hp) (l : Addr) (ld : Lead) : Prop where
  ex : ∃ xs, SqL K G l xs ∧ DpAll K G xs (ld.map pdPair)
theorem LeadAt.mono {G G1 : Hp} {l : Addr} {ld : Lead} (h : LeadAt K G l ld) (s : Same G G1) : LeadAt K G1 l ld := by
  obtain ⟨xs, a, b⟩ := h.ex
  exact ⟨xs, s.seq a, dpAll_mono s _ _ b⟩
def spIsCount : Sp := fun vs H Q _ => ∃ n : Int, vs = [.int n] ∧ Q (.bl (decide (1 ≤ n ∧ n ≤ 10))) H
theorem pure_is_count (vs : List V) (Q : VK) (E : XK) (h : spIsCount vs H Q E) : t_is_count K w { nx := fun _ H1 => Q .non H1, rt := Q } (start ["boxes"] vs) H := by
  obtain ⟨n, rfl, q⟩ := h
  unfold t_is_count
  walk_at "go"
  refine k_both (fun h => ?_) (fun h => ?_)
  · walk_at "go"
    have e : decide (1 ≤ n ∧ n ≤ 10) = decide (n ≤ 10) := by
      by_cases z : n ≤ 10
      · rw [decide_eq_true z, decide_eq_true ⟨h, z⟩]
      · rw [decide_eq_false z, decide_eq_false fun y => z y.2]
    rw [← e]; exact q
  · have e : decide (1 ≤ n ∧ n ≤ 10) = false := decide_eq_false fun y => h y.1
    rw [← e]; exact q
def spCheckBoxes : Sp := fun vs H Q _ => ∃ n : Int, vs = [.int n] ∧ 1 ≤ n ∧ n ≤ 10 ∧ Q .non H
theorem pure_check_boxes (vs : List V) (Q : VK) (E : XK) (h : spCheckBoxes vs H Q E) : t_check_boxes K w spIsCount { nx := fun _ H1 => Q .non H1, rt := Q } (start ["boxes"] vs) H := by
  obtain ⟨n, rfl, n1, n10, q⟩ := h
  unfold t_check_boxes
  walk_at "go"
  refine ⟨n, rfl, ?_⟩
  walk_at "go"
  refine k_nfalse ⟨n1, n10⟩ ?_
  exact q
def spIsBox : Sp := fun vs H Q _ => ∃ n b : Int, vs = [.int n, .int b] ∧ Q (.bl (decide (0 ≤ b ∧ b < n))) H
theorem pure_is_box (vs : List V) (Q : VK) (E : XK) (h : spIsBox vs H Q E) : t_is_box K w { nx := fun _ H1 => Q .non H1, rt := Q } (start ["boxes", "box"] vs) H := by
  obtain ⟨n, b, rfl, q⟩ := h
  unfold t_is_box
  walk_at "go"
  refine k_both (fun h => ?_) (fun h => ?_)
  · walk_at "go"
    have e : decide (0 ≤ b ∧ b < n) = decide (b < n) := by
      by_cases z : b < n
      · rw [decide_eq_true z, decide_eq_true ⟨h, z⟩]
      · rw [decide_eq_false z, decide_eq_false fun y => z y.2]
    rw [← e]; exact q
  · have e : decide (0 ≤ b ∧ b < n) = false := decide_eq_false fun y => h y.1
    rw [← e]; exact q
def spCheckLead (K : PySem.W.Frag) : Sp := fun vs H Q _ => ∃ (G : Hp) (n : Int) (l : Addr) (ld : Lead), vs = [.int n, .ref l] ∧ Same G H ∧ 1 ≤ n ∧ n ≤ 10 ∧ LeadAt K G l ld ∧ GoodM n ld ∧ ∀ H1, Ext [] G H G H1 → Q .non H1
theorem pure_check_lead (vs : List V) (Q : VK) (E : XK) (h : spCheckLead K vs H Q E) : t_check_lead K w spCheckBoxes spIsBox { nx := fun _ H1 => Q .non H1, rt := Q } (start ["boxes", "lead", "goals", "pair", "goal", "source"] vs) H := by
  obtain ⟨G, n, l, ld, rfl, s, n1, n10, ⟨xs, hx, hd⟩, gm, q⟩ := h
  have ll : xs.length = ld.length := by rw [dpAll_len hd, List.length_map]
  have l10 : ld.length ≤ 10 := by have := gm.len; omega
  unfold t_check_lead
  walk_at "go"
  refine ⟨n, rfl, n1, n10, ?_⟩
  walk_at "go"
  refine ⟨rfl, fun gs ngs => ?_⟩
  have e0 := (Ext.refl (M := []) s).tmp (o := SetO w gs (fun _ => false) 0) ngs
  have gg : G gs = none := s.free ngs
  walk_at "go"
  refine ⟨_, rfl, ⟨_, e0.s.seq hx⟩, ?_⟩
  refine forL (M := [gs]) e0.s hx (fun i σ1 G1 H1 => G1 = G ∧ ∃ (x3 x4 x5 : Option V) (S : Int → Bool) (k : Nat), σ1 = [some (.int n), some (.ref l), some (.ref gs), x3, x4, x5] ∧ H1 gs = some (SetO w gs S k) ∧ k ≤ i ∧ ∀ z, S z = decide (z ∈ (ld.take i).map (·.1)))
    ⟨rfl, none, none, none, _, 0, rfl, upd_same, Nat.le_refl _, fun z => by simp⟩ (fun i x σ1 G1 H1 hi ex e ⟨eG, x3, x4, x5, S, k, es, hS, hk, hz⟩ => ?_) (fun σ1 G1 H1 e ⟨eG, x3, x4, x5, S, k, es, hS, hk, hz⟩ => ?_)
  · subst eG es
    obtain ⟨t, p, ep, rfl, ht⟩ := pair_at hd ex
    have ht1 : SqT K H1 t [.int p.1, .int p.2] := sqT_mono e.s ht
    have hp : p ∈ ld := List.mem_of_getElem? ep
    have r := gm.rg p hp
    walk_at "go"
    refine k_len (.inr ht1) ?_
    walk_at "go"
    refine k_nfalse rfl ?_
    walk_at "go"
    refine k_tupN ht1 rfl ?_
    walk_at "go"
    refine ⟨n, p.1, rfl, ?_⟩
    walk_at "go"
    rw [decide_eq_true (show 0 ≤ p.1 ∧ p.1 < n by omega)]
    refine iteF ?_
    walk_at "go"
    refine ⟨n, p.2, rfl, ?_⟩
    walk_at "go"
    rw [decide_eq_true (show 0 ≤ p.2 ∧ p.2 < n by omega)]
    refine iteF ?_
    walk_at "go"
    refine ⟨p.1, gs, S, k, rfl, rfl, hS, ?_⟩
    walk_at "go"
    have hno : S p.1 = false := by
      rw [hz]
      refine decide_eq_false fun m => ?_
      have nd := gm.nd
      have e2 : ld = ld.take i ++ p :: ld.drop (i + 1) := by
        have hi' : i < ld.length := (List.getElem?_eq_some_iff.mp ep).1
        have e3 : ld[i] = p := (List.getElem?_eq_some_iff.mp ep).2
        rw [← e3, ← List.drop_eq_getElem_cons hi', List.take_append_drop]
      rw [e2, List.map_append, List.map_cons] at nd
      exact (List.nodup_append.mp nd).2.2 _ m _ (List.mem_cons_self ..) rfl
    rw [hno]
    refine iteF ?_
    walk_at "go"
    show tVar 2 _ _ _
    walk_at "go"
    refine ⟨⟨gs, S, k, rfl, hS⟩, ?_⟩
    walk_at "go"
    refine ⟨gs, p.1, S, k, rfl, rfl, hS, by unfold scanBound; omega, ?_⟩
    refine ⟨G1, (Ext.refl e.s).mutM (by simp) gg, rfl, _, _, _, _, _, rfl, upd_same, by split <;> omega, fun z => ?_⟩
    rw [hz, List.take_add_one, ep, List.map_append]
    show (decide (z ∈ (ld.take i).map (·.1)) || decide (z = p.1)) = decide (z ∈ (ld.take i).map (·.1) ++ [p.1])
    by_cases m1 : z ∈ (ld.take i).map (·.1)
    · rw [decide_eq_true m1, decide_eq_true (List.mem_append_left _ m1)]; rfl
    · by_cases m2 : z = p.1
      · rw [decide_eq_true m2, decide_eq_true (List.mem_append_right _ (List.mem_singleton.mpr m2)), Bool.or_true]
      · rw [decide_eq_false m1, decide_eq_false m2, decide_eq_false fun y => (List.mem_append.mp y).elim m1 fun y => m2 (List.mem_singleton.mp y)]; rfl
  · subst eG es
    exact q _ (e0.fin e (by simp [ngs]))
/-- the real pairs of a lead: a new list of new pairs -/
def spRealPairs (K : PySem.W.Frag) : Sp := fun vs H Q _ => ∃ (G : Hp) (l : Addr) (ld : Lead), vs = [.ref l] ∧ Same G H ∧ LeadAt K G l ld ∧ ld.length ≤ 1000 ∧
  ∀ (p : Addr) (ts : List Addr) (G1 H1 : Hp), Ext [] G H G1 H1 → H p = none → G1 p = some (.lst (ts.map V.ref)) → Paired (fun t (x : Int × Int) => SqT K G1 t [.int x.1, .int x.2]) ts (real ld) → Q (.ref p) H1
theorem paired_app {α β : Type} {F : α → β → Prop} : ∀ {a : List α} {b : List β} {x : α} {y : β}, Paired F a b → F x y → Paired F (a ++ [x]) (b ++ [y])
  | _, _, _, _, .nil, h => .cons h .nil
  | _, _, _, _, .cons r t, h => .cons r (paired_app t h)
theorem paired_mono {α β : Type} {F F2 : α → β → Prop} (k : ∀ a b, F a b → F2 a b) : ∀ {a : List α} {b : List β}, Paired F a b → Paired F2 a b
  | _, _, .nil => .nil
  | _, _, .cons r t => .cons (k _ _ r) (paired_mono k t)
theorem paired_len {α β : Type} {F : α → β → Prop} : ∀ {a : List α} {b : List β}, Paired F a b → a.length = b.length
  | _, _, .nil => rfl
  | _, _, .cons _ t => by simp [paired_len t]
theorem real_snoc {ld : Lead} {i : Nat} {p : Int × Int} (e : ld[i]? = some p) : real (ld.take (i + 1)) = if p.1 ≠ p.2 then real (ld.take i) ++ [p] else real (ld.take i) := by
  unfold real
  rw [List.take_add_one, e, List.filter_append]
  by_cases h : p.1 ≠ p.2
  · rw [if_pos h]; simp [h]
  · rw [if_neg h]; simp at h; simp [h]
theorem pure_real_pairs (vs : List V) (Q : VK) (E : XK) (h : spRealPairs K vs H Q E) : t_real_pairs K w { nx := fun _ H1 => Q .non H1, rt := Q } (start ["lead", "goal", "source"] vs) H := by
  obtain ⟨G, l, ld, rfl, s, ⟨xs, hx, hd⟩, l1, q⟩ := h
  have ll : xs.length = ld.length := by rw [dpAll_len hd, List.length_map]
  unfold t_real_pairs
  walk_at "go"
  refine ⟨_, rfl, ⟨_, s.seq hx⟩, ?_⟩
  refine lcL (M := []) s (fun _ h => nomatch h) hx (by omega) (fun i acc G1 H1 => ∃ ts : List Addr, acc = ts.map V.ref ∧ Paired (fun t (x : Int × Int) => SqT K G1 t [.int x.1, .int x.2]) ts (real (ld.take i))) (fun _ _ _ _ _ _ h => h) ⟨[], rfl, .nil⟩
    (fun i x acc G1 H1 Ry Rn hi ex e iv hy hn => ?_) (fun p acc G1 H1 e np gp hp hl iv => ?_)
  · obtain ⟨ts, rfl, pr⟩ := iv
    obtain ⟨t, p, ep, rfl, ht⟩ := pair_at hd ex
    walk_at "go"
    refine k_tupN (sqT_mono e.s (sqT_mono e.g ht)) rfl ?_
    walk_at "go"
    refine ⟨rfl, ?_⟩
    walk_at "go"
    refine k_nboth (fun h => ?_) (fun h => ?_)
    · walk_at "go"
      refine ⟨sz1 (by simp), fun t2 n2 => ?_⟩
      refine hy _ _ _ ((Ext.refl e.s).new n2) ⟨ts ++ [t2], by simp, ?_⟩
      rw [real_snoc ep, if_pos h]
      exact paired_app (paired_mono (fun a b z => sqT_mono (same_new (e.s.free n2)) z) pr) (SqT.of upd_same)
    · refine hn _ _ (Ext.refl e.s) ⟨ts, rfl, ?_⟩
      rw [real_snoc ep, if_neg (fun z => z h)]
      exact pr
  · obtain ⟨ts, rfl, pr⟩ := iv
    rw [ll, List.take_length] at pr
    refine q p ts _ H1 (e.frz np gp hp) np upd_same (paired_mono (fun a b z => sqT_mono (same_new gp) z) pr)
end
end MV
namespace PySem
namespace BX
open PySem.W PySem.Calls PyProof.Rows PySem.HandSPX
/-! ### an own error whose __init__ hands a text on to the one above it, then keeps a number -/
structure Ps where
  (p1 p2 p3 p4 p5 p6 p7 p8 p9 pa pb q1 q2 q3 q4 : Pos)
def iA (f : Str) (P : Ps) : Arguments := { posonlyargs := [], args := [{ arg := "self", annotation := none, pos := P.p1 }, { arg := f, annotation := none, pos := P.p2 }], vararg := none, kwonlyargs := [], kw_defaults := [], kwarg := none, defaults := [] }
def iT (f pre post : Str) (P : Ps) : Expr := .JoinedStr [.Constant (.str pre) 0 P.p6, .FormattedValue (.Name f P.p7) (-1) none P.p8, .Constant (.str post) 0 P.p9] P.pa
def iB (f pre post : Str) (P : Ps) : List Stmt :=
  [.Expr (.Call (.Attribute (.Call (.Name "super" P.p3) [] [] P.p4) "__init__" P.p5) [iT f pre post P] [] P.pb) P.pb,
   .Assign [.Attribute (.Name "self" P.q1) f P.q2] (.Name f P.q3) P.q4]
def iS (f : Str) : Scope := { kind := .function, names := [(PySem.Str.ofString "self", .local), (f, .local), (PySem.Str.ofString "__class__", .free), (PySem.Str.ofString "super", .globalImplicit)], isGenerator := false, isCoroutine := false, more := [] }
/-- what the written part says of the class at C, and of its __init__, at fI -/
structure BadTxt (K : Frag) (prog : Program) (C fI : Addr) (f : Str) : Prop where
  cls : ∃ nm q N bs bm sn sub ab col dd k0 k1 k2 k3 k5, K.lookup C = some (excClassObj nm q C N bs bm true sn sub ab col dd k0 k1 k2 k3 k5 "ValueError.__new__") ∧ refsVE bm = true
  sa : findIn K (.ref C) "__setattr__" = some (some (.builtin "object.__setattr__"))
  noN : findIn K (.ref C) f = some none
  iC : findIn K (.ref C) "__init__" = some (some (.ref fI))
  tC : typeIn K (.ref fI) = some (.type "function")
  kC : keepIn K (.ref C) = true
  exC : subIn K (.ref C) (.type "BaseException") = some true
  veC : subIn K (.ref C) (.type "ValueError") = some true
  tyC : typeIn K (.ref C) = some (.type "type")
  mC : mroIn K C (.ref C) = some true
  su : ks_superIn K C C "__init__" = some (some (.builtin "ValueError.__init__"))
  op : nsIn K cStatics "thirdparty.any" = some none
  ng : nsIn K mainGlobals "super" = some none
  top : (prog.main.scope.names.lookup ("super" : Str)).isSome = false
  fl : f = "number" ∨ f = "place"
  fn : ∃ (oc : Value) (od : Option Addr) (doc pm : Value) (an : Option Addr) (ct : Value) (osl : Array (Option Value)) (P : Ps) (q pre post : Str) (cc cda : Addr) (cl : Value) (cld : Option Addr) (csl : Array (Option Value))
      (ccl : Value) (cdd : Option Addr) (vs : Array Value) (ccs : Array (Option Value)) (file : Str) (tf : Tok),
    K.lookup fI = some ⟨oc, od, .func (ksFn "__init__" q (iA f P) (iB f pre post P) (iS f) .none .none doc pm an (.ref cda) ct cc), osl⟩ ∧ codeIn K (.ref cda) q = true ∧ pre.length ≤ 1000 ∧ post.length ≤ 1000 ∧ (P.p5.endLine == P.pb.line) = true ∧
    K.lookup cc = some ⟨cl, cld, .cell (some (.ref C)), csl⟩ ∧ K.lookup cda = some ⟨ccl, cdd, .fields vs, ccs⟩ ∧ vs[2]? = some (.str file tf) ∧ ((prog.main.file : Str) == file) = true
theorem call_eq {env : Env} {pos apos pS pN p6 p7 p8 p9 pa : Pos} {f pre post : Str} (hline : (apos.endLine == pos.line) = true) :
    eval (.Call (.Attribute (.Call (.Name "super" pN) [] [] pS) "__init__" apos) [.JoinedStr [.Constant (.str pre) 0 p6, .FormattedValue (.Name f p7) (-1) none p8, .Constant (.str post) 0 p9] pa] [] pos) env = (do
      let ov ← attributeBase (.Call (.Name "super" pN) [] [] pS) "__init__" env (eval (.Call (.Name "super" pN) [] [] pS) env)
      standAt apos.atName
      let (fu, first) ← holding [ov] (getMethod ov "__init__" (do return (← importBound (.Call (.Name "super" pN) [] [] pS) env).getD true))
      callWith pos fu first (backTo pos (starEach [.JoinedStr [.Constant (.str pre) 0 p6, .FormattedValue (.Name f p7) (-1) none p8, .Constant (.str post) 0 p9] pa] env)) []) := by
  have hpos : methodCallPos true (.Call (.Name "super" pN) [] [] pS) env apos pos = pure pos := by unfold methodCallPos; simp [hline]
  rw [arm_eval_Call]
  have hm : ∀ ov, methodCall (.Call (.Name "super" pN) [] [] pS) "__init__" apos pos env ov 1 (backTo pos (starEach [.JoinedStr [.Constant (.str pre) 0 p6, .FormattedValue (.Name f p7) (-1) none p8, .Constant (.str post) 0 p9] pa] env)) [] = (do
      let (fu, first) ← holding [ov] (getMethod ov "__init__" (do return (← importBound (.Call (.Name "super" pN) [] [] pS) env).getD true))
      callWith pos fu first (backTo pos (starEach [.JoinedStr [.Constant (.str pre) 0 p6, .FormattedValue (.Name f p7) (-1) none p8, .Constant (.str post) 0 p9] pa] env)) []) := fun ov => by
    show (holding [ov] (calleeOf true (.Call (.Name "super" pN) [] [] pS) env ov "__init__") >>= fun x => methodCallPos true (.Call (.Name "super" pN) [] [] pS) env apos pos >>= fun callPos => callWith callPos x.1 x.2 _ _) = _
    rw [hpos]
    rfl
  show (attributeBase (.Call (.Name "super" pN) [] [] pS) "__init__" env _ >>= fun ov => standAt apos.atName >>= fun _ => methodCall (.Call (.Name "super" pN) [] [] pS) "__init__" apos pos env ov 1 _ []) = _
  simp only [hm]
/-- the method-wrapper called: the error's args are laid anew -/
theorem call_mw {prog : Program} {w : World} {A : Around} {E : Value → Shared → Prop} {h : Heap} {g : Array GenState} {d : Drawn} {t : Nat} {os : OsState} {nm q : Str} {C N : Addr} {bs bm : List Value} {hdct : Bool} {sn : List Str} {sub : List Value} {ab : Bool} {col : Option Bool} {dd : Option Addr} {k0 k1 k2 k3 k5 : Option Value}
    {u e t0 : Addr} {rest : List Value} {Q : Value → Shared → Prop}
    (hC : h.get? C = some (excClassObj nm q C N bs bm hdct sn sub ab col dd k0 k1 k2 k3 k5 "ValueError.__new__")) (he : h.get? e = some (excO C t0)) (hu : h.get? u = some (kxs_mw "ValueError.__init__" e)) (hrest : rest.length ≤ sizeLine)
    (hq : ∀ h' t1, (∀ b o, b ≠ e → h.get? b = some o → h'.get? b = some o) → h'.get? e = some (excO C t1) → Q .none ⟨h', g, d, t, os⟩) :
    wpAny (model prog w) A (call (.ref u) rest) Q E ⟨h, g, d, t, os⟩ := by
  refine wpAny_call (codeAny_of_tree ?_)
  show wpAny _ A.in1 (callAny (.ref u) ⟨rest, []⟩) _ _ _
  simp only [callAny]
  refine wpAny_bind (wpAny_load hu ?_)
  simp only [kxs_mw, show (Value.type "method-wrapper" == Value.type "method" || Value.type "method-wrapper" == Value.type "builtin_function_or_method" || Value.type "method-wrapper" == Value.type "method-wrapper") = true by decide, if_true]
  refine W.KFB.if_so (by decide) ?_
  refine wpAny_bind (check_bound_init F.excBase_ValueError.toExcCallFacts hC he rfl ?_)
  refine wpAny_bind (wpAny_pure (wpAny_pure ?_))
  refine ⟨plainId_quiet F.excBase_ValueError.init.plain _, codeAny_builtin F.excBase_ValueError.initEntry ?_⟩
  rw [Around.under_plainId F.excBase_ValueError.init.plain _]
  wp_walk
  refine hq _ h.objs.size (fun b o hb ho => ?_) ?_
  · rw [Heap.get?_update_other _ _ (Ne.symm hb)]
    exact Heap.get?_push_of_some _ ho
  · rw [Heap.get?_update_self _ (Heap.get?_push_of_some _ he) rfl]
    rfl
theorem callWith1 {M : Model} {A : Around} {E : Value → Shared → Prop} {s : Shared} {i : String} {x u : Addr} {pos : Pos} {env : Env} {e : Expr} {rest : List Expr} {Q : Value → Shared → Prop}
    (h : wpAny M A (spliced (backTo pos (starEach (e :: rest) env))) (fun vs s₁ => s₁.heap.get? u = some (kxs_mw i x) ∧ wpAny M A (call (.ref u) vs) Q E s₁) E s)
    (he : starEach (e :: rest) env = (false, eval e env) :: starEach rest env := by rfl) (hplain : (backTo pos (starEach rest env)).any (·.1) = false := by rfl) :
    wpAny M A (callWith pos (.ref u) [] (backTo pos (starEach (e :: rest) env)) []) Q E s := by
  rw [he] at h ⊢
  refine kxs_callWith (i := i) (x := x) (by show (false || (backTo pos (starEach rest env)).any (·.1)) = false; rw [hplain]; rfl) ?_
  exact evalArgs_plain h
theorem one_size (v : Value) : [v].length ≤ sizeLine := by
  rw [sizeLine_eq]
  exact (by decide : 1 ≤ 16777216)
/-- what __init__ leaves of a fresh error at x -/
structure InitEnd (h h' : Heap) (x C dx t1 : Addr) (f : Str) (v : Value) : Prop where
  keep : ∀ b o, b ≠ x → h.get? b = some o → h'.get? b = some o
  obj : h'.get? x = some { cls := .ref C, dict := some dx, data := .fields #[.ref t1, .none, .none, .none, .bool false, .none] }
  dbig : h.objs.size ≤ dx
  dne : dx ≠ x
  ns : h'.Ns1 dx (fun y => if y = f then some v else none)
section
variable {prog : Program} {w : World} {A : Around} {E : Value → Shared → Prop} {R : Result → Shared → Prop} {s : Shared} {K : Frag} {C fI : Addr} {f : Str}
theorem text_runs {env : Env} {m : Str → Option Value} {n : Int} {tn : Tok} {pre post : Str} {P : Ps} {Q : Value → Shared → Prop} (hn : s.heap.Ns env.locals m) (hv : m f = some (.int n tn)) (hk : env.scope.kind = .function) (hl : env.kindOf f = some .local) (hd : (f == ("__debug__" : Str)) = false)
    (hz : n.natAbs.log2 < 1920) (h1 : pre.length ≤ 1000) (h2 : post.length ≤ 1000) (hq : ∀ (y : Str) t tk, Q (.str y t) { s with toks := tk }) :
    wpAny (model prog w) A (eval (iT f pre post P) env) Q E s := by
  have e := int_text_length_le (k := 1920) (by decide) hz
  have e2 : (Str.ofString (toString n)).length ≤ 4000 := by rw [ofString_length]; omega
  have ea : ∀ a b : Str, (a ++ b).length = a.length + b.length := fun a b => size_cat a b
  have z0 : (Str.empty : Str).length = 0 := rfl
  unfold iT
  refine wpAny_JoinedStr ?_
  have e0 : evalEach [.Constant (.str pre) 0 P.p6, .FormattedValue (.Name f P.p7) (-1) none P.p8, .Constant (.str post) 0 P.p9] env = [eval (.Constant (.str pre) 0 P.p6) env, eval (.FormattedValue (.Name f P.p7) (-1) none P.p8) env, eval (.Constant (.str post) 0 P.p9) env] := by first | rfl | simp [evalEach]
  rw [e0]
  refine Calls.Constant_str ⟨_, _, rfl, by rw [ea, sizeLine_eq]; omega, ?_⟩
  refine wpAny_FormattedValue_plain (wpAny_Name (wpAny_loadName_local hk hl hn hv ?_) hd)
  refine wpAny_formatField_int hz ⟨_, _, rfl, by rw [ea, ea, sizeLine_eq]; omega, ?_⟩
  refine Calls.Constant_str ⟨_, _, rfl, by rw [ea, ea, ea, sizeLine_eq]; omega, ?_⟩
  exact ⟨by rw [ea, ea, ea, sizeLine_eq]; omega, hq _ _ _⟩
theorem bad_init (T : BadTxt K prog C fI f) {x t0 : Addr} {n : Int} {tn : Tok} {mg mb : Str → Option Value} (X : K.In s.heap) (hlim : s.heap.NoLimit) (hx : s.heap.get? x = some (excO C t0)) (hnx : K.lookup x = none) (hroom : A.depth < recursionLimit)
    (hg : s.heap.Ns mainGlobals mg) (hb : s.heap.Ns builtinsNs mb) (hmb : mb "super" = some (.type "super")) (hz : n.natAbs.log2 < 1920)
    (hq : ∀ h' tk dx t1, InitEnd s.heap h' x C dx t1 f (.int n tn) → R (.ok (.ret .none)) { s with heap := h', toks := tk }) :
    codeAny (model prog w) A (.call (.ref fI) ⟨[.ref x, .int n tn], []⟩) R s := by
  obtain ⟨oc, od, doc, pm, an, ct, osl, P, q, pre, post, cc, cda, cl, cld, csl, ccl, cdd, vs, ccs, file, tf, ho, hcd, hl1, hl2, hline, hcell, hcode, hvs, hfile⟩ := T.fn
  obtain ⟨nm, q', N, bs, bm, sn, sub, ab, col, dd, k0, k1, k2, k3, k5, hC, hbm⟩ := T.cls
  have hcl : clsIn K C = some { name := nm, bases := bs, mro := .ref C :: bm, ns := N, qualname := q', hasDict := true, slotNames := sn, subclasses := sub, abstract := ab, collection := col, hasDel := false } := by unfold clsIn; rw [hC] <;> rfl
  have hf : (f == ("__debug__" : Str)) = false ∧ (f == ("self" : Str)) = false ∧ (iS f).names.lookup f = some .local := by
    rcases T.fl with rfl | rfl <;> exact ⟨by decide, by decide, by first | rfl | decide⟩
  refine ks_codeAny_call_defAt (fd := ksFn "__init__" q (iA f P) (iB f pre post P) (iS f) .none .none doc pm an (.ref cda) ct cc) (body := iB f pre post P) (binds := [("self", .ref x), (f, .int n tn)]) hroom (X _ _ ho) rfl hlim (codeRec_of X hcd) rfl
    (by rcases T.fl with rfl | rfl <;> exact BindsTo.of_eq (by first | rfl | with_unfolding_all rfl)) (fun y hy => by
      have hy' : y ∈ (iS f).names := hy
      rcases T.fl with rfl | rfl <;> exact (show ∀ y ∈ (iS _).names, y.2 ≠ .cell by decide) y hy')
    (fun y hy => by
      rcases List.mem_cons.mp hy with rfl | hy
      · show (iS f).names.lookup ("self" : Str) = some .local
        rcases T.fl with rfl | rfl <;> first | rfl | decide
      · rcases List.mem_cons.mp hy with rfl | hy
        · exact hf.2.2
        · cases hy) (fun h₁ hns k₁ => ?_)
  have hxL : s.heap.objs.size ≠ x := Nat.ne_of_gt (Heap.lt_size hx)
  have X₁ : K.In h₁ := X.keeps k₁
  have hx₁ := k₁ _ _ hx
  have hlv : ([("self", Value.ref x), (f, Value.int n tn)] : List (Str × Value)).reverse.lookup ("self" : Str) = some (.ref x) := by rcases T.fl with rfl | rfl <;> first | rfl | decide
  have hlf : ([("self", Value.ref x), (f, Value.int n tn)] : List (Str × Value)).reverse.lookup f = some (.int n tn) := by
    show List.lookup f [(f, Value.int n tn), ("self", .ref x)] = _
    simp [List.lookup]
  have hkf : (callEnv (ksFn "__init__" q (iA f P) (iB f pre post P) (iS f) .none .none doc pm an (.ref cda) ct cc) s.heap.objs.size fI).kindOf f = some .local := hf.2.2
  have hks : (callEnv (ksFn "__init__" q (iA f P) (iB f pre post P) (iS f) .none .none doc pm an (.ref cda) ct cc) s.heap.objs.size fI).kindOf "self" = some .local := by
    show (iS f).names.lookup ("self" : Str) = some .local
    rcases T.fl with rfl | rfl <;> first | rfl | decide
  generalize hev : callEnv (ksFn "__init__" q (iA f P) (iB f pre post P) (iS f) .none .none doc pm an (.ref cda) ct cc) s.heap.objs.size fI = env at *
  have hec : env.code = .ref cda := by rw [← hev]; rfl
  have hefu : env.func = some fI := by rw [← hev]; rfl
  have hel : env.locals = s.heap.objs.size := by rw [← hev]; rfl
  have heg : env.globals = mainGlobals := by rw [← hev]; rfl
  have heb : env.builtins = builtinsNs := by rw [← hev]; rfl
  have hek : env.scope.kind = .function := by rw [← hev]; rfl
  have hecl : env.cells.lookup ("__class__" : Str) = some cc := by rw [← hev]; rfl
  have hksu : env.kindOf "super" = some .globalImplicit := by
    rw [← hev]
    show (iS f).names.lookup ("super" : Str) = some .globalImplicit
    rcases T.fl with rfl | rfl <;> first | rfl | decide
  have hkcl : env.kindOf "__class__" = some .free := by
    rw [← hev]
    show (iS f).names.lookup ("__class__" : Str) = some .free
    rcases T.fl with rfl | rfl <;> first | rfl | decide
  have hns' : h₁.Ns env.locals (fun y => ([("self", Value.ref x), (f, Value.int n tn)] : List (Str × Value)).reverse.lookup y) := by rw [hel]; exact hns
  have hint : interactive env = false := by rw [← hev]; rfl
  obtain ⟨sh, sg, sd, stk, sos⟩ := s
  refine ks_wpAt_execs_cons (ks_wpAt_Expr_any (ks_wpAt_MethodCall (ks_wpAt_super_base (fd := ksFn "__init__" q (iA f P) (iB f pre post P) (iS f) .none .none doc pm an (.ref cda) ct cc) (ar := { arg := "self", annotation := none, pos := P.p1 }) hksu hkcl (by decide) hefu (k₁ _ _ (X _ _ ho)) rfl rfl hec (k₁ _ _ (X _ _ hcode)) rfl hvs hfile T.top ?_) (call_eq hline)) hint rfl)
  refine ks_loadName_global hek hksu (loadGlobal_builtin (by rw [heg]; exact hg.keeps k₁) (mg_none_of X hg T.ng) (by rw [heb]; exact hb.keeps k₁) hmb ⟨rfl, ?_⟩)
  refine wpAny_loadName_free hek hkcl hecl ⟨_, X₁ _ _ hcell, rfl⟩ ?_
  refine wpAny_loadName_local hek hks hns' hlv ?_
  refine ks_wpAny_isType_cls (X₁ _ _ hC) rfl ⟨rfl, ?_⟩
  refine ks_wpAny_call_super (X₁ _ _ hC) rfl hx₁ rfl (fun c e => by cases e) (looks_mroIn X₁ T.mC) (fun h₂ hso k₂ => ?_)
  have X₂ : K.In h₂ := X₁.keeps k₂
  have hx₂ := k₂ _ _ hx₁
  have Ix : InstAt h₂ x (excO C t0) C none := ⟨hx₂, rfl, rfl, trivial⟩
  have hmo : alongIn K "__init__" (((Value.ref C :: bm).dropWhile (· != .ref C)).drop 1) = some (some (.builtin "ValueError.__init__")) := by
    have z := T.su
    unfold ks_superIn at z
    rw [hcl] at z
    exact z
  refine kxs_getMethod kxs_ValueError (l₀ := .ref C :: bm) hso (looks_opaque X₂ T.op) (fun A Q E s k q => wpAny_bind ((looks_clsIn X₂ hcl) A _ E s k (wpAny_pure q))) rfl X₂ hmo (Ix.type.andThen (looks_subIn X₂ T.veC)) (ks_ne X₂ Ix hcl) (by decide) ?_
  have k₃ : ∀ b o, h₂.get? b = some o → (h₂.push (kxs_mw "ValueError.__init__" x)).get? b = some o := fun b o e => Heap.get?_push_of_some _ e
  have hns₃ : (h₂.push (kxs_mw "ValueError.__init__" x)).Ns env.locals (fun y => ([("self", Value.ref x), (f, Value.int n tn)] : List (Str × Value)).reverse.lookup y) := (hns'.keeps k₂).keeps k₃
  refine callWith1 (i := "ValueError.__init__") (x := x) (spliced_more ?_) 
  refine text_runs (m := fun y => ([("self", Value.ref x), (f, Value.int n tn)] : List (Str × Value)).reverse.lookup y) hns₃ hlf hek hkf hf.1 hz hl1 hl2 (fun y t tk => ?_)
  refine spliced_none ⟨Heap.get?_push_at rfl rfl, ?_⟩
  refine call_mw ((X₂.keeps k₃) _ _ hC) (k₃ _ _ hx₂) (Heap.get?_push_at rfl rfl) (one_size _) (fun h₄ t1 k₄ hx₄ => ?_)
  have hne : env.locals ≠ x := by rw [hel]; exact hxL
  have hns₄ : h₄.Ns env.locals (fun y => ([("self", Value.ref x), (f, Value.int n tn)] : List (Str × Value)).reverse.lookup y) := by
    obtain ⟨oL, es, ep, hL, r⟩ := hns₃
    exact ⟨oL, es, ep, k₄ _ _ hne hL, r⟩
  have X₄ : K.In h₄ := fun a o e => k₄ a o (fun z => by rw [z, hnx] at e; cases e) ((X₂.keeps k₃) a o e)
  show wpAt _ _ _ (execs [.Assign [.Attribute (.Name "self" P.q1) f P.q2] (.Name f P.q3) P.q4] env) _ _ _
  refine wpAt_of_wpAny (wpAny_execs_cons (plainObj_wpAny_Assign_Attribute (wpAny_Name (wpAny_loadName_local hek hkf hns₄ hlf ?_) hf.1) (by rfl)))
  refine wpAny_Name (wpAny_loadName_local hek hks hns₄ hlv ?_) (by decide)
  refine set_plain X₄ (ox := excO C t1) (od := none) ⟨hx₄, rfl, rfl, trivial⟩ T.sa ?_
  refine exc_osa X₄ hx₄ hcl (show refsVE (.ref C :: bm) = true from hbm) rfl T.noN (fun h₅ tk₅ dx k₅ dn dne hx₅ hn₅ => ?_)
  show wpAny _ _ (execs _ _) _ _ _
  have z : env.locals < h₄.objs.size := hns₄.lt
  rw [hel] at z
  exact wpAny_execs_nil (hq h₅ tk₅ dx t1 ⟨fun b o hb e => k₅ b o hb (k₄ b o hb (k₃ _ _ (k₂ _ _ (k₁ b o e)))), hx₅, Nat.le_of_lt (Nat.lt_of_lt_of_le z dn), dne, hn₅⟩)
/-- a made one -/
structure OwnMade (h h' : Heap) (e C d : Addr) (f : Str) (v : Value) : Prop where
  keep : ∀ b o, h.get? b = some o → h'.get? b = some o
  new : h.objs.size ≤ e
  obj : ∃ oe vs, h'.get? e = some oe ∧ oe.cls = .ref C ∧ oe.dict = some d ∧ oe.data = .fields vs ∧ vs[1]? = some .none
  dbig : h.objs.size ≤ d
  dne : d ≠ e
  ns : h'.Ns1 d (fun y => if y = f then some v else none)
theorem bad_made (T : BadTxt K prog C fI f) {n : Int} {tn : Tok} {mg mb : Str → Option Value} (X : K.In s.heap) (hlim : s.heap.NoLimit) (hroom : A.depth + 1 < recursionLimit)
    (hg : s.heap.Ns mainGlobals mg) (hb : s.heap.Ns builtinsNs mb) (hmb : mb "super" = some (.type "super")) (hz : n.natAbs.log2 < 1920)
    (hq : ∀ h' tk e d, OwnMade s.heap h' e C d f (.int n tn) → R (.ok (.ret (.ref e))) { s with heap := h', toks := tk }) :
    codeAny (model prog w) A (.call (.ref C) ⟨[.int n tn], []⟩) R s := by
  obtain ⟨nm, q, N, bs, bm, sn, sub, ab, col, dd, k0, k1, k2, k3, k5, hC, hbm⟩ := T.cls
  obtain ⟨hp, g, dr, tk, os⟩ := s
  have k : ∀ b o, hp.get? b = some o → ((hp.push (kdv_tup [.int n tn])).push (excO C hp.objs.size)).get? b = some o := fun b o e => Heap.get?_push_of_some _ (Heap.get?_push_of_some _ e)
  have hget : ((hp.push (kdv_tup [.int n tn])).push (excO C hp.objs.size)).get? (hp.objs.size + 1) = some (excO C hp.objs.size) := by heap_get
  have hnx : K.lookup (hp.objs.size + 1) = none := by
    cases e : K.lookup (hp.objs.size + 1) with
    | none => rfl
    | some o =>
      have z : hp.get? (hp.objs.size + 1) = some o := X _ _ e
      exact absurd (Nat.lt_of_succ_lt (Heap.lt_size z)) (Nat.lt_irrefl _)
  refine call_own F.excBase_ValueError (fun X => refsVE_contains X bm hbm) (X _ _ hC) (looks_findIn X T.iC) (fun self => bind_fn X self T.tC) (one_size _) ?_
  refine bad_init (s := ⟨(hp.push (kdv_tup [.int n tn])).push (excO C hp.objs.size), g, dr, tk, os⟩) T (X.keeps k) (hlim.keeps k) hget hnx ?_ (hg.keeps k) (hb.keeps k) hmb hz fun h' tk' dx t1 ⟨k', hx, dn, dne, hns⟩ => ?_
  · show A.depth + 1 < recursionLimit
    exact hroom
  · have old : ∀ b o, hp.get? b = some o → h'.get? b = some o := fun b o e => k' b o (Nat.ne_of_lt (Nat.lt_succ_of_lt (Heap.lt_size e))) (k b o e)
    have z : hp.objs.size + 1 + 1 ≤ dx := by
      first
        | (simpa only [Heap.size_push] using dn)
        | exact dn
        | (have q := dn; rw [Heap.size_push, Heap.size_push] at q; exact q)
    exact ⟨rfl, hq h' tk' (hp.objs.size + 1) dx ⟨old, Nat.le_succ _, ⟨_, _, hx, rfl, rfl, rfl, rfl⟩, Nat.le_trans (Nat.le_trans (Nat.le_succ _) (Nat.le_succ _)) z, dne, hns⟩⟩
end
end BX
end PySem
namespace L2
open PySem PySem.Spec PyProof.Rows
theorem relO_bad {g : Str} {v : V} {v' : Value} (r : RelV v v') (f : Str) : RelO (List.lookup f [(g, v)]) (if f = g then some v' else none) := by
  by_cases hw : f = g
  · subst hw
    rw [if_pos rfl]
    have q : List.lookup f [(f, v)] = some v := by simp [List.lookup]
    rw [q]
    exact r
  · rw [if_neg hw]
    have qw : (f == g) = false := by simpa using hw
    have q2 : List.lookup f [(g, v)] = none := by simp [List.lookup, qw]
    rw [q2]
    trivial
section
variable {X : Cx} {C fI : Addr} {f : Str}
/-- Bad(e) -/
def tMkBad (C : Addr) (f : Str) (ta : TA) : St → Hp → XK → Prop := fun σ H Q => ta σ H fun vs H1 => ∃ n : Int, vs = [.int n] ∧ n.natAbs.log2 < 1920 ∧ ∀ d, H1 d = none → Q (.ref C) (some d) (upd H1 d (.xd [(f, .int n)]))
theorem pmk_bad {x : Str} {a : Expr} {ta : TA} {p pos : Pos} {k : Nat} (T : PySem.BX.BadTxt X.K X.prog C fI f) (gC : X.mg x = some (.ref C)) (hr : Room k X.A) (ha : PA X [a] ta) (hg : Gl X x := by rfl) (hdb : (x == ("__debug__" : Str)) = false := by decide)
    (he : starEach (a :: []) X.env = (false, eval a X.env) :: starEach [] X.env := by rfl) (hpl : (backTo pos (starEach [] X.env)).any (·.1) = false := by rfl) :
    PMk X (.Call (.Name x p) [a] [] pos) (tMkBad C f ta) := by
  intro pins s σ H Q I h
  refine wpAny_Call_Name_kw (ld_glob I hg gC ?_ hdb)
  refine PySem.W.callWith_K (h₀ := X.base) I.ok.mod.kin T.kC (thn (ha.run pos pins s σ H _ I h) fun us s1 hh => ?_) he hpl
  obtain ⟨vs, H1, I1, r1, v, ev, hz, q1⟩ := hh
  subst ev
  refine ⟨I1.kIn, ?_⟩
  cases r1 with
  | cons rv rn =>
    rename_i v' us'
    cases rn
    obtain ⟨tn, rfl⟩ := rv
    show wpAny _ _ (call (.ref C) [Value.int v tn]) _ _ _
    have hlim := I1.nolimit
    obtain ⟨mb, hb1, hb2⟩ := I1.mod.blt
    obtain ⟨hp, g, dr, tk, os⟩ := s1
    refine wpAny_call (PySem.BX.bad_made T I1.kIn hlim (by have := hr.dp; omega) (I1.mod.glob.keeps I1.bk) (hb1.keeps I1.bk) ((hb2 "super" (by decide)).trans (by decide +kernel)) hz fun h' tk' e d M => ?_)
    show MkP X pins σ Q (.ref e) ⟨h', g, dr, tk', os⟩
    obtain ⟨oe, fv, hoe, hc, hd, hdat, h1⟩ := M.obj
    have hns := M.ns
    obtain ⟨G', g1, g2⟩ := restrict h' fun b => decide (b ≠ e)
    have gk : ∀ b, b ≠ e → G'.get? b = h'.get? b := fun b hb => g1 b (decide_eq_true hb)
    have ge : G'.get? e = none := g2 e (by simp)
    have old : ∀ b o, hp.get? b = some o → G'.get? b = some o := fun b o q => (gk b (Nat.ne_of_lt (Nat.lt_of_lt_of_le (Heap.lt_size q) M.new))).trans (M.keep b o q)
    have ob : ObjOk X.prog X.w (upd H1 d (.xd [(f, .int v)])) G' d (.xd [(f, .int v)]) :=
      ⟨_, hns.at (fun o q => (gk d M.dne).trans q), fun g => relO_bad (v := .int v) (v' := .int v tn) ⟨tn, rfl⟩ g⟩
    have J : Inv X pins σ (upd H1 d (.xd [(f, .int v)])) ⟨G', g, dr, tk', os⟩ := I1.laid (t' := tk') old M.dbig ob
    refine ⟨e, oe, fv, ⟨G', g, dr, tk', os⟩, _, .ref C, some d, rfl, J, fun b o q => ?_, ge, hoe, ⟨hc, hd⟩, hdat, h1, ?_, rfl, I1.bare, raises_own T.exC T.tyC, q1 d (I1.hok.fresh M.dbig)⟩
    · by_cases hb : b = e
      · have q' : G'.get? b = some o := q
        rw [hb, ge] at q'; cases q'
      · exact (gk b hb).symm.trans q
    · rw [upd_ne (Ne.symm M.dne)]
      exact I1.hok.fresh M.new
/-- raise Bad(e) -/
def tRaiseBad (C : Addr) (f : Str) (W : WX) (ta : TA) : TS := fun _ σ H => tMkBad C f ta σ H fun cls d H' => W cls d σ H'
theorem ps_raiseBad {x : Str} {a : Expr} {ta : TA} {W : WX} {p pos pos2 : Pos} {k : Nat} (hc : X.calm = true) (T : PySem.BX.BadTxt X.K X.prog C fI f) (gC : X.mg x = some (.ref C)) (hr : Room k X.A) (tk : Takes X W) (ha : PA X [a] ta) (hg : Gl X x := by rfl) (hdb : (x == ("__debug__" : Str)) = false := by decide)
    (he : starEach (a :: []) X.env = (false, eval a X.env) :: starEach [] X.env := by rfl) (hpl : (backTo pos (starEach [] X.env)).any (·.1) = false := by rfl) :
    PS X (.Raise (some (.Call (.Name x p) [a] [] pos)) none pos2) (tRaiseBad C f W ta) := ps_raise hc tk (pmk_bad T gC hr ha hg hdb he hpl)
end
end L2
namespace EX
open PySem PySem.Spec PyProof.Rows L2
/-! ### how often a flat value stands in a list -/
theorem eqU_count {y : V} {uy : Value} (fy : flatV y = true) (ry : RelV y uy) : ∀ {ys : List V} {us : List Value}, Vals ys us → ys.all flatV = true → us.countP (eqU y) = ys.countP (fun z => eqV z y)
  | _, _, .nil, _ => rfl
  | _ :: _, _ :: _, .cons rz rs, f => by
    rw [List.all_cons, Bool.and_eq_true] at f
    rw [List.countP_cons, List.countP_cons, eqU_count fy ry rs f.2, eqU_of rz f.1]
def vCount (K : PySem.W.Frag) : V → List V → Hp → VK → Prop := fun x xs H Q => ∃ (p : Addr) (ys : List V) (y : V), x = .ref p ∧ xs = [y] ∧ SqL K H p ys ∧ flatV y = true ∧ ys.all flatV = true ∧ Q (.int ((ys.countP fun z => eqV z y) : Nat)) H
theorem mt_countF {X : Cx} : MtR X "list.count" (vCount X.K) := by
  intro pins s σ H x xs v us Q I rx rxs h
  obtain ⟨p, ys, y, rfl, rfl, hs, fy, fys, q⟩ := h
  cases rx
  obtain ⟨uy, rfl, ry⟩ := rxs.one
  obtain ⟨its, rv, ⟨⟨cls, dd, data, sl⟩, n, ho, hc, hdn, hd⟩, hlen⟩ := I.list hs
  simp only at hc hd
  subst hc hd
  refine call_meets PySem.F.slot_list_count ⟨_, ho, rfl⟩ PySem.F.entry_list_count (PySem.F.args_list_count_2 _ _)
    (SeqAt.list_countAt p its.toArray n dd sl uy (eqU y)) ⟨ho, fun u' hu' => mem_eqAt ry fy rv fys u' (by simpa using hu'), ?_⟩
  have ec : its.toArray.toList.countP (eqU y) = ys.countP (fun z => eqV z y) := eqU_count fy ry rv fys
  refine ⟨.int ((ys.countP fun z => eqV z y) : Nat), H, I.tok _, ⟨s.toks, ?_⟩, q⟩
  show Value.int ((its.toArray.toList.countP (eqU y) : Nat) : Int) s.toks = _
  rw [ec]
/-! ### isinstance of the error that the suite holds, with a dict of its own or none -/
def Own (H : Hp) (d : Option Addr) : Prop := ∀ dd, d = some dd → ∃ fs, H dd = some (.xd fs)
def vIsE (K : PySem.W.Frag) (cls : Value) (d : Option Addr) (a : Addr) : List V → Hp → VK → Prop := fun xs H Q =>
  ∃ (D : Addr) (c : V) (cv : Value) (b : Bool), xs = [.ref a, c] ∧ cls = .ref D ∧ ExcC K D ∧ (∀ u, RelV c u → u = cv) ∧ PySem.W.kitOne K (.ref D) cv = some b ∧ Own H d ∧ Q (.bl b) H
theorem call_isO {X : Cx} {a : Addr} {cls : Value} {d : Option Addr} {oe : Obj} {pn : List (Addr × Obj)} (hz : Zc cls d oe) (hf : ∃ vs, oe.data = .fields vs) : CallR (X.suite a ((a, oe) :: pn)) (.builtin "isinstance") (vIsE X.K cls d a) := by
  intro pins s σ H xs us Q I r h
  obtain ⟨D, c, cv, b, rfl, rfl, C, hcv, e, ow, q⟩ := h
  cases r with
  | cons rx rr =>
    cases rr with
    | cons rt rr =>
      cases rr
      cases rx
      have ec := hcv _ rt
      subst ec
      obtain ⟨hget, _⟩ := I.pin (a, oe) (List.mem_append.mpr (.inl List.mem_cons_self))
      obtain ⟨vs, hv⟩ := hf
      have hcl : (PySem.W.clsIn X.K D).isSome = true := by
        obtain ⟨cd, hc, _⟩ := PySem.W.any_some C.hd
        rw [hc]
        rfl
      have J : ∃ od, PySem.W.InstAt s.heap a oe D od := by
        cases d with
        | none =>
          obtain ⟨oc, od, oda, osl⟩ := oe
          obtain ⟨h1, h2⟩ := hz
          dsimp only at h1 h2 hv
          subst h1 h2 hv
          exact ⟨none, hget, rfl, rfl, trivial⟩
        | some dd =>
          obtain ⟨fs, hfs⟩ := ow dd rfl
          obtain ⟨mA, hns, _⟩ := (I.hok dd _ hfs : ObjOk X.prog X.w H s.heap dd (.xd fs))
          obtain ⟨od, ho, _⟩ := lookIn_ns hns
          exact ⟨some od, hget, hz.1, by unfold PySem.W.notCls; rw [hv] <;> rfl, by rw [hz.2]; exact ho⟩
      obtain ⟨od, J⟩ := J
      exact PySem.W.kia_one (PySem.W.kitx_exc (ox := oe) (od := od) hcl C.hg C.hk C.hs C.ha C.hn C.ht C.hm) I.kIn J e (fun z => nomatch z) fun tk => ⟨.bl b, H, I.kept (t' := tk) fun _ _ z => z, rfl, q⟩
/-! ### the field of the error that the suite holds, whatever its class -/
theorem pe_fld {X : Cx} {a C : Addr} {oe : Obj} {cls : Value} {d : Option Addr} {pn : List (Addr × Obj)} {e : Expr} {te : TE} {pos : Pos} {n : Str} (T : XfC X.K C) (hno : PySem.W.findIn X.K (.ref C) n = some none)
    (hz : Zc cls d oe) (hf : ∃ vs, oe.data = .fields vs) (he : PE (X.suite a ((a, oe) :: pn)) e te) (hb : attributeBase e n X.env (eval e X.env) = eval e X.env := by rfl) :
    PE (X.suite a ((a, oe) :: pn)) (.Attribute e n pos) (tXf a cls d C n te) := pe_xf T hno hz hf he hb
end EX
namespace EX
open PySem PySem.Spec PyProof.Rows L2
/-! ### a def that may raise, called by its name -/
structure CalX (P : Program) (w : World) (K : PySem.W.Frag) (mg : Str → Option Value) (base : Heap) (k : Nat) (x : Str) (sp : Sp) : Prop where
  ex : ∃ (f : Addr) (fd : FuncData) (ps : List Str), FnOk P w K mg base (L2.CX P w) k f fd ps sp ∧ mg x = some (.ref f) ∧ PySem.W.keepIn K (.ref f) = true ∧ Binds K fd ps []
theorem pe_cx {X : Cx} {k j : Nat} {x : Str} {sp : Sp} {W : WX} {p pos : Pos} {e : Expr} {es : List Expr} {t : TA} (c : CalX X.prog X.w X.K X.mg X.base k x sp) (hr : Room j X.A) (hk : k ≤ j) (hg : Gl X x) (tk : Takes X W) (ha : PA X (e :: es) t)
    (hdb : (x == ("__debug__" : Str)) = false := by decide) (he : starEach (e :: es) X.env = (false, eval e X.env) :: starEach es X.env := by rfl) (hpl : (backTo pos (starEach es X.env)).any (·.1) = false := by rfl) :
    PE X (.Call (.Name x p) (e :: es) [] pos) (tCallS sp (WE W) t) := by
  obtain ⟨f, fd, ps, F, hm, kp, b⟩ := c.ex
  exact pe_callS F (hr.mono hk) hg hm kp b (fun σ => passAt tk σ) ha hdb he hpl
/-! ### raise of an own class that is made with a text -/
structure PlainX (K : PySem.W.Frag) (x : Str) : Prop where
  q : PySem.W.excIn K (He.ga K x) [.type "ValueError", .type "Exception", .type "BaseException", .type "object"] "ValueError.__new__" = true
  k : PySem.W.keepIn K (.ref (He.ga K x)) = true
  r1 : PySem.W.subIn K (.ref (He.ga K x)) (.type "BaseException") = some true
  r2 : PySem.W.typeIn K (.ref (He.ga K x)) = some (.type "type")
def tRaiseOwn (C : Addr) (W : WX) : TS := fun _ σ H => W (.ref C) none σ H
theorem ps_raiseOwn {X : Cx} {x m : Str} {W : WX} {j : Nat} {p p2 pos pos2 : Pos} (hc : X.calm = true) (T : PlainX X.K x) (gC : X.mg x = some (.ref (He.ga X.K x))) (tk : Takes X W) (hg : Gl X x) (hdb : (x == ("__debug__" : Str)) = false := by decide) :
    PS X (.Raise (some (.Call (.Name x p) [.Constant (.str m) j p2] [] pos)) none pos2) (tRaiseOwn (He.ga X.K x) W) :=
  ps_raise hc tk (pmk_own PySem.F.excBase_ValueError T.q gC T.k (raises_own T.r1 T.r2) hg hdb)
/-- takes, for slots as many as names -/
theorem takes_len {X : Cx} {W : WX} (tk : Takes X W) : Takes X (fun cls d σ H => σ.length = X.N.length → W cls d σ H) := fun u s' ⟨a, B, sI, pins, σ, H, cls, d, e, I, nb, up, sky, na, os, ag, w⟩ =>
  tk u s' ⟨a, B, sI, pins, σ, H, cls, d, e, I, nb, up, sky, na, os, ag, w I.len⟩
/-! ### what a law's reader of refusals makes of an error -/
abbrev Same (H H' : Hp) : Prop := ∀ b o, H b = some o → H' b = some o
def kinds8 : List Str := ["BadLead", "BadSpare", "BadMove", "NoWay", "BadWord", "BadHouse", "BadCall", "BadText"]
structure KindC (K : PySem.W.Frag) : Prop where
  exc : ∀ x ∈ kinds8, ExcC K (He.ga K x)
  exm : ∀ x ∈ kinds8, PySem.W.exmOne K (.ref (He.ga K x)) (.ref (He.ga K "MoveError")) = some true
  kit : ∀ x ∈ kinds8, ∀ y ∈ kinds8, PySem.W.kitOne K (.ref (He.ga K x)) (.ref (He.ga K y)) = some (decide (x = y))
  ve : ∀ x ∈ kinds8, PySem.W.kitOne K (.ref (He.ga K x)) (.type "ValueError") = some true
  xm : XfC K (He.ga K "BadMove")
  xt : XfC K (He.ga K "BadText")
  nm : PySem.W.findIn K (.ref (He.ga K "BadMove")) "number" = some none
  nt : PySem.W.findIn K (.ref (He.ga K "BadText")) "place" = some none
def KindE (K : PySem.W.Frag) (cls : Value) (d : Option Addr) (H : Hp) (Q : VK) : Prop := ∃ x ∈ kinds8, cls = .ref (He.ga K x) ∧
  ((x ≠ "BadMove" ∧ x ≠ "BadText" ∧ d = none ∧ ∀ H', Same H H' → Q (.str x) H') ∨
   (∃ (f : Str) (dd : Addr) (n : Int), (x = "BadMove" ∧ f = "number" ∨ x = "BadText" ∧ f = "place") ∧ d = some dd ∧ H dd = some (.xd [(f, .int n)]) ∧ ∀ H' p, Same H H' → H' p = some (.tup [.str x, .int n]) → Q (.ref p) H'))
/-- what the reader makes of the work's own reading -/
def TKind (K : PySem.W.Frag) : (XK → Hp → VK → Prop) → Hp → VK → Prop := fun tl H Q => tl (fun cls d H' => KindE K cls d H' Q) H Q
end EX
namespace EX
open PySem PySem.Spec PyProof.Rows L2 MV
local macro_rules | `(tactic| walk_at "go") => `(tactic| repeat (first
  | with_reducible refine MV.k_seq ?_ | with_reducible refine MV.k_asg ?_ | with_reducible refine MV.k_name ?_ | with_reducible refine MV.k_op ?_ | ((with_reducible apply MV.k_var); exact rfl) | with_reducible refine MV.k_c ?_
  | with_reducible refine MV.k_add ?_ | with_reducible refine MV.k_sub ?_ | with_reducible refine MV.k_lt ?_ | with_reducible refine MV.k_le ?_ | with_reducible refine MV.k_gt ?_ | with_reducible refine MV.k_ge ?_ | with_reducible refine MV.k_eqI ?_ | with_reducible refine MV.k_neI ?_
  | with_reducible refine MV.k_test ?_ | with_reducible refine MV.k_B ?_ | with_reducible refine MV.k_bl ?_ | with_reducible refine MV.k_blV ?_ | with_reducible refine MV.k_and ?_ | with_reducible refine MV.k_or ?_ | with_reducible refine MV.k_not ?_ | with_reducible refine MV.k_andV ?_ | with_reducible refine MV.k_orV ?_ | with_reducible refine MV.k_notV ?_
  | with_reducible refine MV.k_if ?_ | with_reducible refine MV.k_tru ?_ | with_reducible refine MV.k_chain ?_ | with_reducible refine MV.k_next ?_ | with_reducible refine MV.k_drop ?_ | with_reducible refine MV.k_ret ?_ | with_reducible refine MV.k_retN ?_ | with_reducible refine MV.k_ifS ?_ | with_reducible refine MV.k_brk ?_ | with_reducible refine MV.k_cont ?_
  | with_reducible refine MV.k_nil ?_ | with_reducible refine MV.k_cons ?_ | with_reducible refine MV.k_tup ?_ | with_reducible refine MV.k_lst ?_ | with_reducible refine MV.k_cb ?_ | with_reducible refine MV.k_call ?_ | with_reducible refine MV.k_gnil ?_ | with_reducible refine MV.k_gcons ?_ | with_reducible refine MV.k_gsub ?_
  | with_reducible refine MV.k_bm ?_ | with_reducible refine MV.k_bm0 ?_ | with_reducible refine MV.k_un ?_ | with_reducible refine MV.k_neg ?_ | with_reducible refine MV.k_isN ?_ | with_reducible refine MV.k_notN ?_ | with_reducible refine L2.iteT ?_ | with_reducible refine L2.iteF ?_
  | with_reducible refine MV.k_iList ?_ | with_reducible refine MV.k_iTup ?_ | with_reducible refine MV.k_iRng1 ?_ | with_reducible refine MV.k_lc ?_ | with_reducible refine MV.k_for ?_
  | with_reducible refine MV.k_yes ?_ | with_reducible refine MV.k_dput ?_ | with_reducible refine MV.k_dget ?_ | with_reducible refine MV.k_dget1 ?_ | with_reducible refine MV.k_sl ?_ | with_reducible refine MV.k_nopart ?_ | with_reducible refine MV.k_part ?_ | with_reducible refine MV.k_pint ?_ | with_reducible refine MV.k_dnew ?_ | with_reducible refine MV.k_lstRg ?_ | with_reducible refine MV.k_rg1 ?_))
def tKind8 (K : PySem.W.Frag) (w : World) (a : Addr) (cls : Value) (d : Option Addr) : TS :=
  (tSeq (tAsg (tLst (tCons (tCB (vIsE K cls d a) (tCons (tVar 1) (tCons (tC (.ref (He.ga K "BadLead"))) tNil))) (tCons (tCB (vIsE K cls d a) (tCons (tVar 1) (tCons (tC (.ref (He.ga K "BadSpare"))) tNil))) (tCons (tCB (vIsE K cls d a) (tCons (tVar 1) (tCons (tC (.ref (He.ga K "BadMove"))) tNil))) (tCons (tCB (vIsE K cls d a) (tCons (tVar 1) (tCons (tC (.ref (He.ga K "NoWay"))) tNil))) tNil))))) (gName 2))
    (tSeq (tAsg (tOp rCat (tVar 2) (tLst (tCons (tCB (vIsE K cls d a) (tCons (tVar 1) (tCons (tC (.ref (He.ga K "BadWord"))) tNil))) (tCons (tCB (vIsE K cls d a) (tCons (tVar 1) (tCons (tC (.ref (He.ga K "BadHouse"))) tNil))) (tCons (tCB (vIsE K cls d a) (tCons (tVar 1) (tCons (tC (.ref (He.ga K "BadCall"))) tNil))) tNil))))) (gName 2))
    (tSeq (tDrop (tBM K "list" rAppend (tVar 2) (tCons (tCB (vIsE K cls d a) (tCons (tVar 1) (tCons (tC (.ref (He.ga K "BadText"))) tNil))) tNil)))
    (tSeq (tAsg (tLst (tCons (tC (.str "BadLead")) (tCons (tC (.str "BadSpare")) (tCons (tC (.str "BadMove")) (tCons (tC (.str "NoWay")) (tCons (tC (.str "BadWord")) (tCons (tC (.str "BadHouse")) (tCons (tC (.str "BadCall")) (tCons (tC (.str "BadText")) tNil))))))))) (gName 3))
    (tSeq (tIfS (tOr (tTest (tOp rNe (tBM K "list" (vCount K) (tVar 2) (tCons (tC (.bl true)) tNil)) (tC (.int 1)))) (tNot (tB (tCB (vIsE K cls d a) (tCons (tVar 1) (tCons (tC (.ty "ValueError")) tNil)))))) (tRet (tC (.str "other"))) tNext)
    (tSeq (tAsg (tOp (rIxL K) (tVar 3) (tBM K "list" (rIndex K) (tVar 2) (tCons (tC (.bl true)) tNil))) (gName 4))
    (tSeq (tIfS (tTest (tOp rEq (tVar 4) (tC (.str "BadMove")))) (tRet (tTup (tCons (tVar 4) (tCons (tXf a cls d (He.ga K "BadMove") "number" (tVar 1)) tNil)))) tNext)
    (tRet (tIf (tTest (tOp rEq (tVar 4) (tC (.str "BadText")))) (tTup (tCons (tVar 4) (tCons (tXf a cls d (He.ga K "BadText") "place" (tVar 1)) tNil))) (tVar 4))))))))))
section
variable {K : PySem.W.Frag} {w : World} {a : Addr} {d : Option Addr} {H : Hp} {Q : VK} {x y : Str}
theorem k_isE (KC : KindC K) (hx : x ∈ kinds8) (hy : y ∈ kinds8) (ow : Own H d) (q : Q (.bl (decide (x = y))) H) : vIsE K (.ref (He.ga K x)) d a [.ref a, .ref (He.ga K y)] H Q :=
  ⟨He.ga K x, .ref (He.ga K y), .ref (He.ga K y), _, rfl, rfl, KC.exc x hx, fun u r => r, KC.kit x hx y hy, ow, q⟩
theorem k_isV (KC : KindC K) (hx : x ∈ kinds8) (ow : Own H d) (q : Q (.bl true) H) : vIsE K (.ref (He.ga K x)) d a [.ref a, .ty "ValueError"] H Q :=
  ⟨He.ga K x, .ty "ValueError", .type "ValueError", true, rfl, rfl, KC.exc x hx, fun u r => r, KC.ve x hx, ow, q⟩
theorem Own.new {p : Addr} {o : HO} (ow : Own H d) (n : H p = none) : Own (upd H p o) d := fun dd e => by
  obtain ⟨fs, h⟩ := ow dd e
  exact ⟨fs, by rw [upd_ne (ne_of_none h n)]; exact h⟩
def bits8 (x : Str) : List V := kinds8.map fun y => .bl (decide (x = y))
theorem bits_in (h : x ∈ kinds8) : (bits8 x).countP (fun z => eqV z (.bl true)) = 1 ∧ (bits8 x).all flatV = true ∧ ∃ j : Nat, j < 8 ∧ (bits8 x)[j]? = some (.bl true) ∧ (∀ m z, m < j → (bits8 x)[m]? = some z → eqV z (.bl true) = false) ∧ (kinds8.map V.str)[j]? = some (.str x) := by
  have key : ∀ x ∈ kinds8, ∃ j : Nat, j < 8 ∧ kinds8.map (fun y => decide (x = y)) = (List.range 8).map (fun i => decide (i = j)) ∧ (kinds8.map V.str)[j]? = some (.str x) := by
    intro x hx
    simp only [kinds8, List.mem_cons, List.not_mem_nil, or_false] at hx
    rcases hx with rfl | rfl | rfl | rfl | rfl | rfl | rfl | rfl
    · exact ⟨0, by decide, by decide, rfl⟩
    · exact ⟨1, by decide, by decide, rfl⟩
    · exact ⟨2, by decide, by decide, rfl⟩
    · exact ⟨3, by decide, by decide, rfl⟩
    · exact ⟨4, by decide, by decide, rfl⟩
    · exact ⟨5, by decide, by decide, rfl⟩
    · exact ⟨6, by decide, by decide, rfl⟩
    · exact ⟨7, by decide, by decide, rfl⟩
  obtain ⟨j, hj, e, e2⟩ := key x h
  have eb : bits8 x = ((List.range 8).map fun i => decide (i = j)).map V.bl := by
    rw [← e, List.map_map]
    rfl
  have fin : ∀ j < 8, ((((List.range 8).map fun i => decide (i = j)).map V.bl).countP (fun z => eqV z (.bl true)) = 1) ∧ (((List.range 8).map fun i => decide (i = j)).map V.bl).all flatV = true ∧ (((List.range 8).map fun i => decide (i = j)).map V.bl)[j]? = some (.bl true) := by
    intro j hj
    have : j = 0 ∨ j = 1 ∨ j = 2 ∨ j = 3 ∨ j = 4 ∨ j = 5 ∨ j = 6 ∨ j = 7 := by omega
    rcases this with rfl | rfl | rfl | rfl | rfl | rfl | rfl | rfl <;> exact ⟨rfl, rfl, rfl⟩
  obtain ⟨f1, f2, f3⟩ := fin j hj
  refine ⟨by rw [eb]; exact f1, by rw [eb]; exact f2, j, hj, by rw [eb]; exact f3, fun m z hm hz => ?_, e2⟩
  rw [eb, List.getElem?_map, List.getElem?_map, List.getElem?_range (by omega)] at hz
  have hz2 := (Option.some.inj hz).symm
  subst hz2
  show ((decide (m = j)) == true) = false
  rw [decide_eq_false (by omega)]
  rfl
theorem len5 {σ : L2.St} (h : σ.length = 5) (v : Option V) : ∃ s0 s2 s3 s4, σ.set 1 v = [s0, v, s2, s3, s4] := by
  match σ, h with
  | [s0, s1, s2, s3, s4], _ => exact ⟨s0, s2, s3, s4, rfl⟩
theorem pure_kind (KC : KindC K) (cls : Value) (d : Option Addr) (H : Hp) (Q : VK) (h : KindE K cls d H Q) (σ : L2.St) (a : Addr) (D : Ends) (hl : σ.length = 5) (_ha : H a = none) (hD : D.rt = Q) :
    tKind8 K w a cls d D (σ.set 1 (some (.ref a))) H := by
  obtain ⟨x, hx, rfl, hk⟩ := h
  have ow : Own H d := by
    rcases hk with ⟨_, _, rfl, _⟩ | ⟨f, dd, n, _, rfl, hdd, _⟩
    · intro dd e; cases e
    · intro dd' e; cases e; exact ⟨_, hdd⟩
  obtain ⟨s0, s2, s3, s4, es⟩ := len5 hl (some (.ref a))
  rw [es]
  unfold tKind8
  walk_at "go"
  refine k_isE KC hx (by decide) ow ?_
  walk_at "go"
  refine k_isE KC hx (by decide) ow ?_
  walk_at "go"
  refine k_isE KC hx (by decide) ow ?_
  walk_at "go"
  refine k_isE KC hx (by decide) ow ?_
  walk_at "go"
  refine ⟨sz1 (by show 4 ≤ 100000; decide), fun p1 n1 => ?_⟩
  have ow1 : Own (upd H p1 (.lst [V.bl (decide (x = "BadLead")), V.bl (decide (x = "BadSpare")), V.bl (decide (x = "BadMove")), V.bl (decide (x = "NoWay"))])) d := ow.new n1
  have h1 : (upd H p1 (.lst [V.bl (decide (x = "BadLead")), V.bl (decide (x = "BadSpare")), V.bl (decide (x = "BadMove")), V.bl (decide (x = "NoWay"))])) p1 = some (.lst [V.bl (decide (x = "BadLead")), V.bl (decide (x = "BadSpare")), V.bl (decide (x = "BadMove")), V.bl (decide (x = "NoWay"))]) := upd_same
  have m1 : Same H (upd H p1 (.lst [V.bl (decide (x = "BadLead")), V.bl (decide (x = "BadSpare")), V.bl (decide (x = "BadMove")), V.bl (decide (x = "NoWay"))])) := fun b o e => by rw [upd_ne (ne_of_none e n1)]; exact e
  generalize upd H p1 (.lst [V.bl (decide (x = "BadLead")), V.bl (decide (x = "BadSpare")), V.bl (decide (x = "BadMove")), V.bl (decide (x = "NoWay"))]) = H1 at *
  walk_at "go"
  refine k_isE KC hx (by decide) ow1 ?_
  walk_at "go"
  refine k_isE KC hx (by decide) ow1 ?_
  walk_at "go"
  refine k_isE KC hx (by decide) ow1 ?_
  walk_at "go"
  refine ⟨sz1 (by show 3 ≤ 100000; decide), fun p2 n2 => ?_⟩
  refine ⟨p1, p2, _, _, rfl, rfl, by rw [upd_ne (ne_of_none h1 n2)]; exact h1, upd_same, sz1 (by show 7 ≤ 100000; decide), fun p3 n3 => ?_⟩
  have m2 : Same H1 (upd H1 p2 (.lst [V.bl (decide (x = "BadWord")), V.bl (decide (x = "BadHouse")), V.bl (decide (x = "BadCall"))])) := fun b o e => by rw [upd_ne (ne_of_none e n2)]; exact e
  generalize upd H1 p2 (.lst [V.bl (decide (x = "BadWord")), V.bl (decide (x = "BadHouse")), V.bl (decide (x = "BadCall"))]) = H2 at *
  have n3' : H p3 = none := by
    cases e : H p3 with
    | none => rfl
    | some o => rw [m2 _ _ (m1 _ _ e)] at n3; cases n3
  have ow3 : Own (upd H2 p3 (.lst ([V.bl (decide (x = "BadLead")), V.bl (decide (x = "BadSpare")), V.bl (decide (x = "BadMove")), V.bl (decide (x = "NoWay"))] ++ [V.bl (decide (x = "BadWord")), V.bl (decide (x = "BadHouse")), V.bl (decide (x = "BadCall"))]))) d := by
    intro dd e
    obtain ⟨fs, z⟩ := ow dd e
    exact ⟨fs, by rw [upd_ne (ne_of_none z n3')]; exact m2 _ _ (m1 _ _ z)⟩
  walk_at "go"
  refine ⟨tyL upd_same, ?_⟩
  walk_at "go"
  refine k_isE KC hx (by decide) ow3 ?_
  walk_at "go"
  refine k_append upd_same (sz2 (by show 7 < 100000; decide)) ?_
  have h4 : (upd (upd H2 p3 (.lst ([V.bl (decide (x = "BadLead")), V.bl (decide (x = "BadSpare")), V.bl (decide (x = "BadMove")), V.bl (decide (x = "NoWay"))] ++ [V.bl (decide (x = "BadWord")), V.bl (decide (x = "BadHouse")), V.bl (decide (x = "BadCall"))]))) p3 (.lst ([V.bl (decide (x = "BadLead")), V.bl (decide (x = "BadSpare")), V.bl (decide (x = "BadMove")), V.bl (decide (x = "NoWay"))] ++ [V.bl (decide (x = "BadWord")), V.bl (decide (x = "BadHouse")), V.bl (decide (x = "BadCall"))] ++ [V.bl (decide (x = "BadText"))]))) p3 = some (.lst (bits8 x)) := upd_same
  have m4 : Same H (upd (upd H2 p3 (.lst ([V.bl (decide (x = "BadLead")), V.bl (decide (x = "BadSpare")), V.bl (decide (x = "BadMove")), V.bl (decide (x = "NoWay"))] ++ [V.bl (decide (x = "BadWord")), V.bl (decide (x = "BadHouse")), V.bl (decide (x = "BadCall"))]))) p3 (.lst ([V.bl (decide (x = "BadLead")), V.bl (decide (x = "BadSpare")), V.bl (decide (x = "BadMove")), V.bl (decide (x = "NoWay"))] ++ [V.bl (decide (x = "BadWord")), V.bl (decide (x = "BadHouse")), V.bl (decide (x = "BadCall"))] ++ [V.bl (decide (x = "BadText"))]))) := fun b o e => by
    rw [upd_ne (ne_of_none e n3'), upd_ne (ne_of_none e n3')]
    exact m2 _ _ (m1 _ _ e)
  generalize upd (upd H2 p3 (.lst ([V.bl (decide (x = "BadLead")), V.bl (decide (x = "BadSpare")), V.bl (decide (x = "BadMove")), V.bl (decide (x = "NoWay"))] ++ [V.bl (decide (x = "BadWord")), V.bl (decide (x = "BadHouse")), V.bl (decide (x = "BadCall"))]))) p3 (.lst ([V.bl (decide (x = "BadLead")), V.bl (decide (x = "BadSpare")), V.bl (decide (x = "BadMove")), V.bl (decide (x = "NoWay"))] ++ [V.bl (decide (x = "BadWord")), V.bl (decide (x = "BadHouse")), V.bl (decide (x = "BadCall"))] ++ [V.bl (decide (x = "BadText"))])) = H4 at *
  walk_at "go"
  refine ⟨sz1 (by show 8 ≤ 100000; decide), fun p5 n5 => ?_⟩
  have h5 : (upd H4 p5 (.lst (kinds8.map V.str))) p5 = some (.lst (kinds8.map V.str)) := upd_same
  have h45 : (upd H4 p5 (.lst (kinds8.map V.str))) p3 = some (.lst (bits8 x)) := by rw [upd_ne (ne_of_none h4 n5)]; exact h4
  have m5 : Same H (upd H4 p5 (.lst (kinds8.map V.str))) := fun b o e => by rw [upd_ne (ne_of_none (m4 _ _ e) n5)]; exact m4 _ _ e
  show gName 3 (V.ref p5) _ (upd H4 p5 (.lst (kinds8.map V.str))) _
  generalize upd H4 p5 (.lst (kinds8.map V.str)) = H5 at *
  have ow5 : Own H5 d := fun dd e => by
    obtain ⟨fs, z⟩ := ow dd e
    exact ⟨fs, m5 _ _ z⟩
  obtain ⟨b1, b2, j, hj, b3, b4, b5⟩ := bits_in hx
  walk_at "go"
  refine ⟨tyL h45, ?_⟩
  walk_at "go"
  refine ⟨p3, bits8 x, .bl true, rfl, rfl, SqL.of h45, rfl, b2, ?_⟩
  rw [b1]
  walk_at "go"
  refine k_nfalse rfl ?_
  walk_at "go"
  refine k_isV KC hx ow5 ?_
  walk_at "go"
  refine L2.iteF ?_
  walk_at "go"
  refine ⟨tyL h45, ?_⟩
  walk_at "go"
  refine ⟨p3, bits8 x, .bl true, j, .bl true, rfl, rfl, SqL.of h45, rfl, b2, b3, rfl, b4, ?_⟩
  refine k_ixL (v := .str x) (SqL.of h5) (atI_nat (j := j) b5) ?_
  walk_at "go"
  refine k_eq rfl ?_
  have de : ∀ y : Str, decide (V.str x = V.str y) = decide (x = y) := fun y => by
    by_cases h : x = y
    · subst h; simp
    · rw [decide_eq_false h, decide_eq_false fun z => h (V.str.inj z)]
  rw [de]
  walk_at "go"
  rcases hk with ⟨x1, x2, rfl, q⟩ | ⟨f, dd, n, ⟨rfl, rfl⟩ | ⟨rfl, rfl⟩, rfl, hdd, q⟩
  · refine k_false x1 ?_
    walk_at "go"
    refine k_eq rfl ?_
    rw [de]
    walk_at "go"
    refine k_false x2 ?_
    walk_at "go"
    rw [hD]
    exact q _ m5
  · refine k_true rfl ?_
    walk_at "go"
    refine ⟨.ref a, rfl, rfl, rfl, dd, _, .int n, rfl, m5 _ _ hdd, rfl, ?_⟩
    walk_at "go"
    refine ⟨sz1 (by show 2 ≤ 100000; decide), fun p6 n6 => ?_⟩
    rw [hD]
    exact q _ p6 (fun b o e => by rw [upd_ne (ne_of_none (m5 _ _ e) n6)]; exact m5 _ _ e) upd_same
  · refine k_false (by decide) ?_
    walk_at "go"
    refine k_eq rfl ?_
    rw [de]
    walk_at "go"
    refine k_true rfl ?_
    walk_at "go"
    refine ⟨.ref a, rfl, rfl, rfl, dd, _, .int n, rfl, m5 _ _ hdd, rfl, ?_⟩
    walk_at "go"
    refine ⟨sz1 (by show 2 ≤ 100000; decide), fun p6 n6 => ?_⟩
    rw [hD]
    exact q _ p6 (fun b o e => by rw [upd_ne (ne_of_none (m5 _ _ e) n6)]; exact m5 _ _ e) upd_same
end
end EX
namespace EX
open PySem PySem.Spec PyProof.Rows L2
/-! ### the reader called with a lambda -/
/-- the name of a law's lambda -/
def qlaw : Str := (("law" : Str) ++ ".<locals>.") ++ "<lambda>"
theorem pe_kind {X : Cx} {x a : Str} {st : Stmt} {Ng : List Str} {f c P : Addr} {fd : FuncData} {k : Nat} {TT : (XK → Hp → VK → Prop) → Hp → VK → Prop} {params : Arguments} {body : Expr} {scope : Scope} {t : XK → TE} {p lpos pos : Pos} {q : Str}
    (F : Fun X.K x x st f fd) (hb : Binds X.K fd [a] []) (kp : PySem.W.keepIn X.K (.ref f) = true) (hm : X.mg x = some (.ref f)) (Sg : FnScope Ng [a] (defScope st)) (h0 : Ng[0]? = some a) (hva : Vis (defScope st) a)
    (hG : ∀ cdg, LamX.GivesTo X Ng x (defScope st) f cdg (defBody st) a (X.env.qual ++ "<lambda>") TT) (hg : Gl X x) (TB : LamX.TabB X.base X.mg c P) (hcode : X.env.code = .ref c) (hq : X.env.qual ++ "<lambda>" = q) (hr : Room (k + 2) X.A)
    (L : LamX.LamS X.env.scope scope) (hdef : defaultsOf params X.env = ([], [])) (hbind : ∀ (q : Str) (cl : List (Str × Addr)) (pm cv ctv : Value), bindArgs (PySem.W.kla_fn "<lambda>" q params body scope cl pm cv ctv) ⟨[], []⟩ = pure [])
    (hbody : ∀ (A : Around) (outer : List Env) (s : Shared) (H : Hp) (E : XK) (f c' : Addr), Room k (A.deeper (LamX.lamEnv X scope s.heap.objs.size f c')) → PE (LamX.lamCx X A outer s H E scope f c') body (t E))
    (hdb : (x == ("__debug__" : Str)) = false := by decide) (hd : (a == ("__debug__" : Str)) = false := by decide) (hcd : (a == ("__classdict__" : Str)) = false := by decide) :
    PE X (.Call (.Name x p) [.Lambda params body scope lpos] [] pos) (LamX.tLam [(P, q)] TT t) := by
  subst hq
  obtain ⟨oc, od, kV, doc, pm, an, cdv, ct, osl, rfl, lk, hcg⟩ := F.ex
  exact LamX.pe_lamcall hg hm kp lk hcg hb Sg h0 hva (hG cdv) TB hcode (List.mem_singleton.mpr rfl) (fun p hp _ => by rw [List.mem_singleton.mp hp]) hr L hdef hbind hbody hdb hd hcd
/-- a def whose code object is known -/
theorem okC {P : Program} {w : World} {K : PySem.W.Frag} {mg : Str → Option Value} {base : Heap} {x qual : Str} {st : Stmt} {f c : Addr} {N ps : List Str} {k : Nat} {sp : Sp} {oc kV doc pm ct : Value} {od an : Option Addr} {osl : Array (Option Value)}
    (lk : K.lookup f = some ⟨oc, od, .func (PySem.W.fnOf x qual (defArgs st) (defBody st) (defScope st) .none kV doc pm an (.ref c) ct), osl⟩) (hcd : PySem.W.codeIn K (.ref c) qual = true) (S : FnScope N ps (defScope st)) (len : ∀ vs H Q E, sp vs H Q E → vs.length = ps.length)
    (hbody : ∀ (A : Around) (outer : List Env) (s : Shared) (H : Hp) (vs : List V) (Q : VK) (E : XK), Room k (A.deeper (envOfC qual (defScope st) s.heap.objs.size f (.ref c))) → sp vs H Q E →
      ∃ t, PSs (cxOf CX0 P w K mg base N qual (defScope st) f (.ref c) A outer s H E).nox (defBody st) t ∧ t { nx := fun _ H' => Q .non H', rt := Q } (start N vs) H) :
    FnOk P w K mg base CX0 (k + 1) f (PySem.W.fnOf x qual (defArgs st) (defBody st) (defScope st) .none kV doc pm an (.ref c) ct) ps sp := by
  refine fn_of lk hcd S len fun A outer s H vs Q E hr hsp => ?_
  obtain ⟨t, h, q⟩ := hbody A outer s H vs Q E hr hsp
  exact ⟨t, h.nox, q⟩
end EX
namespace EX
open PySem PySem.Spec PySem.W PyProof.Rows L2 PySem.BX
/-! ### facts of the head as truth values -/
def badCls (K : Frag) (C : Addr) : Bool := match K.lookup C with
  | some ⟨.type t, _, .cls cd, ⟨sl⟩⟩ => (match cd.mro, sl with
    | .ref C1 :: bm, [_, _, _, _, some (.builtin n), _] => decide (t = "type") && (decide (C1 = C) && (decide (n = "ValueError.__new__") && (cd.hasDict && (!cd.hasDel && PySem.HandSPX.refsVE bm))))
    | _, _ => false)
  | _ => false
theorem badCls_ok {K : Frag} {C : Addr} (h : badCls K C = true) : ∃ nm q N bs bm sn sub ab col dd k0 k1 k2 k3 k5, K.lookup C = some (excClassObj nm q C N bs bm true sn sub ab col dd k0 k1 k2 k3 k5 "ValueError.__new__") ∧ PySem.HandSPX.refsVE bm = true := by
  unfold badCls at h
  split at h
  · rename_i t dd cd sl e
    split at h
    · rename_i C1 bm k0 k1 k2 k3 n k5 hm
      obtain ⟨h1, h⟩ := He.ba h
      obtain ⟨h2, h⟩ := He.ba h
      obtain ⟨h3, h⟩ := He.ba h
      obtain ⟨h4, h⟩ := He.ba h
      obtain ⟨h5, h6⟩ := He.ba h
      obtain ⟨nm, bs, mro, ns, qn, hd, sn, sub, ab, col, del⟩ := cd
      have e1 := of_decide_eq_true h1
      have e2 := of_decide_eq_true h2
      have e3 := of_decide_eq_true h3
      dsimp only at hm h4 h5
      subst e1 e2 e3 hm h4
      have e5 : del = false := by
        cases del
        · rfl
        · cases h5
      subst e5
      exact ⟨_, _, _, _, _, _, _, _, _, _, _, _, _, _, _, e, h6⟩
    · cases h
  · cases h
/-- a class with an __init__ of the form of BX -/
structure InitD where
  x : Str
  f : Str
  pre : Str
  post : Str
  P : Ps
  q : Str
abbrev InitV : Type := Option (Str × Str × Arguments × FuncBody × Scope × Addr × Addr)
def initV (K : Frag) (x : Str) : InitV := match K.lookup (He.ma K (He.ga K x) "__init__") with
  | some ⟨_, _, .func fd, _⟩ => some (fd.name, fd.qualname, fd.params, fd.body, fd.scope, fd.globals, fd.builtins)
  | _ => none
def InitD.val (d : InitD) : InitV := some ("__init__", d.q, iA d.f d.P, .stmts (iB d.f d.pre d.post d.P), iS d.f, mainGlobals, builtinsNs)
def cellB (K : Frag) (cc C : Addr) : Bool := match K.lookup cc with
  | some ⟨_, _, .cell (some v), _⟩ => decide (v = .ref C)
  | _ => false
theorem cellB_ok {K : Frag} {cc C : Addr} (h : cellB K cc C = true) : ∃ cl cld csl, K.lookup cc = some ⟨cl, cld, .cell (some (.ref C)), csl⟩ := by
  unfold cellB at h
  split at h
  · rename_i cl cld v csl e
    rw [of_decide_eq_true h] at e
    exact ⟨_, _, _, e⟩
  · cases h
def fileB (K : Frag) (file : Str) (cda : Addr) : Bool := match K.lookup cda with
  | some ⟨_, _, .fields vs, _⟩ => (match (vs[2]? : Option Value) with
    | some (.str z _) => file == z
    | _ => false)
  | _ => false
theorem fileB_ok {K : Frag} {f : Str} {cda : Addr} (h : fileB K f cda = true) : ∃ ccl cdd vs ccs z tf, K.lookup cda = some ⟨ccl, cdd, .fields vs, ccs⟩ ∧ vs[2]? = some (.str z tf) ∧ (f == z) = true := by
  unfold fileB at h
  split at h
  · rename_i ccl cdd vs ccs e
    split at h
    · rename_i z tf e2
      exact ⟨_, _, _, _, _, _, e, e2, h⟩
    · cases h
  · cases h
def initB (K : Frag) (file : Str) (d : InitD) : Bool := match K.lookup (He.ma K (He.ga K d.x) "__init__") with
  | some ⟨_, _, .func fd, _⟩ => (match fd.closure, fd.code with
    | [(n, cc)], .ref cda => decide (n = "__class__") && (decide (fd.defaults = .none) && (decide (fd.kwdefaults = .none) && (codeIn K (.ref cda) d.q && (cellB K cc (He.ga K d.x) && fileB K file cda))))
    | _, _ => false)
  | _ => false
def badB (K : Frag) (prog : Program) (d : InitD) : Bool :=
  badCls K (He.ga K d.x) && (He.eqO (findIn K (.ref (He.ga K d.x)) "__setattr__") (some (some (.builtin "object.__setattr__"))) && (He.eqO (findIn K (.ref (He.ga K d.x)) d.f) (some none) &&
  (He.eqO (findIn K (.ref (He.ga K d.x)) "__init__") (some (some (.ref (He.ma K (He.ga K d.x) "__init__")))) && (decide (typeIn K (.ref (He.ma K (He.ga K d.x) "__init__")) = some (.type "function")) && (keepIn K (.ref (He.ga K d.x)) &&
  (decide (subIn K (.ref (He.ga K d.x)) (.type "BaseException") = some true) && (decide (subIn K (.ref (He.ga K d.x)) (.type "ValueError") = some true) && (decide (typeIn K (.ref (He.ga K d.x)) = some (.type "type")) && (decide (mroIn K (He.ga K d.x) (.ref (He.ga K d.x)) = some true) &&
  (He.eqO (ks_superIn K (He.ga K d.x) (He.ga K d.x) "__init__") (some (some (.builtin "ValueError.__init__"))) && (He.eqO (nsIn K cStatics "thirdparty.any") (some none) && (He.eqO (nsIn K mainGlobals "super") (some none) &&
  (!(prog.main.scope.names.lookup ("super" : Str)).isSome && (decide (d.f = "number" ∨ d.f = "place") && (initB K prog.main.file d && (decide (d.pre.length ≤ 1000) && (decide (d.post.length ≤ 1000) && (d.P.p5.endLine == d.P.pb.line))))))))))))))))))
theorem badB_ok {K : Frag} {prog : Program} {d : InitD} (h : badB K prog d = true) (e : initV K d.x = d.val) : BadTxt K prog (He.ga K d.x) (He.ma K (He.ga K d.x) "__init__") d.f := by
  unfold badB at h
  obtain ⟨h1, h⟩ := He.ba h
  obtain ⟨h2, h⟩ := He.ba h
  obtain ⟨h3, h⟩ := He.ba h
  obtain ⟨h4, h⟩ := He.ba h
  obtain ⟨h5, h⟩ := He.ba h
  obtain ⟨h6, h⟩ := He.ba h
  obtain ⟨h7, h⟩ := He.ba h
  obtain ⟨h8, h⟩ := He.ba h
  obtain ⟨h9, h⟩ := He.ba h
  obtain ⟨h10, h⟩ := He.ba h
  obtain ⟨h11, h⟩ := He.ba h
  obtain ⟨h12, h⟩ := He.ba h
  obtain ⟨h13, h⟩ := He.ba h
  obtain ⟨h14, h⟩ := He.ba h
  obtain ⟨h15, h⟩ := He.ba h
  obtain ⟨h16, h⟩ := He.ba h
  obtain ⟨h17, h⟩ := He.ba h
  obtain ⟨h18, h19⟩ := He.ba h
  refine ⟨badCls_ok h1, He.eqO_ok h2, He.eqO_ok h3, He.eqO_ok h4, of_decide_eq_true h5, h6, of_decide_eq_true h7, of_decide_eq_true h8, of_decide_eq_true h9, of_decide_eq_true h10, He.eqO_ok h11, He.eqO_ok h12, He.eqO_ok h13, ?_, of_decide_eq_true h15, ?_⟩
  · cases q : (prog.main.scope.names.lookup ("super" : Str)).isSome
    · rfl
    · rw [q] at h14; cases h14
  · unfold initV at e
    unfold initB at h16
    cases q : K.lookup (He.ma K (He.ga K d.x) "__init__") with
    | none => rw [q] at e; cases e
    | some o =>
      obtain ⟨oc, od, dt, osl⟩ := o
      rw [q] at e h16
      cases dt with
      | func fd =>
        obtain ⟨n1, n2, n3, n4, n5, n6, n7, n8, n9, n10, n11, n12, n13, n14, n15⟩ := fd
        have e2 : (some (n1, n2, n3, n4, n5, n6, n15) : InitV) = some (("__init__" : Str), d.q, iA d.f d.P, FuncBody.stmts (iB d.f d.pre d.post d.P), iS d.f, mainGlobals, builtinsNs) := e
        simp only [Option.some.injEq, Prod.mk.injEq] at e2
        obtain ⟨z1, z2, z3, z4, z5, z6, z7⟩ := e2
        subst z1 z2 z3 z4 z5 z6 z7
        dsimp only at h16
        split at h16
        · rename_i n cc cda
          obtain ⟨g1, g⟩ := He.ba h16
          obtain ⟨g2, g⟩ := He.ba g
          obtain ⟨g3, g⟩ := He.ba g
          obtain ⟨g4, g⟩ := He.ba g
          obtain ⟨g5, g6⟩ := He.ba g
          have y1 := of_decide_eq_true g1
          have y2 := of_decide_eq_true g2
          have y3 := of_decide_eq_true g3
          subst y1 y2 y3
          obtain ⟨cl, cld, csl, k1⟩ := cellB_ok g5
          obtain ⟨ccl, cdd, vs, ccs, z, tf, k2, k3, k4⟩ := fileB_ok g6
          exact ⟨oc, od, _, _, _, _, osl, d.P, d.q, d.pre, d.post, cc, cda, cl, cld, csl, ccl, cdd, vs, ccs, z, tf, rfl, g4, of_decide_eq_true h17, of_decide_eq_true h18, h19, k1, k2, k3, k4⟩
        · cases h16
      | _ => cases e
/-! ### the reader's facts -/
def excB (K : Frag) (D : Addr) : Bool := He.eqO (findIn K (.ref D) "__getattribute__") (some (some (.builtin "BaseException.__getattribute__"))) && (He.eqO (findIn K (.ref D) "__getattr__") (some none) && (decide (subIn K (.ref D) (.type "BaseException") = some true) && (hasDictIn K D &&
  (He.eqO (findIn K (.ref D) "__class__") (some (some (.builtin "object.__class__"))) && (He.eqO (specialIn K (.builtin "object.__class__") "__get__") (some (some (.builtin "getset_descriptor.__get__"))) && (decide (takesIn K (.builtin "object.__class__") = some true) && decide (mroIn K D (.type "object") = some true)))))))
theorem excB_ok {K : Frag} {D : Addr} (h : excB K D = true) : ExcC K D := by
  obtain ⟨h1, h⟩ := He.ba h
  obtain ⟨h2, h⟩ := He.ba h
  obtain ⟨h3, h⟩ := He.ba h
  obtain ⟨h4, h⟩ := He.ba h
  obtain ⟨h5, h⟩ := He.ba h
  obtain ⟨h6, h⟩ := He.ba h
  obtain ⟨h7, h8⟩ := He.ba h
  exact ⟨He.eqO_ok h1, He.eqO_ok h2, of_decide_eq_true h3, h4, He.eqO_ok h5, He.eqO_ok h6, of_decide_eq_true h7, of_decide_eq_true h8⟩
def kindB (K : Frag) : Bool := kinds8.all (fun x => excB K (He.ga K x) && (decide (exmOne K (.ref (He.ga K x)) (.ref (He.ga K "MoveError")) = some true) && (decide (kitOne K (.ref (He.ga K x)) (.type "ValueError") = some true) && kinds8.all fun y => decide (kitOne K (.ref (He.ga K x)) (.ref (He.ga K y)) = some (decide (x = y)))))) &&
  (xfB K (He.ga K "BadMove") && (xfB K (He.ga K "BadText") && (He.eqO (findIn K (.ref (He.ga K "BadMove")) "number") (some none) && He.eqO (findIn K (.ref (He.ga K "BadText")) "place") (some none))))
theorem kindB_ok {K : Frag} (h : kindB K = true) : KindC K := by
  obtain ⟨h0, h⟩ := He.ba h
  obtain ⟨h1, h⟩ := He.ba h
  obtain ⟨h2, h⟩ := He.ba h
  obtain ⟨h3, h4⟩ := He.ba h
  have a := List.all_eq_true.mp h0
  refine ⟨fun x hx => excB_ok (He.ba (a x hx)).1, fun x hx => of_decide_eq_true (He.ba (He.ba (a x hx)).2).1, fun x hx y hy => ?_, fun x hx => of_decide_eq_true (He.ba (He.ba (He.ba (a x hx)).2).2).1, xfB_ok h1, xfB_ok h2, He.eqO_ok h3, He.eqO_ok h4⟩
  exact of_decide_eq_true (List.all_eq_true.mp (He.ba (He.ba (He.ba (a x hx)).2).2).2 y hy)
def plainB (K : Frag) (x : Str) : Bool := excIn K (He.ga K x) [.type "ValueError", .type "Exception", .type "BaseException", .type "object"] "ValueError.__new__" && (keepIn K (.ref (He.ga K x)) && (decide (subIn K (.ref (He.ga K x)) (.type "BaseException") = some true) && decide (typeIn K (.ref (He.ga K x)) = some (.type "type"))))
theorem plainB_ok {K : Frag} {x : Str} (h : plainB K x = true) : PlainX K x := by
  obtain ⟨h1, h⟩ := He.ba h
  obtain ⟨h2, h⟩ := He.ba h
  obtain ⟨h3, h4⟩ := He.ba h
  exact ⟨h1, h2, of_decide_eq_true h3, of_decide_eq_true h4⟩
/-! ### the Hook: facts, defs, the two classes' __init__, the law's table -/
def frZ (g : Addr → Option Obj) (n : Nat) : Frag := He.frT g (cStatics :: He.asD g n)
abbrev AlZ : Type := He.Al × Bool × List InitV
def obsZ (n : Nat) (fa : List He.Fa) (fn : List He.FnD) (tf : List He.Defn) (bad : List InitD) (ex : Frag → Bool) (g : Addr → Option Obj) : AlZ :=
  (He.obsE fa fn (frZ g n), ex (frZ g n) && He.tabsB g tf (frZ g n), bad.map fun d => initV (frZ g n) d.x)
def valZ (fn : List He.FnD) (bad : List InitD) : AlZ := (He.valE fn, true, bad.map InitD.val)
structure SaysZ (fa : List He.Fa) (fn : List He.FnD) (tf : List He.Defn) (bad : List InitD) (ex : Frag → Bool) (h : Heap) (K : Frag) : Prop where
  t : He.SaysE fa fn K
  more : ex K = true
  init : bad.map (fun d => initV K d.x) = bad.map InitD.val
  hd : ∀ p ∈ tf, codeHdIn K (He.cT K p).1 (He.cT K p).2 = true
  out : ∀ p ∈ tf, K.lookup (He.cT K p).2 = none
  empty : ∀ p ∈ tf, h.get? (He.cT K p).2 = some { cls := .none, data := .fields #[] }
theorem saysZ_of {n : Nat} {fa : List He.Fa} {fn : List He.FnD} {tf : List He.Defn} {bad : List InitD} {ex : Frag → Bool} {h : Heap} (e : obsZ n fa fn tf bad ex h.get? = valZ fn bad) : SaysZ fa fn tf bad ex h (frZ h.get? n) := by
  have e1 : He.obsE fa fn (frZ h.get? n) = He.valE fn := congrArg (fun z : AlZ => z.1) e
  have e2 : (ex (frZ h.get? n) && He.tabsB h.get? tf (frZ h.get? n)) = true := congrArg (fun z : AlZ => z.2.1) e
  have e3 : bad.map (fun d => initV (frZ h.get? n) d.x) = bad.map InitD.val := congrArg (fun z : AlZ => z.2.2) e
  obtain ⟨h1, h2⟩ := He.ba e2
  have key : ∀ p ∈ tf, codeHdIn (frZ h.get? n) (He.cT (frZ h.get? n) p).1 (He.cT (frZ h.get? n) p).2 = true ∧ ∃ o, h.get? (He.cT (frZ h.get? n) p).2 = some o ∧ He.emptyTab o = true := fun p hp => by
    obtain ⟨h3, h4⟩ := He.ba (List.all_eq_true.mp h2 p hp)
    refine ⟨h3, ?_⟩
    cases q : h.get? (He.cT (frZ h.get? n) p).2 with
    | none => rw [q] at h4; cases h4
    | some o => rw [q] at h4; exact ⟨o, rfl, h4⟩
  refine ⟨e1, h1, e3, fun p hp => (key p hp).1, fun p hp => ?_, fun p hp => ?_⟩
  · obtain ⟨_, o, q, z⟩ := key p hp
    exact He.frT_none q z
  · obtain ⟨_, o, q, z⟩ := key p hp
    rw [q, He.emptyTab_eq z]
def hookZ (n : Nat) (fa : List He.Fa) (fn : List He.FnD) (tf : List He.Defn) (bad : List InitD) (ex : Frag → Bool) : Hook where
  α := AlZ
  obs := fun s => obsZ n fa fn tf bad ex s.heap.get?
  val := fun _ => valZ fn bad
  says := fun _ h => ∃ K : Frag, K.In h ∧ SaysZ fa fn tf bad ex h K
  of := fun _ _ e => ⟨_, He.frT_in, saysZ_of e⟩
  keeps := fun _ _ _ ⟨K, hK, c⟩ k => ⟨K, Frag.In.keeps hK k, ⟨c.t, c.more, c.init, c.hd, c.out, fun p hp => k _ _ (c.empty p hp)⟩⟩
theorem obsZ_eq {n : Nat} {fa : List He.Fa} {fn : List He.FnD} {tf : List He.Defn} {bad : List InitD} {ex : Frag → Bool} {g : Addr → Option Obj} {s : Shared} (h : ∀ a, g a = s.heap.get? a) : obsZ n fa fn tf bad ex g = (hookZ n fa fn tf bad ex).obs s := by
  have e : g = s.heap.get? := funext h
  rw [e] <;> rfl
/-- a def of the module, of no default -/
theorem fun_of {fa : List He.Fa} {fn : List He.FnD} {K : Frag} (c : He.SaysE fa fn K) {x : Str} {st : Stmt} (i : Nat) (h : fn[i]? = some ⟨(x, none), x, x, defArgs st, defBody st, defScope st⟩) (k : keepIn K (.ref (He.ga K x)) = true) : ∃ fd, Fun K x x st (He.ga K x) fd ∧ fd.defaults = .none := by
  obtain ⟨oc, od, osl, kV, doc, pm, an, cdv, ct, lk, hcd⟩ := c.def_ i h
  exact ⟨_, ⟨⟨oc, od, kV, doc, pm, an, cdv, ct, osl, rfl, lk, hcd⟩, k⟩, rfl⟩
/-- the law's own def: its code object and its table -/
theorem law_of {fa : List He.Fa} {fn : List He.FnD} {K : Frag} (c : He.SaysE fa fn K) {x : Str} {st : Stmt} (i : Nat) (h : fn[i]? = some ⟨(x, none), x, x, defArgs st, defBody st, defScope st⟩) :
    ∃ (oc : Value) (od : Option Addr) (osl : Array (Option Value)) (kV doc pm : Value) (an : Option Addr) (cc : Addr) (ct : Value), K.lookup (He.ga K x) = some ⟨oc, od, .func (fnOf x x (defArgs st) (defBody st) (defScope st) .none kV doc pm an (.ref cc) ct), osl⟩ ∧ codeIn K (.ref cc) x = true ∧ (He.cT K (x, none)).1 = cc := by
  obtain ⟨oc, od, osl, kV, doc, pm, an, cdv, ct, lk, hcd⟩ := c.def_ i h
  obtain ⟨cc, e⟩ := He.codeIn_ref hcd
  subst e
  exact ⟨oc, od, osl, kV, doc, pm, an, cc, ct, lk, hcd, He.codeOf_eq (p := (x, none)) lk rfl⟩
end EX
namespace EX
open PySem PySem.Spec PyProof.Rows L2 LamX
/-! ### a lambda is made: only its maker's own table is written -/
structure ButP (D : Addr) (H H1 : Hp) : Prop where
  st : ∀ b o, b ≠ D → H b = some o → H1 b = some o
  no : ∀ b, H1 b = none → H b = none
theorem ButP.rfl' {D : Addr} (H : Hp) : ButP D H H := ⟨fun _ _ _ e => e, fun _ e => e⟩
section
variable {X : Cx} {pins : List (Addr × Obj)} {σ : L2.St} {H : Hp} {s : Shared}
theorem lam_new {q : Str} {cc D : Addr} {params : Arguments} {body : Expr} {scope : Scope} {pos : Pos} {E Q : Value → Shared → Prop}
    (J : Inv X pins σ H s) (B : TabB X.base X.mg cc D) (hcc : X.env.code = .ref cc) (hq : X.env.qual ++ "<lambda>" = q) (tb : TabS H D q)
    (nd : defaultsOf params X.env = ([], [])) (fr : ∀ y ∈ scope.names, y.2 = .free → ∃ c, X.env.cells.lookup y.1 = some c)
    (k : ∀ (f c2 : Addr) (pm ctv : Value) (H1 : Hp) (s1 : Shared), Inv X pins σ H1 s1 → ButP D H H1 → TabS H1 D q →
      s1.heap.get? f = some (PySem.W.kla_obj "<lambda>" q params body scope (cloFrom X.env.cells scope.names []) pm c2 ctv) → H1 f = none → f ∉ frs X.stack → H1 c2 = some (CodeO c2 q) → Q (.ref f) s1) :
    wpAny (model X.prog X.w) X.A (eval (.Lambda params body scope pos) X.env) Q E s := by
  subst hq
  obtain ⟨vs, hD, tr, am⟩ := tb
  have gD : s.heap.get? D = some { cls := .none, data := .fields vs } := J.hok D _ hD
  have bD : s.heap.BuiltinsAt X.mg D := B.bm.keeps J.bk
  have far : ∀ a : Addr, s.heap.objs.size ≤ a → a ∉ frs X.stack := fun a ha m => by
    rcases List.mem_cons.mp (J.stkSub _ m) with z | z
    · have y := J.lt
      rw [← z] at y
      exact absurd (Nat.lt_of_lt_of_le y ha) (Nat.lt_irrefl _)
    · exact J.nofs ha z
  refine PySem.W.kla_eval nd ?_
  cases look : codeAmong pos vs.toList with
  | some cv =>
    obtain ⟨c2, rfl, at2⟩ := am pos cv look
    refine PySem.W.kla_makeFunctionHit (mg := X.mg) (c := cc) (P := D) (ps := vs) (closure_ok fr) J.ok.glob (J.mod.glob.keeps J.bk) hcc (B.code.keeps J.bk) gD tr look bD fun ctv h1 tk kx ks => ?_
    exact k h1.objs.size c2 ((X.mg "__name__").getD .none) ctv H _ (J.kept fun b o e => Heap.get?_push_of_some _ (kx b o e)) (ButP.rfl' H) ⟨vs, hD, tr, am⟩ (Heap.get?_push_size _ rfl) (J.hok.fresh ks) (far _ ks) at2
  | none =>
    refine PySem.W.kla_makeFunction (mg := X.mg) (c := cc) (P := D) (ps := vs) (closure_ok fr) J.ok.glob (J.mod.glob.keeps J.bk) hcc (B.code.keeps J.bk) gD tr look B.gP bD fun c2 ctv h1 tk kx ge lt rec tab => ?_
    obtain ⟨c3, oc, ws, t, e3, g3, d3, n3⟩ := rec
    cases e3
    have room : s.heap.objs.size ≤ h1.objs.size := by omega
    have none2 : H c2 = none := J.hok.fresh ge
    have ne2 : D ≠ c2 := ne_of_none hD none2
    have J1 := inv_table (t' := tk) (more := #[rawInt pos.line, rawInt pos.col, .ref c2]) (h' := h1.push (PySem.W.kla_obj "<lambda>" (X.env.qual ++ "<lambda>") params body scope (cloFrom X.env.cells scope.names []) ((X.mg "__name__").getD .none) c2 ctv)) J hD
      (fun b o hb e => Heap.get?_push_of_some _ (kx b o hb e)) (Heap.get?_push_of_some _ tab) ge ⟨oc, ws, t, Heap.get?_push_of_some _ g3, d3, n3⟩
    have but : ButP D H (upd (upd H D (.tbl (vs ++ #[rawInt pos.line, rawInt pos.col, .ref c2]))) c2 (CodeO c2 (X.env.qual ++ "<lambda>"))) := by
      refine ⟨fun b o hb e => ?_, fun b e => ?_⟩
      · rw [upd_ne (ne_of_none e none2), upd_ne hb]
        exact e
      · by_cases z : b = c2
        · rw [z]; exact none2
        · rw [upd_ne z] at e
          by_cases y : b = D
          · rw [y, upd_same] at e; cases e
          · rw [upd_ne y] at e; exact e
    have lst : (vs ++ #[rawInt pos.line, rawInt pos.col, .ref c2]).toList = vs.toList ++ [rawInt pos.line, rawInt pos.col, .ref c2] := by simp
    refine k h1.objs.size c2 ((X.mg "__name__").getD .none) ctv _ _ J1 but ⟨_, by rw [upd_ne ne2, upd_same], by rw [lst]; exact PySem.TriplesOk_snoc _ _ _ _ tr, fun p cv h => ?_⟩ (Heap.get?_push_size _ rfl) ?_ (far _ room) upd_same
    · rw [lst] at h
      rcases among_app _ tr h with h | rfl
      · obtain ⟨c4, e4, a4⟩ := am p cv h
        refine ⟨c4, e4, ?_⟩
        by_cases z : c4 = D
        · rw [z, hD] at a4
          exact absurd (Option.some.inj a4).symm (codeO_ne _)
        · exact but.st _ _ z a4
      · exact ⟨c2, rfl, upd_same⟩
    · rw [upd_ne (Nat.ne_of_gt lt), upd_ne (Nat.ne_of_gt (Nat.lt_of_lt_of_le (Heap.lt_size gD) room))]
      exact J.hok.fresh room
/-- the reader called with a lambda, what it leaves told exactly -/
def tLamP (D : Addr) (q : Str) (TT : (XK → Hp → VK → Prop) → Hp → VK → Prop) (t : XK → TE) : TE := fun σ H Q => TabS H D q ∧ ∀ H1, ButP D H H1 → TabS H1 D q → TT (fun E H' Q' => t E σ H' Q') H1 Q
theorem pe_kindP {x a : Str} {st : Stmt} {Ng : List Str} {f c D : Addr} {fd : FuncData} {k : Nat} {TT : (XK → Hp → VK → Prop) → Hp → VK → Prop} {params : Arguments} {body : Expr} {scope : Scope} {t : XK → TE} {p lpos pos : Pos} {q : Str}
    (F : Fun X.K x x st f fd) (hb : Binds X.K fd [a] []) (kp : PySem.W.keepIn X.K (.ref f) = true) (hm : X.mg x = some (.ref f)) (Sg : FnScope Ng [a] (defScope st)) (h0 : Ng[0]? = some a) (hva : Vis (defScope st) a)
    (hG : ∀ cdg, LamX.GivesTo X Ng x (defScope st) f cdg (defBody st) a (X.env.qual ++ "<lambda>") TT) (hg : Gl X x) (TB : LamX.TabB X.base X.mg c D) (hcode : X.env.code = .ref c) (hq : X.env.qual ++ "<lambda>" = q) (hr : Room (k + 2) X.A)
    (L : LamX.LamS X.env.scope scope) (hdef : defaultsOf params X.env = ([], [])) (hbind : ∀ (q : Str) (cl : List (Str × Addr)) (pm cv ctv : Value), bindArgs (PySem.W.kla_fn "<lambda>" q params body scope cl pm cv ctv) ⟨[], []⟩ = pure [])
    (hbody : ∀ (A : Around) (outer : List Env) (s : Shared) (H : Hp) (E : XK) (f c' : Addr), Room k (A.deeper (LamX.lamEnv X scope s.heap.objs.size f c')) → PE (LamX.lamCx X A outer s H E scope f c') body (t E))
    (hdb : (x == ("__debug__" : Str)) = false := by decide) (hd : (a == ("__debug__" : Str)) = false := by decide) (hcd : (a == ("__classdict__" : Str)) = false := by decide) :
    PE X (.Call (.Name x p) [.Lambda params body scope lpos] [] pos) (tLamP D q TT t) := by
  subst hq
  obtain ⟨oc, od, kV, doc, pm, an, cdv, ct, osl, rfl, lk, hcg⟩ := F.ex
  refine ⟨fun pins s σ H Q J ⟨tb, h⟩ => wpAny_Call_Name_kw (ld_glob J hg hm (PySem.W.callWith_K (h₀ := X.base) J.ok.mod.kin kp ?_ (by rfl) (by rfl)) hdb)⟩
  show wpAny _ _ (spliced ((false, eval (.Lambda params body scope lpos) X.env) :: backTo pos (starEach [] X.env))) _ _ s
  refine Calls.spliced_cons (lam_new J TB hcode rfl tb hdef (L.has J.ok) fun f2 c2 pm2 ctv H1 s1 J1 but tb1 g2 n2 fr2 co => Calls.spliced_nil ⟨J1.kIn, ?_⟩)
  have run : codeAny (model X.prog X.w) X.A (.call (.ref f) ⟨[.ref f2], []⟩) (CR C8.CX0 X.stack X.prog X.w H1 s1 Q C8.E0) s1 :=
    run_ofS (N := Ng) (ps := [a]) (us := [.ref f2]) (vs := [.ref f2]) lk hcg Sg hr J1.env0 (hb s1 [.ref f2] J1.kIn rfl) (.cons rfl .nil) rfl fun hr2 => by
      obtain ⟨t2, a2, b2⟩ := hG cdv f2 c2 s1 H1 Q (fun E H' Q' => t E σ H' Q') (fun W pn xe E p1 p2 tk hW => pe_act (i := 0) J1 L g2 n2 fr2 (hbind _ _ _ _ _) tk hW hr2 (fun A outer s H hr3 => hbody A outer s H E f2 c2 hr3) h0 hva hd hcd) co (h H1 but tb1)
      exact ⟨t2, a2.nox, b2⟩
  refine wpAny_call (codeAny_mono run fun r s2 z => ?_)
  cases r with
  | error e => exact False.elim z
  | ok fl => cases fl with
    | ret u => exact J1.after z
    | _ => exact False.elim z
end
theorem cal_none {P : Program} {w : World} {K : PySem.W.Frag} {mg : Str → Option Value} {base : Heap} {x : Str} {st : Stmt} {f : Addr} {fd : FuncData} {ps : List Str} {sp : Sp} (F : Fun K x x st f fd) (hb : Binds K fd ps []) (hm : mg x = some (.ref f)) (no : ∀ vs H Q E, ¬ sp vs H Q E) : C8.Cal P w K mg base 0 x sp [] :=
  ⟨f, fd, ps, [], ⟨fun vs H Q E h => absurd h (no vs H Q E), fun A outer s H args us vs Q E _ _ _ _ h => absurd h (no vs H Q E)⟩, hm, F.kp, hb, .nil⟩
end EX
namespace CX
open PySem PySem.Spec PyProof.Rows L2 MV
theorem k_iEnum {K : PySem.W.Frag} {σ : L2.St} {H : Hp} {A : TA} {R : It → Hp → Prop} (q : A σ H fun vs H1 => ∃ a xs, vs = [.ref a] ∧ SqL K H1 a xs ∧ R (Ite K a) H1) : iEnum K A σ H R := q
theorem k_callS {σ : L2.St} {H : Hp} {Q : VK} {A : TA} {sp : Sp} {E : L2.St → XK} (q : A σ H fun vs H1 => sp vs H1 Q (E σ)) : tCallS sp E A σ H Q := q
local macro_rules | `(tactic| walk_at "go") => `(tactic| repeat (first
  | with_reducible refine MV.k_seq ?_ | with_reducible refine MV.k_asg ?_ | with_reducible refine MV.k_name ?_ | with_reducible refine MV.k_op ?_ | ((with_reducible apply MV.k_var); exact rfl) | with_reducible refine MV.k_c ?_
  | with_reducible refine MV.k_add ?_ | with_reducible refine MV.k_sub ?_ | with_reducible refine MV.k_lt ?_ | with_reducible refine MV.k_le ?_ | with_reducible refine MV.k_gt ?_ | with_reducible refine MV.k_ge ?_ | with_reducible refine MV.k_eqI ?_ | with_reducible refine MV.k_neI ?_
  | with_reducible refine MV.k_test ?_ | with_reducible refine MV.k_B ?_ | with_reducible refine MV.k_bl ?_ | with_reducible refine MV.k_blV ?_ | with_reducible refine MV.k_and ?_ | with_reducible refine MV.k_or ?_ | with_reducible refine MV.k_not ?_ | with_reducible refine MV.k_andV ?_ | with_reducible refine MV.k_orV ?_ | with_reducible refine MV.k_notV ?_
  | with_reducible refine MV.k_if ?_ | with_reducible refine MV.k_tru ?_ | with_reducible refine MV.k_chain ?_ | with_reducible refine MV.k_next ?_ | with_reducible refine MV.k_drop ?_ | with_reducible refine MV.k_ret ?_ | with_reducible refine MV.k_retN ?_ | with_reducible refine MV.k_ifS ?_ | with_reducible refine MV.k_brk ?_ | with_reducible refine MV.k_cont ?_
  | with_reducible refine MV.k_nil ?_ | with_reducible refine MV.k_cons ?_ | with_reducible refine MV.k_tup ?_ | with_reducible refine MV.k_lst ?_ | with_reducible refine MV.k_cb ?_ | with_reducible refine MV.k_call ?_ | with_reducible refine MV.k_gnil ?_ | with_reducible refine MV.k_gcons ?_ | with_reducible refine MV.k_gsub ?_
  | with_reducible refine MV.k_bm ?_ | with_reducible refine MV.k_bm0 ?_ | with_reducible refine MV.k_un ?_ | with_reducible refine MV.k_neg ?_ | with_reducible refine MV.k_isN ?_ | with_reducible refine MV.k_notN ?_ | with_reducible refine L2.iteT ?_ | with_reducible refine L2.iteF ?_
  | with_reducible refine MV.k_iList ?_ | with_reducible refine MV.k_iTup ?_ | with_reducible refine MV.k_iRng1 ?_ | with_reducible refine MV.k_lc ?_ | with_reducible refine MV.k_for ?_
  | with_reducible refine MV.k_yes ?_ | with_reducible refine MV.k_dput ?_ | with_reducible refine MV.k_dget ?_ | with_reducible refine MV.k_dget1 ?_ | with_reducible refine MV.k_sl ?_ | with_reducible refine MV.k_nopart ?_ | with_reducible refine MV.k_part ?_ | with_reducible refine MV.k_pint ?_ | with_reducible refine MV.k_dnew ?_ | with_reducible refine MV.k_lstRg ?_ | with_reducible refine MV.k_rg1 ?_
  | with_reducible refine CX.k_callS ?_ | with_reducible refine CX.k_iEnum ?_))
def t_check_boxes (K : PySem.W.Frag) (w : World) (s_is_count : Sp) (E : XK) : TS :=
  (tIfS (tNot (tB (tCall s_is_count [] E0 (tCons (tVar 0) tNil)))) (EX.tRaiseOwn (He.ga K "BadLead") (fun cls d _ H => E cls d H)) tNext)
def t_can_be (K : PySem.W.Frag) (w : World) (s_is_box : Sp) : TS :=
  (tSeq (tIfS (tTest (tOp rNe (tCB (vLen K) (tCons (tVar 1) tNil)) (tC (.int 3)))) (tRet (tC (.bl false))) tNext)
    (tSeq (tAsg (tVar 1) (gTup K 3 (gCons (gName 2) (gCons (gName 3) (gCons (gName 4) gNil)))))
    (tSeq (tIfS (tAnd (tTest (tOp rNe (tVar 2) (tC (.str "copy")))) (tTest (tOp rNe (tVar 2) (tC (.str "swap"))))) (tRet (tC (.bl false))) tNext)
    (tRet (tAndV (tCall s_is_box [] E0 (tCons (tVar 0) (tCons (tVar 3) tNil))) (tAndV (tCall s_is_box [] E0 (tCons (tVar 0) (tCons (tVar 4) tNil))) (tOp rNe (tVar 3) (tVar 4))))))))
def t_check_moves (K : PySem.W.Frag) (w : World) (s_can_be : Sp) (E : XK) : TS :=
  (tFor (iEnum K (tCons (tVar 1) tNil)) (gTup K 2 (gCons (gName 2) (gCons (gName 3) gNil))) (tIfS (tNot (tB (tCall s_can_be [] E0 (tCons (tVar 0) (tCons (tVar 3) tNil))))) (tRaiseBad (He.ga K "BadMove") "number" (fun cls d _ H => E cls d H) (tCons (tVar 2) tNil)) tNext))
def t_do_move (K : PySem.W.Frag) (w : World) : TS :=
  (tSeq (tAsg (tVar 1) (gTup K 3 (gCons (gName 2) (gCons (gName 3) (gCons (gName 4) gNil)))))
    (tIfS (tTest (tOp rEq (tVar 2) (tC (.str "swap")))) (tAsg (tTup (tCons (tOp (rIxL K) (tVar 0) (tVar 4)) (tCons (tOp (rIxL K) (tVar 0) (tVar 3)) tNil))) (gTup K 2 (gCons (gSub (tVar 0) (tVar 3) rSetL) (gCons (gSub (tVar 0) (tVar 4) rSetL) gNil)))) (tAsg (tOp (rIxL K) (tVar 0) (tVar 4)) (gSub (tVar 0) (tVar 3) rSetL))))
def t_moved (K : PySem.W.Frag) (w : World) (s_check_boxes : Sp) (s_check_moves : Sp) (s_do_move : Sp) (E : XK) : TS :=
  (tSeq (tDrop (tCallS s_check_boxes (WE (fun cls d _ H => E cls d H)) (tCons (tCB (vLen K) (tCons (tVar 0) tNil)) tNil)))
    (tSeq (tDrop (tCallS s_check_moves (WE (fun cls d _ H => E cls d H)) (tCons (tCB (vLen K) (tCons (tVar 0) tNil)) (tCons (tVar 1) tNil))))
    (tSeq (tAsg (tCB (vListOf K) (tCons (tVar 0) tNil)) (gName 2))
    (tSeq (tFor (iList K (tVar 1)) (gName 3) (tDrop (tCall s_do_move [] E0 (tCons (tVar 2) (tCons (tVar 3) tNil)))))
    (tRet (tVar 2))))))
section
variable {K : PySem.W.Frag} {w : World} {H : Hp}
/-! ### single moves as lists of values -/
structure MsAt (K : PySem.W.Frag) (G : Hp) (l : Addr) (ms : List (List V)) : Prop where
  ex : ∃ ts : List Addr, SqL K G l (ts.map V.ref) ∧ ts.length = ms.length ∧ ∀ (i : Nat) (t : Addr) (m : List V), ts[i]? = some t → ms[i]? = some m → SqT K G t m
theorem MsAt.mono {G G1 : Hp} {l : Addr} {ms : List (List V)} (h : MsAt K G l ms) (s : Same G G1) : MsAt K G1 l ms := by
  obtain ⟨ts, a, b, c⟩ := h.ex
  exact ⟨ts, s.seq a, b, fun i t m e1 e2 => sqT_mono s (c i t m e1 e2)⟩
def Wf (m : List V) : Prop := m.length ≠ 3 ∨ ∃ (u : Str) (i j : Int), m = [.str u, .int i, .int j]
def canBe (n : Int) : List V → Bool
  | [.str u, .int i, .int j] => (decide (u = "copy") || decide (u = "swap")) && (decide (0 ≤ i ∧ i < n) && (decide (0 ≤ j ∧ j < n) && !decide (i = j)))
  | _ => false
theorem canBe_len {n : Int} {m : List V} (h : m.length ≠ 3) : canBe n m = false := by
  unfold canBe
  split
  · exact absurd rfl h
  · rfl
theorem pure_check_boxes (vs : List V) (Q : VK) (E : XK) (h : MV.spCheckBoxes vs H Q E) : t_check_boxes K w spIsCount E { nx := fun _ H1 => Q .non H1, rt := Q } (start ["boxes"] vs) H := by
  obtain ⟨n, rfl, n1, n10, q⟩ := h
  unfold t_check_boxes
  walk_at "go"
  refine ⟨n, rfl, ?_⟩
  walk_at "go"
  refine k_nfalse ⟨n1, n10⟩ ?_
  exact q
/-- any count: refused beyond 1 to 10 -/
def spCheckBoxes (K : PySem.W.Frag) : Sp := fun vs H Q E => ∃ n : Int, vs = [.int n] ∧ ((1 ≤ n ∧ n ≤ 10 ∧ Q .non H) ∨ (¬ (1 ≤ n ∧ n ≤ 10) ∧ E (.ref (He.ga K "BadLead")) none H))
theorem pure_check_boxesB (vs : List V) (Q : VK) (E : XK) (h : spCheckBoxes K vs H Q E) : t_check_boxes K w spIsCount E { nx := fun _ H1 => Q .non H1, rt := Q } (start ["boxes"] vs) H := by
  obtain ⟨n, rfl, ⟨n1, n10, q⟩ | ⟨nn, q⟩⟩ := h
  · exact pure_check_boxes _ Q E ⟨n, rfl, n1, n10, q⟩
  · unfold t_check_boxes
    walk_at "go"
    refine ⟨n, rfl, ?_⟩
    walk_at "go"
    refine k_ntrue nn ?_
    exact q
def spCanBe (K : PySem.W.Frag) : Sp := fun vs H Q _ => ∃ (n : Int) (t : Addr) (m : List V), vs = [.int n, .ref t] ∧ SqT K H t m ∧ Wf m ∧ Q (.bl (canBe n m)) H
theorem dec_str (x y : Str) : decide (V.str x = V.str y) = decide (x = y) := by
  by_cases h : x = y
  · subst h; simp
  · rw [decide_eq_false h, decide_eq_false fun z => h (V.str.inj z)]
theorem pure_can_be (vs : List V) (Q : VK) (E : XK) (h : spCanBe K vs H Q E) : t_can_be K w spIsBox { nx := fun _ H1 => Q .non H1, rt := Q } (start ["boxes", "move", "word", "one", "other"] vs) H := by
  obtain ⟨n, t, m, rfl, ht, wf, q⟩ := h
  unfold t_can_be
  walk_at "go"
  refine k_len (.inr ht) ?_
  walk_at "go"
  by_cases h3 : m.length = 3
  · refine k_nfalse (by omega) ?_
    rcases wf with wf | ⟨u, i, j, rfl⟩
    · exact absurd h3 wf
    walk_at "go"
    refine k_tupN ht rfl ?_
    walk_at "go"
    refine k_ne rfl ?_
    rw [dec_str]
    have tail : canBe n [.str u, .int i, .int j] = ((decide (0 ≤ i ∧ i < n) && (decide (0 ≤ j ∧ j < n) && !decide (i = j)))) → spIsBox [.int n, .int i] H (fun x H1 => ∃ c, x = V.bl c ∧ if c = true then tAndV (tCall spIsBox [] E0 (tCons (tVar 0) (tCons (tVar 4) tNil))) (tOp rNe (tVar 3) (tVar 4)) [some (.int n), some (.ref t), some (.str u), some (.int i), some (.int j)] H1 Q else Q (.bl false) H1) E0 := by
      intro e
      rw [e] at q
      refine ⟨n, i, rfl, ?_⟩
      refine k_blV ?_
      refine k_both (fun hi => ?_) (fun hi => ?_)
      · rw [decide_eq_true hi, Bool.true_and] at q
        walk_at "go"
        refine ⟨n, j, rfl, ?_⟩
        refine k_blV ?_
        refine k_both (fun hj => ?_) (fun hj => ?_)
        · rw [decide_eq_true hj, Bool.true_and] at q
          walk_at "go"
          exact q
        · rw [decide_eq_false hj, Bool.false_and] at q
          exact q
      · rw [decide_eq_false hi, Bool.false_and] at q
        exact q
    by_cases hc : u = "copy"
    · rw [decide_eq_true hc]
      walk_at "go"
      refine L2.iteF ?_
      walk_at "go"
      refine tail ?_
      subst hc
      rfl
    · rw [decide_eq_false hc]
      walk_at "go"
      refine L2.iteT ?_
      walk_at "go"
      refine k_ne rfl ?_
      rw [dec_str]
      by_cases hs : u = "swap"
      · rw [decide_eq_true hs]
        walk_at "go"
        refine L2.iteF ?_
        walk_at "go"
        refine tail ?_
        subst hs
        rfl
      · rw [decide_eq_false hs]
        walk_at "go"
        refine L2.iteT ?_
        walk_at "go"
        have e : canBe n [.str u, .int i, .int j] = false := by
          show ((decide (u = "copy") || decide (u = "swap")) && _) = false
          rw [decide_eq_false hc, decide_eq_false hs]
          rfl
        rw [e] at q
        exact q
  · refine k_ntrue (by omega) ?_
    walk_at "go"
    rw [canBe_len h3] at q
    exact q
/-! ### enumerate over a list that stands -/
theorem forE {M : List Addr} {G : Hp} {σ : L2.St} {a : Addr} {xs : List V} {g : TG} {tb : TS} {D : Ends} (s : Same G H) (hx : SqL K G a xs) (Pv : Nat → L2.St → Hp → Hp → Prop) (h0 : Pv 0 σ G H)
    (hs : ∀ (i : Nat) (x : V) (T : Addr) (σ1 : L2.St) (G1 H1 : Hp), i < xs.length → xs[i]? = some x → Ext M G H G1 H1 → Pv i σ1 G1 H1 → H1 T = none → g (.ref T) σ1 (upd H1 T (.tup [.int (i : Nat), x])) fun σ2 H2 =>
      tb { D with nx := fun σ3 H3 => ∃ G3, Ext M G1 H1 G3 H3 ∧ Pv (i + 1) σ3 G3 H3, ct := fun σ3 H3 => ∃ G3, Ext M G1 H1 G3 H3 ∧ Pv (i + 1) σ3 G3 H3, bk := D.nx } σ2 H2)
    (hd : ∀ (σ1 : L2.St) (G1 H1 : Hp), Ext M G H G1 H1 → Pv xs.length σ1 G1 H1 → D.nx σ1 H1) :
    ∃ W : Nat → Nat → L2.St → Hp → Prop, (∃ m, W 0 m σ H) ∧ ∀ i m σ H, W i m σ H →
      ((Ite K a).stop i H ∧ D.nx σ H) ∨ ((Ite K a).go i H ∧ ∃ N : L2.St → Hp → Prop, (∀ σ' H', N σ' H' → ∃ m', m' < m ∧ W (i + 1) m' σ' H') ∧ ∀ x H', (Ite K a).yld i H x H' → g x σ H' fun σ2 H2 => tb { D with nx := N, ct := N, bk := D.nx } σ2 H2) := by
  refine ⟨fun i m σ1 H1 => m = xs.length - i ∧ i ≤ xs.length ∧ ∃ G1, Ext M G H G1 H1 ∧ Pv i σ1 G1 H1, ⟨xs.length, rfl, Nat.zero_le _, G, Ext.refl s, h0⟩, ?_⟩
  rintro i m σ1 H1 ⟨rfl, hi, G1, e, p⟩
  have sG : Same G H1 := e.g.trans e.s
  by_cases hlt : i < xs.length
  · refine .inr ⟨⟨xs, xs[i], sG.seq hx, List.getElem?_eq_getElem hlt⟩, fun σ3 H3 => ∃ G3, Ext M G1 H1 G3 H3 ∧ Pv (i + 1) σ3 G3 H3, fun σ3 H3 ⟨G3, e3, p3⟩ => ⟨xs.length - (i + 1), by omega, rfl, hlt, G3, e.trans e3, p3⟩, fun x H2 y => ?_⟩
    obtain ⟨T, x, rfl, hT, rfl, hq⟩ := y
    exact hs i x T σ1 G1 H1 hlt (hq xs (sG.seq hx)) e p hT
  · have en : i = xs.length := by omega
    subst en
    exact .inl ⟨⟨xs, sG.seq hx, Nat.le_refl _⟩, hd σ1 G1 H1 e p⟩
/-- all can be, or the first that can't -/
def spCheckMoves (K : PySem.W.Frag) : Sp := fun vs H Q E => ∃ (G : Hp) (n : Int) (l : Addr) (ms : List (List V)), vs = [.int n, .ref l] ∧ Same G H ∧ MsAt K G l ms ∧ (∀ m, m ∈ ms → Wf m) ∧ ms.length ≤ 1000 ∧
  (((∀ m, m ∈ ms → canBe n m = true) ∧ ∀ H1, Ext [] G H G H1 → Q .non H1) ∨
   ∃ (k : Nat) (m : List V), ms[k]? = some m ∧ canBe n m = false ∧ (∀ i m', i < k → ms[i]? = some m' → canBe n m' = true) ∧ ∀ (H1 : Hp) (dd : Addr), Ext [] G H G H1 → H1 dd = none → E (.ref (He.ga K "BadMove")) (some dd) (upd H1 dd (.xd [("number", .int (k : Nat))])))
theorem pure_check_moves (vs : List V) (Q : VK) (E : XK) (h : spCheckMoves K vs H Q E) : t_check_moves K w (spCanBe K) E { nx := fun _ H1 => Q .non H1, rt := Q } (start ["boxes", "moves", "number", "move"] vs) H := by
  obtain ⟨G, n, l, ms, rfl, s, ⟨ts, hx, hl, ht⟩, wf, h1000, q⟩ := h
  unfold t_check_moves
  walk_at "go"
  refine ⟨l, ts.map V.ref, rfl, s.seq hx, ?_⟩
  have key : ∀ (i : Nat) (m : List V), i < ts.length → ms[i]? = some m → m ∈ ms := fun i m _ e => List.mem_of_getElem? e
  refine forE (M := []) s hx (fun i σ1 G1 H1 => G1 = G ∧ (∃ x2 x3, σ1 = [some (.int n), some (.ref l), x2, x3]) ∧ ∀ j m, j < i → ms[j]? = some m → canBe n m = true)
    ⟨rfl, ⟨none, none, rfl⟩, fun j m z => absurd z (Nat.not_lt_zero _)⟩ (fun i x T σ1 G1 H1 hi ex e ⟨eG, ⟨x2, x3, es⟩, hb⟩ hT => ?_) (fun σ1 G1 H1 e ⟨eG, ⟨x2, x3, es⟩, hb⟩ => ?_)
  · subst eG es
    rw [List.length_map] at hi
    have hm : i < ms.length := by omega
    rw [List.getElem?_map, List.getElem?_eq_getElem hi] at ex
    have ex2 : V.ref ts[i] = x := Option.some.inj ex
    subst ex2
    have em : ms[i]? = some ms[i] := List.getElem?_eq_getElem hm
    have hti := ht i ts[i] ms[i] (List.getElem?_eq_getElem hi) em
    have e1 := (Ext.refl (M := []) e.s).tmp (o := .tup [.int (i : Nat), .ref ts[i]]) hT
    have ht1 : SqT K (upd H1 T (.tup [.int (i : Nat), .ref ts[i]])) ts[i] ms[i] := sqT_mono e1.s hti
    refine k_tupN (SqT.of upd_same) rfl ?_
    walk_at "go"
    refine ⟨n, ts[i], ms[i], rfl, ht1, wf _ (List.getElem_mem hm), ?_⟩
    walk_at "go"
    rcases q with ⟨qa, qn⟩ | ⟨k, m, ek, ck, hk, qe⟩
    · rw [qa _ (List.getElem_mem hm)]
      refine L2.iteF ?_
      walk_at "go"
      refine ⟨G1, e1, rfl, ⟨_, _, rfl⟩, fun j m hj em2 => qa m (List.mem_of_getElem? em2)⟩
    · by_cases hik : i = k
      · subst hik
        rw [em] at ek
        cases ek
        rw [ck]
        refine L2.iteT ?_
        refine ⟨_, rfl, (i : Int), rfl, ?_, fun dd hdd => qe _ dd (e.fin e1 (fun p hp => nomatch hp)) hdd⟩
        have : ((i : Int)).natAbs = i := Int.natAbs_natCast i
        rw [this]
        exact Nat.lt_of_le_of_lt (Nat.log2_le_self i) (by omega)
      · have hlt : i < k := by
          rcases Nat.lt_or_ge i k with z | z
          · exact z
          · have hk2 : k < i := by omega
            have := hb k m hk2 ek
            rw [ck] at this
            cases this
        rw [hk i _ hlt em]
        refine L2.iteF ?_
        walk_at "go"
        refine ⟨G1, e1, rfl, ⟨_, _, rfl⟩, fun j m2 hj em2 => hk j m2 (by omega) em2⟩
  · subst eG es
    rw [List.length_map] at hb
    rcases q with ⟨qa, qn⟩ | ⟨k, m, ek, ck, hk, qe⟩
    · exact qn H1 e
    · have hk2 : k < ts.length := by
        have := (List.getElem?_eq_some_iff.mp ek).1
        omega
      have := hb k m hk2 ek
      rw [ck] at this
      cases this
/-! ### moved -/
def mvI (ws : List Int) : List V → List Int
  | [.str u, .int i, .int j] => if u = "swap" then (ws.set i.toNat (ws.getD j.toNat 0)).set j.toNat (ws.getD i.toNat 0) else ws.set i.toNat (ws.getD j.toNat 0)
  | _ => ws
theorem mvI_eq (ws : List Int) (u : Str) (i j : Int) : mvI ws [.str u, .int i, .int j] = if u = "swap" then (ws.set i.toNat (ws.getD j.toNat 0)).set j.toNat (ws.getD i.toNat 0) else ws.set i.toNat (ws.getD j.toNat 0) := rfl
theorem mvI_len (ws : List Int) (m : List V) : (mvI ws m).length = ws.length := by
  unfold mvI
  split
  · split <;> simp
  · rfl
theorem mvs_len : ∀ (ms : List (List V)) (ws : List Int), (ms.foldl mvI ws).length = ws.length
  | [], _ => rfl
  | m :: r, ws => by rw [List.foldl_cons, mvs_len r, mvI_len]
theorem take_fold {α β : Type} (f : β → α → β) {l : List α} {i : Nat} {x : α} {b : β} (h : l[i]? = some x) : (l.take (i + 1)).foldl f b = f ((l.take i).foldl f b) x := by
  rw [List.take_add_one, h, List.foldl_append]
  rfl
theorem ixN_in {n : Nat} {i : Int} (h : 0 ≤ i) (h2 : i < n) : ixN n i = some i.toNat := by
  unfold ixN
  rw [if_pos h, if_pos h2]
theorem at_in {zs : List Int} {i : Int} (h : 0 ≤ i) (h2 : i < zs.length) : atI (zs.map V.int) i = some (.int (zs.getD i.toNat 0)) := by
  have hk : i.toNat < zs.length := by omega
  have e := atI_here' (zs := zs) (k := i.toNat) hk
  rw [show ((i.toNat : Nat) : Int) = i by omega] at e
  rw [e, List.getD_eq_getElem?_getD, List.getElem?_eq_getElem hk]
  rfl
theorem canBe_in {n : Int} {m : List V} (h : canBe n m = true) : ∃ (u : Str) (i j : Int), m = [.str u, .int i, .int j] ∧ (u = "copy" ∨ u = "swap") ∧ 0 ≤ i ∧ i < n ∧ 0 ≤ j ∧ j < n ∧ i ≠ j := by
  unfold canBe at h
  split at h
  · rename_i u i j
    obtain ⟨h1, h2⟩ := Bool.and_eq_true_iff.mp h
    obtain ⟨h3, h4⟩ := Bool.and_eq_true_iff.mp h2
    obtain ⟨h5, h6⟩ := Bool.and_eq_true_iff.mp h4
    have a := of_decide_eq_true h3
    have b := of_decide_eq_true h5
    refine ⟨u, i, j, rfl, ?_, a.1, a.2, b.1, b.2, fun z => ?_⟩
    · rcases Bool.or_eq_true_iff.mp h1 with z | z
      · exact .inl (of_decide_eq_true z)
      · exact .inr (of_decide_eq_true z)
    · rw [decide_eq_true z] at h6
      cases h6
  · cases h
/-- one move done in a list -/
def spDoMove (K : PySem.W.Frag) : Sp := fun vs H Q _ => ∃ (G : Hp) (p t : Addr) (m : List V) (cur : List Int), vs = [.ref p, .ref t] ∧ Same G H ∧ G p = none ∧ SqT K G t m ∧ canBe (cur.length : Nat) m = true ∧ H p = some (.lst (cur.map V.int)) ∧
  ∀ H1, Ext [p] G H G H1 → H1 p = some (.lst ((mvI cur m).map V.int)) → Q .non H1
theorem pure_do_move (vs : List V) (Q : VK) (E : XK) (h : spDoMove K vs H Q E) : t_do_move K w { nx := fun _ H1 => Q .non H1, rt := Q } (start ["held", "move", "word", "one", "other"] vs) H := by
  obtain ⟨G, p, t, m, cur, rfl, s, gp, ht, cb, hb, q⟩ := h
  obtain ⟨u, a, b, rfl, hu, a0, a1, b0, b1, ab⟩ := canBe_in cb
  have ht1 : SqT K H t [.str u, .int a, .int b] := sqT_mono s ht
  have aL : a < cur.length := by omega
  have bL : b < cur.length := by omega
  unfold t_do_move
  walk_at "go"
  refine k_tupN ht1 rfl ?_
  walk_at "go"
  refine k_eq rfl ?_
  rw [dec_str]
  walk_at "go"
  by_cases hs : u = "swap"
  · refine k_true hs ?_
    walk_at "go"
    refine k_ixL (SqL.of hb) (at_in b0 bL) ?_
    walk_at "go"
    refine k_ixL (SqL.of hb) (at_in a0 aL) ?_
    walk_at "go"
    refine ⟨sz1 (by show 2 ≤ 100000; decide), fun t2 ht2 => ?_⟩
    have np : p ≠ t2 := fun z => by rw [z, ht2] at hb; cases hb
    have hb2 := upd_two (o := .tup [.int (cur.getD b.toNat 0), .int (cur.getD a.toNat 0)]) np hb
    refine k_tupN (SqT.of upd_same) rfl ?_
    walk_at "go"
    refine k_setL hb2 (ixN_in a0 (by rw [List.length_map]; exact aL)) ?_
    walk_at "go"
    refine k_setL upd_same (j := b.toNat) (ixN_in b0 (by rw [List.length_set, List.length_map]; exact bL)) ?_
    walk_at "go"
    refine q _ ((((Ext.refl (M := [p]) s).tmp ht2).mutM (by simp) gp).mutM (by simp) gp) ?_
    rw [upd_same, mvI_eq, if_pos hs, List.map_set, List.map_set]
  · refine k_false hs ?_
    walk_at "go"
    refine k_ixL (SqL.of hb) (at_in b0 bL) ?_
    walk_at "go"
    refine k_setL hb (ixN_in a0 (by rw [List.length_map]; exact aL)) ?_
    walk_at "go"
    refine q _ ((Ext.refl (M := [p]) s).mutM (by simp) gp) ?_
    rw [upd_same, mvI_eq, if_neg hs, List.map_set]
/-- the worths behind all, or the first that can't be -/
def spMoved (K : PySem.W.Frag) : Sp := fun vs H Q E => ∃ (G : Hp) (wl : Addr) (ws : List Int) (l : Addr) (ms : List (List V)), vs = [.ref wl, .ref l] ∧ Same G H ∧ SqL K G wl (ws.map V.int) ∧ 1 ≤ ws.length ∧ ws.length ≤ 10 ∧ MsAt K G l ms ∧ (∀ m, m ∈ ms → Wf m) ∧ ms.length ≤ 1000 ∧
  (((∀ m, m ∈ ms → canBe (ws.length : Nat) m = true) ∧ ∀ (p : Addr) (G1 H1 : Hp), Ext [] G H G1 H1 → H p = none → G1 p = some (.lst ((ms.foldl mvI ws).map V.int)) → Q (.ref p) H1) ∨
   ∃ (k : Nat) (m : List V), ms[k]? = some m ∧ canBe (ws.length : Nat) m = false ∧ (∀ i m', i < k → ms[i]? = some m' → canBe (ws.length : Nat) m' = true) ∧ ∀ (H1 : Hp) (dd : Addr), Ext [] G H G H1 → H1 dd = none → E (.ref (He.ga K "BadMove")) (some dd) (upd H1 dd (.xd [("number", .int (k : Nat))])))
theorem pure_moved (vs : List V) (Q : VK) (E : XK) (h : spMoved K vs H Q E) : t_moved K w MV.spCheckBoxes (spCheckMoves K) (spDoMove K) E { nx := fun _ H1 => Q .non H1, rt := Q } (start ["worths", "moves", "held", "move"] vs) H := by
  obtain ⟨G, wl, ws, l, ms, rfl, s, hw, w1, w10, ma, wf, h1000, q⟩ := h
  unfold t_moved
  walk_at "go"
  refine k_len (.inl (s.seq hw)) ?_
  walk_at "go"
  rw [List.length_map]
  refine ⟨_, rfl, by omega, by omega, ?_⟩
  walk_at "go"
  refine k_len (.inl (s.seq hw)) ?_
  walk_at "go"
  rw [List.length_map]
  refine ⟨G, _, l, ms, rfl, s, ma, wf, h1000, ?_⟩
  rcases q with ⟨qa, qn⟩ | q
  · refine .inl ⟨qa, fun H1 e1 => ?_⟩
    obtain ⟨ts, hx, hl, ht⟩ := ma.ex
    walk_at "go"
    refine ⟨wl, _, rfl, .inl (e1.s.seq hw), fun p hp => ?_⟩
    have e2 := e1.tmp (o := .lst (ws.map V.int)) hp
    have gp : G p = none := e1.s.free hp
    have hp0 : H p = none := e1.d p hp
    walk_at "go"
    refine ⟨l, rfl, ⟨_, e2.s.seq hx⟩, ?_⟩
    refine forL (M := [p]) e2.s hx (fun i σ1 G1 H1 => G1 = G ∧ (∃ x3, σ1 = [some (.ref wl), some (.ref l), some (.ref p), x3]) ∧ H1 p = some (.lst (((ms.take i).foldl mvI ws).map V.int)))
      ⟨rfl, ⟨none, rfl⟩, upd_same⟩ (fun i x σ1 G1 H1 hi ex e ⟨eG, ⟨x3, es⟩, hb⟩ => ?_) (fun σ1 G1 H1 e ⟨eG, ⟨x3, es⟩, hb⟩ => ?_)
    · subst eG es
      rw [List.length_map] at hi
      have hm : i < ms.length := by omega
      rw [List.getElem?_map, List.getElem?_eq_getElem hi] at ex
      have ex2 : V.ref ts[i] = x := Option.some.inj ex
      subst ex2
      have em : ms[i]? = some ms[i] := List.getElem?_eq_getElem hm
      have hti := ht i ts[i] ms[i] (List.getElem?_eq_getElem hi) em
      have step := take_fold mvI (b := ws) em
      have wl2 : ((ms.take i).foldl mvI ws).length = ws.length := mvs_len _ _
      walk_at "go"
      refine ⟨G1, p, ts[i], ms[i], _, rfl, e.s, gp, hti, by rw [wl2]; exact qa _ (List.getElem_mem hm), hb, fun H3 e3 h3 => ?_⟩
      walk_at "go"
      exact ⟨G1, e3, rfl, ⟨_, rfl⟩, by rw [step]; exact h3⟩
    · subst eG es
      rw [List.length_map, hl, List.take_length] at hb
      walk_at "go"
      have e3 := (e2.fin e (fun x hx2 => by rw [List.mem_singleton.mp hx2]; exact .inr hp0)).frz hp0 gp hb
      exact qn p _ _ e3 hp0 upd_same
  · obtain ⟨k, m, ek, ck, hk, qe⟩ := q
    exact .inr ⟨k, m, ek, ck, hk, qe⟩
end
end CX
namespace CX
open PySem PySem.Spec PyProof.Rows L2 MV
local macro_rules | `(tactic| walk_at "go") => `(tactic| repeat (first
  | with_reducible refine MV.k_seq ?_ | with_reducible refine MV.k_asg ?_ | with_reducible refine MV.k_name ?_ | with_reducible refine MV.k_op ?_ | ((with_reducible apply MV.k_var); exact rfl) | with_reducible refine MV.k_c ?_
  | with_reducible refine MV.k_add ?_ | with_reducible refine MV.k_sub ?_ | with_reducible refine MV.k_lt ?_ | with_reducible refine MV.k_le ?_ | with_reducible refine MV.k_gt ?_ | with_reducible refine MV.k_ge ?_ | with_reducible refine MV.k_eqI ?_ | with_reducible refine MV.k_neI ?_
  | with_reducible refine MV.k_test ?_ | with_reducible refine MV.k_B ?_ | with_reducible refine MV.k_bl ?_ | with_reducible refine MV.k_blV ?_ | with_reducible refine MV.k_and ?_ | with_reducible refine MV.k_or ?_ | with_reducible refine MV.k_not ?_ | with_reducible refine MV.k_andV ?_ | with_reducible refine MV.k_orV ?_ | with_reducible refine MV.k_notV ?_
  | with_reducible refine MV.k_if ?_ | with_reducible refine MV.k_tru ?_ | with_reducible refine MV.k_chain ?_ | with_reducible refine MV.k_next ?_ | with_reducible refine MV.k_drop ?_ | with_reducible refine MV.k_ret ?_ | with_reducible refine MV.k_retN ?_ | with_reducible refine MV.k_ifS ?_ | with_reducible refine MV.k_brk ?_ | with_reducible refine MV.k_cont ?_
  | with_reducible refine MV.k_nil ?_ | with_reducible refine MV.k_cons ?_ | with_reducible refine MV.k_tup ?_ | with_reducible refine MV.k_lst ?_ | with_reducible refine MV.k_cb ?_ | with_reducible refine MV.k_call ?_ | with_reducible refine MV.k_gnil ?_ | with_reducible refine MV.k_gcons ?_ | with_reducible refine MV.k_gsub ?_
  | with_reducible refine MV.k_bm ?_ | with_reducible refine MV.k_bm0 ?_ | with_reducible refine MV.k_un ?_ | with_reducible refine MV.k_neg ?_ | with_reducible refine MV.k_isN ?_ | with_reducible refine MV.k_notN ?_ | with_reducible refine L2.iteT ?_ | with_reducible refine L2.iteF ?_
  | with_reducible refine MV.k_iList ?_ | with_reducible refine MV.k_iTup ?_ | with_reducible refine MV.k_iRng1 ?_ | with_reducible refine MV.k_lc ?_ | with_reducible refine MV.k_for ?_
  | with_reducible refine MV.k_yes ?_ | with_reducible refine MV.k_dput ?_ | with_reducible refine MV.k_dget ?_ | with_reducible refine MV.k_dget1 ?_ | with_reducible refine MV.k_sl ?_ | with_reducible refine MV.k_nopart ?_ | with_reducible refine MV.k_part ?_ | with_reducible refine MV.k_pint ?_ | with_reducible refine MV.k_dnew ?_ | with_reducible refine MV.k_lstRg ?_ | with_reducible refine MV.k_rg1 ?_
  | with_reducible refine CX.k_callS ?_ | with_reducible refine CX.k_iEnum ?_))
def t_check_lead (K : PySem.W.Frag) (w : World) (s_check_boxes : Sp) (s_is_box : Sp) (E : XK) : TS :=
  (tSeq (tDrop (tCallS s_check_boxes (WE (fun cls d _ H => E cls d H)) (tCons (tVar 0) tNil)))
    (tSeq (tAsg (tCB (rSet0 w) tNil) (gName 2))
    (tFor (iList K (tVar 1)) (gName 3) (tSeq (tIfS (tTest (tOp rNe (tCB (vLen K) (tCons (tVar 3) tNil)) (tC (.int 2)))) (EX.tRaiseOwn (He.ga K "BadLead") (fun cls d _ H => E cls d H)) tNext)
    (tSeq (tAsg (tVar 3) (gTup K 2 (gCons (gName 4) (gCons (gName 5) gNil))))
    (tSeq (tIfS (tOr (tNot (tB (tCall s_is_box [] E0 (tCons (tVar 0) (tCons (tVar 4) tNil))))) (tNot (tB (tCall s_is_box [] E0 (tCons (tVar 0) (tCons (tVar 5) tNil)))))) (EX.tRaiseOwn (He.ga K "BadLead") (fun cls d _ H => E cls d H)) tNext)
    (tSeq (tIfS (tTest (tOp (rSIn w) (tVar 4) (tVar 2))) (EX.tRaiseOwn (He.ga K "BadLead") (fun cls d _ H => E cls d H)) tNext)
    (tDrop (tSAdd w (tVar 2) (tCons (tVar 4) tNil))))))))))
def t_at_once (K : PySem.W.Frag) (w : World) (s_check_lead : Sp) (E : XK) : TS :=
  (tSeq (tDrop (tCallS s_check_lead (WE (fun cls d _ H => E cls d H)) (tCons (tCB (vLen K) (tCons (tVar 0) tNil)) (tCons (tVar 1) tNil))))
    (tSeq (tAsg (tCB (vListOf K) (tCons (tVar 0) tNil)) (gName 2))
    (tSeq (tFor (iList K (tVar 1)) (gTup K 2 (gCons (gName 3) (gCons (gName 4) gNil))) (tAsg (tOp (rIxL K) (tVar 0) (tVar 4)) (gSub (tVar 2) (tVar 3) rSetL)))
    (tRet (tVar 2)))))
def t_check_spares (K : PySem.W.Frag) (w : World) (s_real_pairs : Sp) (s_is_box : Sp) (E : XK) : TS :=
  (tSeq (tAsg (tLc2 (iList K (tCall s_real_pairs [] E0 (tCons (tVar 1) tNil))) (gName 6) tYes (iTup K (tVar 6)) (gName 7) tYes (tVar 7) [6, 7] [7]) (gName 3))
    (tFor (iEnum K (tCons (tVar 2) tNil)) (gTup K 2 (gCons (gName 4) (gCons (gName 5) gNil))) (tSeq (tIfS (tNot (tB (tCall s_is_box [] E0 (tCons (tVar 0) (tCons (tVar 5) tNil))))) (EX.tRaiseOwn (He.ga K "BadSpare") (fun cls d _ H => E cls d H)) tNext)
    (tSeq (tIfS (tTest (tOp (rIn K false) (tVar 5) (tVar 3))) (EX.tRaiseOwn (He.ga K "BadSpare") (fun cls d _ H => E cls d H)) tNext)
    (tIfS (tTest (tOp (rIn K false) (tVar 5) (tSl (rSlL K) (tVar 2) tNoPart (tPart (tVar 4))))) (EX.tRaiseOwn (He.ga K "BadSpare") (fun cls d _ H => E cls d H)) tNext)))))
def t_does (K : PySem.W.Frag) (w : World) (s_check_lead : Sp) (s_check_spares : Sp) (s_at_once : Sp) (s_moved : Sp) (E : XK) : TS :=
  (tSeq (tDrop (tCallS s_check_lead (WE (fun cls d _ H => E cls d H)) (tCons (tVar 0) (tCons (tVar 1) tNil))))
    (tSeq (tDrop (tCallS s_check_spares (WE (fun cls d _ H => E cls d H)) (tCons (tVar 0) (tCons (tVar 1) (tCons (tVar 2) tNil)))))
    (tSeq (tAsg (tLstRg (tRg1 (tVar 0))) (gName 4))
    (tSeq (tAsg (tCallS s_at_once (WE (fun cls d _ H => E cls d H)) (tCons (tVar 4) (tCons (tVar 1) tNil))) (gName 5))
    (tSeq (tAsg (tCallS s_moved (WE (fun cls d _ H => E cls d H)) (tCons (tVar 4) (tCons (tVar 3) tNil))) (gName 6))
    (tRet (tCB (rAll K) (tCons (tLc (iRng1 (tCons (tVar 0) tNil)) (gName 7) (tTest (tOp (rIn K true) (tVar 7) (tVar 2))) (tOp rEq (tOp (rIxL K) (tVar 6) (tVar 7)) (tOp (rIxL K) (tVar 5) (tVar 7))) [7]) tNil))))))))
section
variable {K : PySem.W.Frag} {w : World} {H : Hp}
theorem pure_check_lead (vs : List V) (Q : VK) (E : XK) (h : MV.spCheckLead K vs H Q E) : t_check_lead K w MV.spCheckBoxes spIsBox E { nx := fun _ H1 => Q .non H1, rt := Q } (start ["boxes", "lead", "goals", "pair", "goal", "source"] vs) H := by
  obtain ⟨G, n, l, ld, rfl, s, n1, n10, ⟨xs, hx, hd⟩, gm, q⟩ := h
  have ll : xs.length = ld.length := by rw [dpAll_len hd, List.length_map]
  have l10 : ld.length ≤ 10 := by have := gm.len; omega
  unfold t_check_lead
  walk_at "go"
  refine ⟨n, rfl, n1, n10, ?_⟩
  walk_at "go"
  refine ⟨rfl, fun gs ngs => ?_⟩
  have e0 := (Ext.refl (M := []) s).tmp (o := SetO w gs (fun _ => false) 0) ngs
  have gg : G gs = none := s.free ngs
  walk_at "go"
  refine ⟨_, rfl, ⟨_, e0.s.seq hx⟩, ?_⟩
  refine forL (M := [gs]) e0.s hx (fun i σ1 G1 H1 => G1 = G ∧ ∃ (x3 x4 x5 : Option V) (S : Int → Bool) (k : Nat), σ1 = [some (.int n), some (.ref l), some (.ref gs), x3, x4, x5] ∧ H1 gs = some (SetO w gs S k) ∧ k ≤ i ∧ ∀ z, S z = decide (z ∈ (ld.take i).map (·.1)))
    ⟨rfl, none, none, none, _, 0, rfl, upd_same, Nat.le_refl _, fun z => by simp⟩ (fun i x σ1 G1 H1 hi ex e ⟨eG, x3, x4, x5, S, k, es, hS, hk, hz⟩ => ?_) (fun σ1 G1 H1 e ⟨eG, x3, x4, x5, S, k, es, hS, hk, hz⟩ => ?_)
  · subst eG es
    obtain ⟨t, p, ep, rfl, ht⟩ := pair_at hd ex
    have ht1 : SqT K H1 t [.int p.1, .int p.2] := sqT_mono e.s ht
    have hp : p ∈ ld := List.mem_of_getElem? ep
    have r := gm.rg p hp
    walk_at "go"
    refine k_len (.inr ht1) ?_
    walk_at "go"
    refine k_nfalse rfl ?_
    walk_at "go"
    refine k_tupN ht1 rfl ?_
    walk_at "go"
    refine ⟨n, p.1, rfl, ?_⟩
    walk_at "go"
    rw [decide_eq_true (show 0 ≤ p.1 ∧ p.1 < n by omega)]
    refine iteF ?_
    walk_at "go"
    refine ⟨n, p.2, rfl, ?_⟩
    walk_at "go"
    rw [decide_eq_true (show 0 ≤ p.2 ∧ p.2 < n by omega)]
    refine iteF ?_
    walk_at "go"
    refine ⟨p.1, gs, S, k, rfl, rfl, hS, ?_⟩
    walk_at "go"
    have hno : S p.1 = false := by
      rw [hz]
      refine decide_eq_false fun m => ?_
      have nd := gm.nd
      have e2 : ld = ld.take i ++ p :: ld.drop (i + 1) := by
        have hi' : i < ld.length := (List.getElem?_eq_some_iff.mp ep).1
        have e3 : ld[i] = p := (List.getElem?_eq_some_iff.mp ep).2
        rw [← e3, ← List.drop_eq_getElem_cons hi', List.take_append_drop]
      rw [e2, List.map_append, List.map_cons] at nd
      exact (List.nodup_append.mp nd).2.2 _ m _ (List.mem_cons_self ..) rfl
    rw [hno]
    refine iteF ?_
    walk_at "go"
    show tVar 2 _ _ _
    walk_at "go"
    refine ⟨⟨gs, S, k, rfl, hS⟩, ?_⟩
    walk_at "go"
    refine ⟨gs, p.1, S, k, rfl, rfl, hS, by unfold scanBound; omega, ?_⟩
    refine ⟨G1, (Ext.refl e.s).mutM (by simp) gg, rfl, _, _, _, _, _, rfl, upd_same, by split <;> omega, fun z => ?_⟩
    rw [hz, List.take_add_one, ep, List.map_append]
    show (decide (z ∈ (ld.take i).map (·.1)) || decide (z = p.1)) = decide (z ∈ (ld.take i).map (·.1) ++ [p.1])
    by_cases m1 : z ∈ (ld.take i).map (·.1)
    · rw [decide_eq_true m1, decide_eq_true (List.mem_append_left _ m1)]; rfl
    · by_cases m2 : z = p.1
      · rw [decide_eq_true m2, decide_eq_true (List.mem_append_right _ (List.mem_singleton.mpr m2)), Bool.or_true]
      · rw [decide_eq_false m1, decide_eq_false m2, decide_eq_false fun y => (List.mem_append.mp y).elim m1 fun y => m2 (List.mem_singleton.mp y)]; rfl
  · subst eG es
    exact q _ (e0.fin e (by simp [ngs]))
/-! ### at_once of a good lead -/
def leadI (ws cur : List Int) : Lead → List Int
  | [] => cur
  | p :: r => leadI ws (cur.set p.1.toNat (ws.getD p.2.toNat 0)) r
def spAtOnce (K : PySem.W.Frag) : Sp := fun vs H Q _ => ∃ (G : Hp) (wl : Addr) (ws : List Int) (l : Addr) (ld : Lead), vs = [.ref wl, .ref l] ∧ Same G H ∧ SqL K G wl (ws.map V.int) ∧ 1 ≤ ws.length ∧ ws.length ≤ 10 ∧ LeadAt K G l ld ∧ GoodM (ws.length : Nat) ld ∧
  ∀ (p : Addr) (G1 H1 : Hp), Ext [] G H G1 H1 → H p = none → G1 p = some (.lst ((leadI ws ws ld).map V.int)) → Q (.ref p) H1
theorem leadI_app (ws : List Int) : ∀ (a : Lead) (cur : List Int) (p : Int × Int), leadI ws cur (a ++ [p]) = (leadI ws cur a).set p.1.toNat (ws.getD p.2.toNat 0)
  | [], cur, p => rfl
  | q :: r, cur, p => leadI_app ws r _ p
theorem leadI_len (ws : List Int) : ∀ (a : Lead) (cur : List Int), (leadI ws cur a).length = cur.length
  | [], cur => rfl
  | q :: r, cur => by
    show (leadI ws (cur.set _ _) r).length = _
    rw [leadI_len ws r, List.length_set]
theorem pure_at_once (vs : List V) (Q : VK) (E : XK) (h : spAtOnce K vs H Q E) : t_at_once K w (MV.spCheckLead K) E { nx := fun _ H1 => Q .non H1, rt := Q } (start ["worths", "lead", "held", "goal", "source"] vs) H := by
  obtain ⟨G, wl, ws, l, ld, rfl, s, hw, w1, w10, la, gm, q⟩ := h
  unfold t_at_once
  walk_at "go"
  refine k_len (.inl (s.seq hw)) ?_
  walk_at "go"
  rw [List.length_map]
  refine ⟨G, _, l, ld, rfl, s, by omega, by omega, la, gm, fun H1 e1 => ?_⟩
  obtain ⟨xs, hx, hd⟩ := la.ex
  have ll : xs.length = ld.length := by rw [dpAll_len hd, List.length_map]
  walk_at "go"
  refine ⟨wl, _, rfl, .inl (e1.s.seq hw), fun p hp => ?_⟩
  have e2 := e1.tmp (o := .lst (ws.map V.int)) hp
  have gp : G p = none := e1.s.free hp
  have hp0 : H p = none := e1.d p hp
  walk_at "go"
  refine ⟨l, rfl, ⟨_, e2.s.seq hx⟩, ?_⟩
  refine forL (M := [p]) e2.s hx (fun i σ1 G1 H1 => G1 = G ∧ (∃ x3 x4, σ1 = [some (.ref wl), some (.ref l), some (.ref p), x3, x4]) ∧ H1 p = some (.lst ((leadI ws ws (ld.take i)).map V.int)))
    ⟨rfl, ⟨none, none, rfl⟩, upd_same⟩ (fun i x σ1 G1 H1 hi ex e ⟨eG, ⟨x3, x4, es⟩, hb⟩ => ?_) (fun σ1 G1 H1 e ⟨eG, ⟨x3, x4, es⟩, hb⟩ => ?_)
  · subst eG es
    obtain ⟨t, pr, ep, rfl, ht⟩ := pair_at hd ex
    have ht1 : SqT K H1 t [.int pr.1, .int pr.2] := sqT_mono e.s ht
    have r := gm.rg pr (List.mem_of_getElem? ep)
    have cl : (leadI ws ws (ld.take i)).length = ws.length := leadI_len _ _ _
    refine k_tupN ht1 rfl ?_
    walk_at "go"
    refine k_ixL (e.s.seq hw) (at_in r.2.2.1 r.2.2.2) ?_
    walk_at "go"
    refine k_setL hb (ixN_in r.1 (by rw [List.length_map, cl]; exact r.2.1)) ?_
    walk_at "go"
    refine ⟨G1, (Ext.refl (M := [p]) e.s).mutM (by simp) gp, rfl, ⟨_, _, rfl⟩, ?_⟩
    rw [upd_same, List.take_add_one, ep]
    show some (HO.lst _) = some (.lst ((leadI ws ws (ld.take i ++ [pr])).map V.int))
    rw [leadI_app, List.map_set]
  · subst eG es
    rw [ll, List.take_length] at hb
    walk_at "go"
    have e3 := (e2.fin e (fun x hx2 => by rw [List.mem_singleton.mp hx2]; exact .inr hp0)).frz hp0 gp hb
    exact q p _ _ e3 hp0 upd_same
/-! ### no spares beside the empty lead -/
def spCheckSpares0 (K : PySem.W.Frag) : Sp := fun vs H Q _ => ∃ (G : Hp) (n : Int) (l sp : Addr), vs = [.int n, .ref l, .ref sp] ∧ Same G H ∧ LeadAt K G l [] ∧ SqL K G sp [] ∧ ∀ H1, Ext [] G H G H1 → Q .non H1
theorem pure_check_spares0 (vs : List V) (Q : VK) (E : XK) (h : spCheckSpares0 K vs H Q E) : t_check_spares K w (MV.spRealPairs K) MV.spIsBox E { nx := fun _ H1 => Q .non H1, rt := Q } (start ["boxes", "lead", "spares", "busy", "place", "spare", "pair", "box"] vs) H := by
  obtain ⟨G, n, l, sp, rfl, s, la, hsp, q⟩ := h
  unfold t_check_spares
  walk_at "go"
  refine ⟨_, rfl, G, l, [], rfl, s, la, Nat.zero_le _, fun p ts G1 H1 e1 hp g1 pr => ?_⟩
  have ets : ts = [] := by cases pr; rfl
  subst ets
  have h1 : H1 p = some (.lst []) := e1.s _ _ g1
  refine ⟨p, rfl, ⟨[], SqL.of h1⟩, fun D hD => ⟨fun i m H2 => i = 0 ∧ H2 = upd H1 D (.lst []), ⟨0, rfl, rfl⟩, ?_⟩⟩
  rintro i m H2 ⟨rfl, rfl⟩
  have e2 := (e1.back s).tmp (o := .lst []) hD
  refine .inl ⟨⟨[], SqL.of (by rw [upd_ne (ne_of_none h1 hD)]; exact h1), Nat.le_refl _⟩, ?_⟩
  walk_at "go"
  refine ⟨sp, [], rfl, e2.s.seq hsp, ?_⟩
  refine forE (M := []) e2.s hsp (fun i σ1 G1 H1 => G1 = G) rfl (fun i x T σ1 G1 H1 hi => absurd hi (Nat.not_lt_zero _)) (fun σ1 G1 H1 e eG => ?_)
  subst eG
  exact q _ (e2.fin e (fun _ z => nomatch z))
/-- does, refused by the moves -/
def spDoes0 (K : PySem.W.Frag) : Sp := fun vs H Q E => ∃ (G : Hp) (n : Nat) (l sp ml : Addr) (ms : List (List V)), vs = [.int n, .ref l, .ref sp, .ref ml] ∧ Same G H ∧ 1 ≤ n ∧ n ≤ 10 ∧ LeadAt K G l [] ∧ SqL K G sp [] ∧ MsAt K G ml ms ∧ (∀ m, m ∈ ms → Wf m) ∧ ms.length ≤ 1000 ∧
  ∃ (k : Nat) (m : List V), ms[k]? = some m ∧ canBe n m = false ∧ (∀ i m', i < k → ms[i]? = some m' → canBe n m' = true) ∧ ∀ (G1 H1 : Hp) (dd : Addr), Ext [] G H G1 H1 → H1 dd = none → E (.ref (He.ga K "BadMove")) (some dd) (upd H1 dd (.xd [("number", .int (k : Nat))]))
theorem pure_does0 (vs : List V) (Q : VK) (E : XK) (h : spDoes0 K vs H Q E) : t_does K w (MV.spCheckLead K) (spCheckSpares0 K) (spAtOnce K) (spMoved K) E { nx := fun _ H1 => Q .non H1, rt := Q } (start ["boxes", "lead", "spares", "moves", "worths", "wanted", "held", "box"] vs) H := by
  obtain ⟨G, n, l, sp, ml, ms, rfl, s, n1, n10, la, hsp, ma, wf, h1000, k, m, ek, ck, hk, q⟩ := h
  have gm : GoodM (n : Nat) [] := ⟨fun p hp => (nomatch hp), List.nodup_nil⟩
  unfold t_does
  walk_at "go"
  refine ⟨G, n, l, [], rfl, s, by omega, by omega, la, gm, fun H1 e1 => ?_⟩
  walk_at "go"
  refine ⟨G, n, l, sp, rfl, e1.s, la, hsp, fun H2 e2 => ?_⟩
  walk_at "go"
  refine ⟨by unfold RgOk; omega, fun wl hwl => ?_⟩
  have e12 := e1.trans e2
  have e3 := e12.new (o := .lst (rgV 0 n)) hwl
  have ew : rgV 0 (n : Int) = (rangeI n).map V.int := by rw [rgV_ints]; simp
  rw [ew] at e3
  have hw3 : (upd G wl (.lst ((rangeI n).map V.int))) wl = some (.lst ((rangeI n).map V.int)) := upd_same
  have len : (rangeI n).length = n := by simp [rangeI]
  rw [ew]
  have la3 := la.mono e3.g
  have ma3 := ma.mono e3.g
  generalize upd G wl (.lst ((rangeI n).map V.int)) = G3 at *
  generalize upd H2 wl (.lst ((rangeI n).map V.int)) = H3 at *
  walk_at "go"
  refine ⟨G3, wl, rangeI n, l, [], rfl, e3.s, SqL.of hw3, by omega, by omega, la3, by rw [len]; exact gm, fun p G4 H4 e4 hp g4 => ?_⟩
  walk_at "go"
  refine ⟨G4, wl, rangeI n, ml, ms, rfl, e4.s, SqL.of (e4.g _ _ hw3), by omega, by omega, ma3.mono e4.g, wf, h1000, .inr ⟨k, m, ek, by rw [len]; exact ck, fun i m' h1 h2 => by rw [len]; exact hk i m' h1 h2, fun H5 dd e5 hdd => ?_⟩⟩
  exact q _ H5 dd ((e3.trans e4).trans e5) hdd
end
end CX
namespace CX
open PySem PySem.Spec PyProof.Rows L2 MV
local macro_rules | `(tactic| walk_at "go") => `(tactic| repeat (first
  | with_reducible refine MV.k_seq ?_ | with_reducible refine MV.k_asg ?_ | with_reducible refine MV.k_name ?_ | with_reducible refine MV.k_op ?_ | ((with_reducible apply MV.k_var); exact rfl) | with_reducible refine MV.k_c ?_
  | with_reducible refine MV.k_add ?_ | with_reducible refine MV.k_sub ?_ | with_reducible refine MV.k_lt ?_ | with_reducible refine MV.k_le ?_ | with_reducible refine MV.k_gt ?_ | with_reducible refine MV.k_ge ?_ | with_reducible refine MV.k_eqI ?_ | with_reducible refine MV.k_neI ?_
  | with_reducible refine MV.k_test ?_ | with_reducible refine MV.k_B ?_ | with_reducible refine MV.k_bl ?_ | with_reducible refine MV.k_blV ?_ | with_reducible refine MV.k_and ?_ | with_reducible refine MV.k_or ?_ | with_reducible refine MV.k_not ?_ | with_reducible refine MV.k_andV ?_ | with_reducible refine MV.k_orV ?_ | with_reducible refine MV.k_notV ?_
  | with_reducible refine MV.k_if ?_ | with_reducible refine MV.k_tru ?_ | with_reducible refine MV.k_chain ?_ | with_reducible refine MV.k_next ?_ | with_reducible refine MV.k_drop ?_ | with_reducible refine MV.k_ret ?_ | with_reducible refine MV.k_retN ?_ | with_reducible refine MV.k_ifS ?_ | with_reducible refine MV.k_brk ?_ | with_reducible refine MV.k_cont ?_
  | with_reducible refine MV.k_nil ?_ | with_reducible refine MV.k_cons ?_ | with_reducible refine MV.k_tup ?_ | with_reducible refine MV.k_lst ?_ | with_reducible refine MV.k_cb ?_ | with_reducible refine MV.k_call ?_ | with_reducible refine MV.k_gnil ?_ | with_reducible refine MV.k_gcons ?_ | with_reducible refine MV.k_gsub ?_
  | with_reducible refine MV.k_bm ?_ | with_reducible refine MV.k_bm0 ?_ | with_reducible refine MV.k_un ?_ | with_reducible refine MV.k_neg ?_ | with_reducible refine MV.k_isN ?_ | with_reducible refine MV.k_notN ?_ | with_reducible refine L2.iteT ?_ | with_reducible refine L2.iteF ?_
  | with_reducible refine MV.k_iList ?_ | with_reducible refine MV.k_iTup ?_ | with_reducible refine MV.k_iRng1 ?_ | with_reducible refine MV.k_lc ?_ | with_reducible refine MV.k_for ?_
  | with_reducible refine MV.k_yes ?_ | with_reducible refine MV.k_dput ?_ | with_reducible refine MV.k_dget ?_ | with_reducible refine MV.k_dget1 ?_ | with_reducible refine MV.k_sl ?_ | with_reducible refine MV.k_nopart ?_ | with_reducible refine MV.k_part ?_ | with_reducible refine MV.k_pint ?_ | with_reducible refine MV.k_dnew ?_ | with_reducible refine MV.k_lstRg ?_ | with_reducible refine MV.k_rg1 ?_
  | with_reducible refine CX.k_callS ?_ | with_reducible refine CX.k_iEnum ?_))
def t__law_far (K : PySem.W.Frag) (w : World) (s__law_drawn : Sp) : TS :=
  (tSeq (tAsg (tOp (rIxL K) (tLst (tCons (tC (.int 1)) (tCons (tC (.int 20)) (tCons (tOp vPow (tC (.int 10)) (tC (.int 29))) tNil)))) (tCall s__law_drawn [] E0 (tCons (tVar 0) (tCons (tC (.int 3)) tNil)))) (gName 2))
    (tRet (tOp (rIxL K) (tLst (tCons (tOp vSub (tOp vSub (tC (.int 0)) (tC (.int 1))) (tCall s__law_drawn [] E0 (tCons (tVar 0) (tCons (tVar 2) tNil)))) (tCons (tOp vAdd (tOp vAdd (tVar 1) (tC (.int 1))) (tCall s__law_drawn [] E0 (tCons (tVar 0) (tCons (tVar 2) tNil)))) tNil))) (tCall s__law_drawn [] E0 (tCons (tVar 0) (tCons (tC (.int 2)) tNil))))))
def t__law_worths (K : PySem.W.Frag) (w : World) (s__law_drawn : Sp) : TS :=
  (tSeq (tAsg (tOp (rIxL K) (tLst (tCons (tC (.int 5)) (tCons (tC (.int 100)) (tCons (tOp vPow (tC (.int 10)) (tC (.int 29))) tNil)))) (tCall s__law_drawn [] E0 (tCons (tVar 0) (tCons (tC (.int 3)) tNil)))) (gName 2))
    (tRet (tLc (iRng1 (tCons (tVar 1) tNil)) (gName 3) tYes (tOp vSub (tCall s__law_drawn [] E0 (tCons (tVar 0) (tCons (tVar 2) tNil))) (tOp vMul (tCall s__law_drawn [] E0 (tCons (tVar 0) (tCons (tC (.int 2)) tNil))) (tVar 2))) [3])))
def t__law_moved (K : PySem.W.Frag) (w : World) : TS :=
  (tSeq (tAsg (tCB (vListOf K) (tCons (tVar 0) tNil)) (gName 2))
    (tSeq (tFor (iList K (tVar 1)) (gTup K 3 (gCons (gName 3) (gCons (gName 4) (gCons (gName 5) gNil)))) (tIfS (tTest (tOp rEq (tVar 3) (tC (.str "copy")))) (tAsg (tOp (rIxL K) (tVar 2) (tVar 5)) (gSub (tVar 2) (tVar 4) rSetL)) (tSeq (tAsg (tOp (rIxL K) (tVar 2) (tVar 4)) (gName 6))
    (tSeq (tAsg (tOp (rIxL K) (tVar 2) (tVar 5)) (gSub (tVar 2) (tVar 4) rSetL))
    (tAsg (tVar 6) (gSub (tVar 2) (tVar 5) rSetL))))))
    (tRet (tVar 2))))
def t__law_move (K : PySem.W.Frag) (w : World) (s__law_drawn : Sp) : TS :=
  (tSeq (tAsg (tCall s__law_drawn [] E0 (tCons (tVar 0) (tCons (tVar 1) tNil))) (gName 2))
    (tSeq (tAsg (tOp vMod (tOp vAdd (tOp vAdd (tVar 2) (tC (.int 1))) (tCall s__law_drawn [] E0 (tCons (tVar 0) (tCons (tOp vSub (tVar 1) (tC (.int 1))) tNil)))) (tVar 1)) (gName 3))
    (tRet (tTup (tCons (tOp (rIxL K) (tLst (tCons (tC (.str "copy")) (tCons (tC (.str "swap")) tNil))) (tCall s__law_drawn [] E0 (tCons (tVar 0) (tCons (tC (.int 2)) tNil)))) (tCons (tVar 2) (tCons (tVar 3) tNil)))))))
section
variable {K : PySem.W.Frag} {w : World} {H : Hp}
/-- a number of no box -/
def spFar (K : PySem.W.Frag) : Sp := fun vs H Q _ => ∃ (c a : Addr) (ns : List Int) (G : Hp) (most : Int), vs = [.ref a, .int most] ∧ Dr K c a ns G H ∧ 0 ≤ most ∧
  ∀ (x : Int) (G1 H1 : Hp), Ext [a] G H G1 H1 → Dr K c a ns G1 H1 → (x < 0 ∨ most < x) → Q (.int x) H1
theorem ten29 : (10 : Int) ^ (29 : Int).toNat < 2 ^ 200 ∧ 0 < (10 : Int) ^ (29 : Int).toNat := by decide +kernel
theorem pure_far (vs : List V) (Q : VK) (E : XK) (h : spFar K vs H Q E) : t__law_far K w (spDrawn K) { nx := fun _ H1 => Q .non H1, rt := Q } (start ["_law_state", "_law_most", "_law_far_here"] vs) H := by
  obtain ⟨c, a, ns, G, most, rfl, d, m0, q⟩ := h
  unfold t__law_far
  walk_at "go"
  refine k_pow (by unfold CPow; decide) ?_
  walk_at "go"
  refine ⟨sz1 (by simp), fun p hp => ?_⟩
  walk_at "go"
  have d1 := d.tmp (o := .lst [.int 1, .int 20, .int (10 ^ (29 : Int).toNat)]) hp
  have e1 : Ext [a] G H G _ := (Ext.refl d.s).tmp (o := .lst [.int 1, .int 20, .int (10 ^ (29 : Int).toNat)]) hp
  refine d1.draw (M := [a]) (by simp) (by decide) (by decide) fun x1 H1 x10 x11 e2 d2 k2 => ?_
  have hp1 : H1 p = some (.lst [.int 1, .int 20, .int (10 ^ (29 : Int).toNat)]) := by rw [k2 p (d.ne hp), upd_same]
  have e12 := e1.trans e2
  have fin : ∀ f : Int, 0 < f → f < 2 ^ 200 → tRet (tOp (rIxL K) (tLst (tCons (tOp vSub (tOp vSub (tC (.int 0)) (tC (.int 1))) (tCall (spDrawn K) [] E0 (tCons (tVar 0) (tCons (tVar 2) tNil)))) (tCons (tOp vAdd (tOp vAdd (tVar 1) (tC (.int 1))) (tCall (spDrawn K) [] E0 (tCons (tVar 0) (tCons (tVar 2) tNil)))) tNil))) (tCall (spDrawn K) [] E0 (tCons (tVar 0) (tCons (tC (.int 2)) tNil)))) { nx := fun _ H1 => Q .non H1, rt := Q } [some (.ref a), some (.int most), some (.int f)] H1 := by
    intro f f0 f1
    walk_at "go"
    refine d2.draw (M := [a]) (by simp) f0 f1 fun y1 H3 y10 y11 e3 d3 k3 => ?_
    walk_at "go"
    refine d3.draw (M := [a]) (by simp) f0 f1 fun y2 H4 y20 y21 e4 d4 k4 => ?_
    walk_at "go"
    refine ⟨sz1 (by simp), fun p2 hp2 => ?_⟩
    walk_at "go"
    have d5 := d4.tmp (o := .lst [.int (0 - 1 - y1), .int (most + 1 + y2)]) hp2
    have e5 : Ext [a] G H G _ := ((e12.trans e3).trans e4).tmp (o := .lst [.int (0 - 1 - y1), .int (most + 1 + y2)]) hp2
    refine d5.draw (M := [a]) (by simp) (by decide) (by decide) fun x4 H6 x40 x41 e6 d6 k6 => ?_
    have hp6 : H6 p2 = some (.lst [.int (0 - 1 - y1), .int (most + 1 + y2)]) := by rw [k6 p2 (d4.ne hp2), upd_same]
    have c4 : x4 = 0 ∨ x4 = 1 := by omega
    rcases c4 with z | z
    · subst z; exact k_ixL (SqL.of hp6) rfl (q _ _ _ (e5.trans e6) d6 (.inl (by omega)))
    · subst z; exact k_ixL (SqL.of hp6) rfl (q _ _ _ (e5.trans e6) d6 (.inr (by omega)))
  have c1 : x1 = 0 ∨ x1 = 1 ∨ x1 = 2 := by omega
  rcases c1 with z | z | z
  · subst z; exact k_ixL (SqL.of hp1) rfl (fin _ (by decide) (by decide))
  · subst z; exact k_ixL (SqL.of hp1) rfl (fin _ (by decide) (by decide))
  · subst z; exact k_ixL (SqL.of hp1) rfl (fin _ ten29.2 ten29.1)
/-- the law's own moved -/
def spLawMoved (K : PySem.W.Frag) : Sp := fun vs H Q _ => ∃ (G : Hp) (wl : Addr) (ws : List Int) (l : Addr) (ms : List (List V)), vs = [.ref wl, .ref l] ∧ Same G H ∧ SqL K G wl (ws.map V.int) ∧ ws.length ≤ 10 ∧ MsAt K G l ms ∧ (∀ m, m ∈ ms → canBe (ws.length : Nat) m = true) ∧
  ∀ (p : Addr) (G1 H1 : Hp), Ext [] G H G1 H1 → H p = none → G1 p = some (.lst ((ms.foldl mvI ws).map V.int)) → Q (.ref p) H1
theorem pure_law_moved (vs : List V) (Q : VK) (E : XK) (h : spLawMoved K vs H Q E) : t__law_moved K w { nx := fun _ H1 => Q .non H1, rt := Q } (start ["_law_worths_here", "_law_moves", "_law_found", "_law_word", "_law_one", "_law_other", "_law_had"] vs) H := by
  obtain ⟨G, wl, ws, l, ms, rfl, s, hw, w10, ma, qa, qn⟩ := h
  obtain ⟨ts, hx, hl, ht⟩ := ma.ex
  unfold t__law_moved
  walk_at "go"
  refine ⟨wl, _, rfl, .inl (s.seq hw), fun p hp => ?_⟩
  have e2 := (Ext.refl (M := []) s).tmp (o := .lst (ws.map V.int)) hp
  have gp : G p = none := s.free hp
  walk_at "go"
  refine ⟨l, rfl, ⟨_, e2.s.seq hx⟩, ?_⟩
  refine forL (M := [p]) e2.s hx (fun i σ1 G1 H1 => G1 = G ∧ (∃ x3 x4 x5 x6, σ1 = [some (.ref wl), some (.ref l), some (.ref p), x3, x4, x5, x6]) ∧ H1 p = some (.lst (((ms.take i).foldl mvI ws).map V.int)))
    ⟨rfl, ⟨none, none, none, none, rfl⟩, upd_same⟩ (fun i x σ1 G1 H1 hi ex e ⟨eG, ⟨x3, x4, x5, x6, es⟩, hb⟩ => ?_) (fun σ1 G1 H1 e ⟨eG, ⟨x3, x4, x5, x6, es⟩, hb⟩ => ?_)
  · subst eG es
    rw [List.length_map] at hi
    have hm : i < ms.length := by omega
    rw [List.getElem?_map, List.getElem?_eq_getElem hi] at ex
    have ex2 : V.ref ts[i] = x := Option.some.inj ex
    subst ex2
    have em : ms[i]? = some ms[i] := List.getElem?_eq_getElem hm
    have hti := ht i ts[i] ms[i] (List.getElem?_eq_getElem hi) em
    obtain ⟨u, a, b, em3, hu, a0, a1, b0, b1, ab⟩ := canBe_in (qa _ (List.getElem_mem hm))
    rw [em3] at hti
    have step := take_fold mvI (b := ws) em
    rw [em3] at step
    have wl2 : ((ms.take i).foldl mvI ws).length = ws.length := mvs_len _ _
    generalize (ms.take i).foldl mvI ws = cur at *
    have ht1 : SqT K H1 ts[i] [.str u, .int a, .int b] := sqT_mono e.s hti
    have aL : a < cur.length := by omega
    have bL : b < cur.length := by omega
    refine k_tupN ht1 rfl ?_
    walk_at "go"
    refine k_eq rfl ?_
    rw [dec_str]
    walk_at "go"
    by_cases hs : u = "copy"
    · have ns : ¬ u = "swap" := fun z => by rw [hs] at z; exact absurd z (by decide)
      refine k_true hs ?_
      walk_at "go"
      refine k_ixL (SqL.of hb) (at_in b0 bL) ?_
      walk_at "go"
      refine k_setL hb (ixN_in a0 (by rw [List.length_map]; exact aL)) ?_
      walk_at "go"
      refine ⟨G1, (Ext.refl (M := [p]) e.s).mutM (by simp) gp, rfl, ⟨_, _, _, _, rfl⟩, ?_⟩
      rw [step, upd_same, mvI_eq, if_neg ns, List.map_set]
    · have ys : u = "swap" := hu.elim (fun z => absurd z hs) id
      refine k_false hs ?_
      walk_at "go"
      refine k_ixL (SqL.of hb) (at_in a0 aL) ?_
      walk_at "go"
      refine k_ixL (SqL.of hb) (at_in b0 bL) ?_
      walk_at "go"
      refine k_setL hb (ixN_in a0 (by rw [List.length_map]; exact aL)) ?_
      walk_at "go"
      refine k_setL upd_same (j := b.toNat) (ixN_in b0 (by rw [List.length_set, List.length_map]; exact bL)) ?_
      walk_at "go"
      refine ⟨G1, ((Ext.refl (M := [p]) e.s).mutM (by simp) gp).mutM (by simp) gp, rfl, ⟨_, _, _, _, rfl⟩, ?_⟩
      rw [step, upd_same, mvI_eq, if_pos ys, List.map_set, List.map_set]
  · subst eG es
    rw [List.length_map, hl, List.take_length] at hb
    walk_at "go"
    have e3 := (e2.fin e (fun x hx2 => by rw [List.mem_singleton.mp hx2]; exact .inr hp)).frz hp gp hb
    exact qn p _ _ e3 hp upd_same
/-- a drawn move of two unlike boxes -/
def spLawMove (K : PySem.W.Frag) : Sp := fun vs H Q _ => ∃ (c a : Addr) (ns : List Int) (G : Hp) (n : Int), vs = [.ref a, .int n] ∧ Dr K c a ns G H ∧ 2 ≤ n ∧ n ≤ 10 ∧
  ∀ (p : Addr) (m : List V) (G1 H1 : Hp), Ext [a] G H G1 H1 → Dr K c a ns G1 H1 → H p = none → canBe n m = true → G1 p = some (.tup m) → Q (.ref p) H1
theorem other_ne {n i v : Int} (n2 : 2 ≤ n) (n10 : n ≤ 10) (i0 : 0 ≤ i) (i1 : i < n) (v0 : 0 ≤ v) (v1 : v < n - 1) : 0 ≤ (i + 1 + v) % n ∧ (i + 1 + v) % n < n ∧ i ≠ (i + 1 + v) % n := by
  have : n = 2 ∨ n = 3 ∨ n = 4 ∨ n = 5 ∨ n = 6 ∨ n = 7 ∨ n = 8 ∨ n = 9 ∨ n = 10 := by omega
  rcases this with rfl | rfl | rfl | rfl | rfl | rfl | rfl | rfl | rfl <;> omega
theorem pure_law_move (vs : List V) (Q : VK) (E : XK) (h : spLawMove K vs H Q E) : t__law_move K w (spDrawn K) { nx := fun _ H1 => Q .non H1, rt := Q } (start ["_law_state", "_law_boxes_here", "_law_one", "_law_other"] vs) H := by
  obtain ⟨c, a, ns, G, n, rfl, d, n2, n10, q⟩ := h
  unfold t__law_move
  walk_at "go"
  refine d.draw (M := [a]) (by simp) (by omega) (by omega) fun i H1 i0 i1 e1 d1 k1 => ?_
  walk_at "go"
  refine d1.draw (M := [a]) (by simp) (by omega) (by omega) fun v H2 v0 v1 e2 d2 k2 => ?_
  walk_at "go"
  refine k_mod (by omega) ?_
  obtain ⟨o0, o1, one⟩ := other_ne n2 n10 i0 i1 v0 v1
  generalize (i + 1 + v) % n = j at *
  walk_at "go"
  refine ⟨sz1 (by simp), fun p hp => ?_⟩
  walk_at "go"
  have d3 := d2.tmp (o := .lst [.str "copy", .str "swap"]) hp
  have e3 : Ext [a] G H G _ := (e1.trans e2).tmp (o := .lst [.str "copy", .str "swap"]) hp
  refine d3.draw (M := [a]) (by simp) (by decide) (by decide) fun x4 H6 x40 x41 e6 d6 k6 => ?_
  have hp6 : H6 p = some (.lst [.str "copy", .str "swap"]) := by rw [k6 p (d2.ne hp), upd_same]
  have e36 := e3.trans e6
  have can : ∀ u : Str, u = "copy" ∨ u = "swap" → canBe n [.str u, .int i, .int j] = true := fun u hu => by
    show ((decide (u = "copy") || decide (u = "swap")) && (decide (0 ≤ i ∧ i < n) && (decide (0 ≤ j ∧ j < n) && !decide (i = j)))) = true
    rw [decide_eq_true (show 0 ≤ i ∧ i < n from ⟨i0, i1⟩), decide_eq_true (show 0 ≤ j ∧ j < n from ⟨o0, o1⟩), decide_eq_false one]
    rcases hu with rfl | rfl <;> decide
  have fin : ∀ u : Str, u = "copy" ∨ u = "swap" → tCons (tVar 2) (tCons (tVar 3) tNil) [some (.ref a), some (.int n), some (.int i), some (.int j)] H6 (fun xs H2 => (V.str u :: xs).length ≤ sizeLine ∧ ∀ p, H2 p = none → Q (.ref p) (upd H2 p (.tup (V.str u :: xs)))) := fun u hu => by
    walk_at "go"
    refine ⟨sz1 (by show 3 ≤ 100000; decide), fun p2 hp2 => ?_⟩
    exact q p2 _ _ _ (e36.new hp2) (d6.new hp2) (e36.d p2 hp2) (can u hu) upd_same
  have c4 : x4 = 0 ∨ x4 = 1 := by omega
  rcases c4 with z | z
  · subst z; exact k_ixL (SqL.of hp6) rfl (fin _ (.inl rfl))
  · subst z; exact k_ixL (SqL.of hp6) rfl (fin _ (.inr rfl))
/-- drawn worths -/
def spLawWorths (K : PySem.W.Frag) : Sp := fun vs H Q _ => ∃ (c a : Addr) (ns : List Int) (G : Hp) (n : Int), vs = [.ref a, .int n] ∧ Dr K c a ns G H ∧ 1 ≤ n ∧ n ≤ 10 ∧
  ∀ (p : Addr) (ws : List Int) (G1 H1 : Hp), Ext [a] G H G1 H1 → Dr K c a ns G1 H1 → H p = none → (ws.length : Int) = n → G1 p = some (.lst (ws.map V.int)) → Q (.ref p) H1
theorem pure_law_worths (vs : List V) (Q : VK) (E : XK) (h : spLawWorths K vs H Q E) : t__law_worths K w (spDrawn K) { nx := fun _ H1 => Q .non H1, rt := Q } (start ["_law_state", "_law_boxes_here", "_law_far_here", "_law_box"] vs) H := by
  obtain ⟨c, a, ns, G, n, rfl, d, n1, n10, q⟩ := h
  unfold t__law_worths
  walk_at "go"
  refine k_pow (by unfold CPow; decide) ?_
  walk_at "go"
  refine ⟨sz1 (by simp), fun p hp => ?_⟩
  walk_at "go"
  have d1 := d.tmp (o := .lst [.int 5, .int 100, .int (10 ^ (29 : Int).toNat)]) hp
  have e1 : Ext [a] G H G _ := (Ext.refl d.s).tmp (o := .lst [.int 5, .int 100, .int (10 ^ (29 : Int).toNat)]) hp
  refine d1.draw (M := [a]) (by simp) (by decide) (by decide) fun x1 H1 x10 x11 e2 d2 k2 => ?_
  have hp1 : H1 p = some (.lst [.int 5, .int 100, .int (10 ^ (29 : Int).toNat)]) := by rw [k2 p (d.ne hp), upd_same]
  have e12 := e1.trans e2
  have fin : ∀ f : Int, 0 < f → f < 2 ^ 200 → tRet (tLc (iRng1 (tCons (tVar 1) tNil)) (gName 3) tYes (tOp vSub (tCall (spDrawn K) [] E0 (tCons (tVar 0) (tCons (tVar 2) tNil))) (tOp vMul (tCall (spDrawn K) [] E0 (tCons (tVar 0) (tCons (tC (.int 2)) tNil))) (tVar 2))) [3]) { nx := fun _ H1 => Q .non H1, rt := Q } [some (.ref a), some (.int n), some (.int f), none] H1 := by
    intro f f0 f1
    walk_at "go"
    refine ⟨_, rfl, by omega, by omega, ?_⟩
    refine lcR (M := [a]) d2.s (fun m hm => by rw [List.mem_singleton.mp hm]; exact d2.st.ne) (by omega) (fun i acc G4 H4 => Stt c a H4 ∧ ∃ zs : List Int, acc = zs.map V.int ∧ zs.length = i)
      (fun i acc G4 H4 H5 hk ⟨st, z⟩ => ⟨st.of (hk a (by simp)), z⟩) ⟨d2.st, [], rfl, rfl⟩ (fun i acc G4 H4 Ry Rn hi e4 ⟨st, zs, ea, lz⟩ hy hn => ?_) (fun D acc G4 H4 e4 hD gD hD4 hl ⟨st, zs, ea, lz⟩ => ?_)
    · have d4 := d2.next e4 st
      walk_at "go"
      refine ⟨rfl, ?_⟩
      walk_at "go"
      refine d4.draw (M := [a]) (by simp) f0 f1 fun y1 H6 y10 y11 e6 d6 k6 => ?_
      walk_at "go"
      refine d6.draw (M := [a]) (by simp) (by decide) (by decide) fun y2 H7 y20 y21 e7 d7 k7 => ?_
      walk_at "go"
      have cy : y2 = 0 ∨ y2 = 1 := by omega
      have done : ∀ z : Int, Ry (.int (y1 - z)) H7 := fun z => hy _ _ _ (e6.trans e7) ⟨d7.st, zs ++ [y1 - z], by rw [ea, List.map_append]; rfl, by rw [List.length_append, lz]; rfl⟩
      rcases cy with rfl | rfl
      · refine k_mul (.inl (by decide)) ?_
        walk_at "go"
        exact done _
      · refine k_mul (.inl (by decide)) ?_
        walk_at "go"
        exact done _
    · subst ea
      have e5 : Ext [a] _ _ (upd G4 D (.lst (zs.map V.int))) H4 := e4.frz hD gD hD4
      have nDa : D ≠ a := d2.ne hD
      refine q D zs _ H4 (e12.trans e5) (d2.next e5 st) ?_ (by omega) upd_same
      have := e12.d D hD
      exact this
  have c1 : x1 = 0 ∨ x1 = 1 ∨ x1 = 2 := by omega
  rcases c1 with z | z | z
  · subst z; exact k_ixL (SqL.of hp1) rfl (fin _ (by decide) (by decide))
  · subst z; exact k_ixL (SqL.of hp1) rfl (fin _ (by decide) (by decide))
  · subst z; exact k_ixL (SqL.of hp1) rfl (fin _ ten29.2 ten29.1)
end
end CX
namespace CX
open PySem PySem.Spec PyProof.Rows L2 MV
local macro_rules | `(tactic| walk_at "go") => `(tactic| repeat (first
  | with_reducible refine MV.k_seq ?_ | with_reducible refine MV.k_asg ?_ | with_reducible refine MV.k_name ?_ | with_reducible refine MV.k_op ?_ | ((with_reducible apply MV.k_var); exact rfl) | with_reducible refine MV.k_c ?_
  | with_reducible refine MV.k_add ?_ | with_reducible refine MV.k_sub ?_ | with_reducible refine MV.k_lt ?_ | with_reducible refine MV.k_le ?_ | with_reducible refine MV.k_gt ?_ | with_reducible refine MV.k_ge ?_ | with_reducible refine MV.k_eqI ?_ | with_reducible refine MV.k_neI ?_
  | with_reducible refine MV.k_test ?_ | with_reducible refine MV.k_B ?_ | with_reducible refine MV.k_bl ?_ | with_reducible refine MV.k_blV ?_ | with_reducible refine MV.k_and ?_ | with_reducible refine MV.k_or ?_ | with_reducible refine MV.k_not ?_ | with_reducible refine MV.k_andV ?_ | with_reducible refine MV.k_orV ?_ | with_reducible refine MV.k_notV ?_
  | with_reducible refine MV.k_if ?_ | with_reducible refine MV.k_tru ?_ | with_reducible refine MV.k_chain ?_ | with_reducible refine MV.k_next ?_ | with_reducible refine MV.k_drop ?_ | with_reducible refine MV.k_ret ?_ | with_reducible refine MV.k_retN ?_ | with_reducible refine MV.k_ifS ?_ | with_reducible refine MV.k_brk ?_ | with_reducible refine MV.k_cont ?_
  | with_reducible refine MV.k_nil ?_ | with_reducible refine MV.k_cons ?_ | with_reducible refine MV.k_tup ?_ | with_reducible refine MV.k_lst ?_ | with_reducible refine MV.k_cb ?_ | with_reducible refine MV.k_call ?_ | with_reducible refine MV.k_gnil ?_ | with_reducible refine MV.k_gcons ?_ | with_reducible refine MV.k_gsub ?_
  | with_reducible refine MV.k_bm ?_ | with_reducible refine MV.k_bm0 ?_ | with_reducible refine MV.k_un ?_ | with_reducible refine MV.k_neg ?_ | with_reducible refine MV.k_isN ?_ | with_reducible refine MV.k_notN ?_ | with_reducible refine L2.iteT ?_ | with_reducible refine L2.iteF ?_
  | with_reducible refine MV.k_iList ?_ | with_reducible refine MV.k_iTup ?_ | with_reducible refine MV.k_iRng1 ?_ | with_reducible refine MV.k_lc ?_ | with_reducible refine MV.k_for ?_
  | with_reducible refine MV.k_yes ?_ | with_reducible refine MV.k_dput ?_ | with_reducible refine MV.k_dget ?_ | with_reducible refine MV.k_dget1 ?_ | with_reducible refine MV.k_sl ?_ | with_reducible refine MV.k_nopart ?_ | with_reducible refine MV.k_part ?_ | with_reducible refine MV.k_pint ?_ | with_reducible refine MV.k_dnew ?_ | with_reducible refine MV.k_lstRg ?_ | with_reducible refine MV.k_rg1 ?_
  | with_reducible refine CX.k_callS ?_ | with_reducible refine CX.k_iEnum ?_))
section
variable {K : PySem.W.Frag} {w : World} {G H : Hp} {c a : Addr} {ns : List Int} {σ : L2.St}
/-! ### tuples made one behind the other -/
def tTups : List TA → TA
  | [] => tNil
  | A :: r => tCons (tTup A) (tTups r)
/-- what is read off the slots alone -/
def Reads (σ : L2.St) (A : TA) (xs : List V) : Prop := ∀ (H : Hp) (QA : List V → Hp → Prop), QA xs H → A σ H QA
theorem paired_mono {α β : Type} {F F' : α → β → Prop} (h : ∀ x y, F x y → F' x y) : ∀ {xs : List α} {ys : List β}, Paired F xs ys → Paired F' xs ys
  | _, _, .nil => .nil
  | _, _, .cons a b => .cons (h _ _ a) (paired_mono h b)
theorem paired_at {α β : Type} {F : α → β → Prop} : ∀ {xs : List α} {ys : List β}, Paired F xs ys → ∀ (i : Nat) (x : α) (y : β), xs[i]? = some x → ys[i]? = some y → F x y
  | _, _, .nil, i, x, y, h, _ => by simp at h
  | _, _, .cons p q, 0, x, y, h, h2 => by
    simp at h h2
    subst h h2
    exact p
  | _, _, .cons p q, i + 1, x, y, h, h2 => paired_at q i x y (by simpa using h) (by simpa using h2)
theorem paired_len {α β : Type} {F : α → β → Prop} : ∀ {xs : List α} {ys : List β}, Paired F xs ys → xs.length = ys.length
  | _, _, .nil => rfl
  | _, _, .cons _ q => by simp [paired_len q]
theorem paired_take {α β : Type} {F : α → β → Prop} : ∀ (n : Nat) {xs : List α} {ys : List β}, Paired F xs ys → Paired F (xs.take n) (ys.take n)
  | 0, _, _, _ => .nil
  | n + 1, _, _, .nil => .nil
  | n + 1, _, _, .cons p q => .cons p (paired_take n q)
theorem paired_drop {α β : Type} {F : α → β → Prop} : ∀ (n : Nat) {xs : List α} {ys : List β}, Paired F xs ys → Paired F (xs.drop n) (ys.drop n)
  | 0, _, _, h => h
  | n + 1, _, _, .nil => .nil
  | n + 1, _, _, .cons p q => paired_drop n q
theorem paired_both {α β : Type} {F : α → β → Prop} : ∀ {xs xs2 : List α} {ys ys2 : List β}, Paired F xs ys → Paired F xs2 ys2 → Paired F (xs ++ xs2) (ys ++ ys2)
  | _, _, _, _, .nil, h => h
  | _, _, _, _, .cons p q, h => .cons p (paired_both q h)
theorem paired_rep {α β : Type} {F : α → β → Prop} {x : α} {y : β} (h : F x y) : ∀ n : Nat, Paired F (List.replicate n x) (List.replicate n y)
  | 0 => .nil
  | n + 1 => .cons h (paired_rep h n)
abbrev TsAt (K : PySem.W.Frag) (G : Hp) : List Addr → List (List V) → Prop := Paired fun t m => SqT K G t m
theorem TsAt.mono {G1 : Hp} {ts : List Addr} {ms : List (List V)} (h : TsAt K G ts ms) (s : Same G G1) : TsAt K G1 ts ms := paired_mono (fun _ _ q => sqT_mono s q) h
theorem TsAt.ms {l : Addr} {ts : List Addr} {ms : List (List V)} (h : TsAt K G ts ms) (hl : SqL K G l (ts.map V.ref)) : MsAt K G l ms := ⟨⟨ts, hl, paired_len h, fun i t m e1 e2 => paired_at h i t m e1 e2⟩⟩
theorem tups_new : ∀ {As : List TA} {mss : List (List V)}, Paired (Reads σ) As mss → (∀ m, m ∈ mss → m.length ≤ 100) → ∀ {G H : Hp} {QA : List V → Hp → Prop}, Dr K c a ns G H →
    (∀ (ts : List Addr) (G1 H1 : Hp), Ext [] G H G1 H1 → Dr K c a ns G1 H1 → TsAt K G1 ts mss → QA (ts.map V.ref) H1) → tTups As σ H QA
  | _, _, .nil, _, G, H, QA, d, q => q [] G H (Ext.refl d.s) d .nil
  | _, _, .cons (l₁ := As) (l₂ := mss) rd r, sm, G, H, QA, d, q => by
    refine rd H _ ⟨sz1 (Nat.le_trans (sm _ (List.mem_cons_self ..)) (by decide)), fun t nt => ?_⟩
    refine tups_new r (fun m hm => sm m (List.mem_cons_of_mem _ hm)) (d.new nt) fun ts G1 H1 e1 d1 h1 => ?_
    refine q (t :: ts) G1 H1 (((Ext.refl d.s).new nt).trans e1) d1 (.cons ?_ h1)
    exact SqT.of (e1.g _ _ upd_same)
/-- the odd moves of the law -/
def oddL (x : Int) : List (List V) := [[.str "copy", .int 0, .int 0], [.str "swap", .int 1, .int 1], [.str "move", .int 0, .int 1], [.str "", .int 0, .int 1], [.str "copy", .int x, .int 0], [.str "copy", .int 0, .int x], [],
  [.str "swap", .int x, .int (x + 1)], [.str "swap", .int 0, .int x], [.str "copy", .int 0], [.str "copy", .int 0, .int 1, .int 0], [.str "call"], [.str "push", .int 0]]
theorem canBe_false {n : Int} {u : Str} {i j : Int} (h : (u ≠ "copy" ∧ u ≠ "swap") ∨ ¬ (0 ≤ i ∧ i < n) ∨ ¬ (0 ≤ j ∧ j < n) ∨ i = j) : canBe n [.str u, .int i, .int j] = false := by
  show ((decide (u = "copy") || decide (u = "swap")) && (decide (0 ≤ i ∧ i < n) && (decide (0 ≤ j ∧ j < n) && !decide (i = j)))) = false
  rcases h with ⟨h1, h2⟩ | h | h | h
  · rw [decide_eq_false h1, decide_eq_false h2]; rfl
  · rw [decide_eq_false h]; simp
  · rw [decide_eq_false h]; simp
  · rw [decide_eq_true h]; simp
theorem odd_not {n x : Int} (hx : x < 0 ∨ n - 1 < x) : ∀ m, m ∈ oddL x → Wf m ∧ canBe n m = false := by
  intro m hm
  simp only [oddL, List.mem_cons, List.not_mem_nil, or_false] at hm
  have w3 : ∀ (u : Str) (i j : Int), Wf [.str u, .int i, .int j] := fun u i j => .inr ⟨u, i, j, rfl⟩
  rcases hm with rfl | rfl | rfl | rfl | rfl | rfl | rfl | rfl | rfl | rfl | rfl | rfl | rfl
  · exact ⟨w3 _ _ _, canBe_false (.inr (.inr (.inr rfl)))⟩
  · exact ⟨w3 _ _ _, canBe_false (.inr (.inr (.inr rfl)))⟩
  · exact ⟨w3 _ _ _, canBe_false (.inl ⟨by decide, by decide⟩)⟩
  · exact ⟨w3 _ _ _, canBe_false (.inl ⟨by decide, by decide⟩)⟩
  · exact ⟨w3 _ _ _, canBe_false (.inr (.inl (by omega)))⟩
  · exact ⟨w3 _ _ _, canBe_false (.inr (.inr (.inl (by omega))))⟩
  · exact ⟨.inl (by decide), rfl⟩
  · exact ⟨w3 _ _ _, canBe_false (by omega)⟩
  · exact ⟨w3 _ _ _, canBe_false (.inr (.inr (.inl (by omega))))⟩
  · exact ⟨.inl (by show (2 : Nat) ≠ 3; decide), rfl⟩
  · exact ⟨.inl (by show (4 : Nat) ≠ 3; decide), rfl⟩
  · exact ⟨.inl (by show (1 : Nat) ≠ 3; decide), rfl⟩
  · exact ⟨.inl (by show (2 : Nat) ≠ 3; decide), rfl⟩
/-! ### the drawn moves -/
theorem moves_drawn {n : Int} {s0 s2 s4 s5 s6 s7 s8 s9 s10 s11 s12 s13 : Option V} {R : VK} (d : Dr K c a ns G H) (n2 : 2 ≤ n) (n10 : n ≤ 10)
    (q : ∀ (ml : Addr) (ts : List Addr) (ms : List (List V)) (G1 H1 : Hp), Ext [a] G H G1 H1 → Dr K c a ns G1 H1 → H ml = none → G1 ml = some (.lst (ts.map V.ref)) → TsAt K G1 ts ms → ms.length ≤ 120 → (∀ m, m ∈ ms → canBe n m = true) → R (.ref ml) H1) :
    tLc (iRng1 (tCons (tCall (spDrawn K) [] E0 (tCons (tVar 1) (tCons (tOp (rIxL K) (tLst (tCons (tC (.int 21)) (tCons (tC (.int 21)) (tCons (tC (.int 21)) (tCons (tC (.int 121)) tNil))))) (tCall (spDrawn K) [] E0 (tCons (tVar 1) (tCons (tC (.int 4)) tNil)))) tNil))) tNil)) (gName 13) tYes (tCall (spLawMove K) [] E0 (tCons (tVar 1) (tCons (tVar 3) tNil))) [13]
      [s0, some (.ref a), s2, some (.int n), s4, s5, s6, s7, s8, s9, s10, s11, s12, s13] H R := by
  walk_at "go"
  refine ⟨sz1 (by simp), fun p hp => ?_⟩
  walk_at "go"
  have d1 := d.tmp (o := .lst [.int 21, .int 21, .int 21, .int 121]) hp
  have e1 : Ext [a] G H G _ := (Ext.refl d.s).tmp (o := .lst [.int 21, .int 21, .int 21, .int 121]) hp
  refine d1.draw (M := [a]) (by simp) (by decide) (by decide) fun x1 H1 x10 x11 e2 d2 k2 => ?_
  have hp1 : H1 p = some (.lst [.int 21, .int 21, .int 21, .int 121]) := by rw [k2 p (d.ne hp), upd_same]
  have e12 := e1.trans e2
  have hx : ∃ many : Int, atI ([.int 21, .int 21, .int 21, .int 121] : List V) x1 = some (.int many) ∧ 0 < many ∧ many ≤ 121 := by
    have c1 : x1 = 0 ∨ x1 = 1 ∨ x1 = 2 ∨ x1 = 3 := by omega
    rcases c1 with rfl | rfl | rfl | rfl
    · exact ⟨21, rfl, by decide, by decide⟩
    · exact ⟨21, rfl, by decide, by decide⟩
    · exact ⟨21, rfl, by decide, by decide⟩
    · exact ⟨121, rfl, by decide, by decide⟩
  obtain ⟨many, hm, m0, m1⟩ := hx
  refine k_ixL (SqL.of hp1) hm ?_
  walk_at "go"
  refine d2.draw (M := [a]) (by simp) m0 (by omega) fun r H3 r0 r1 e3 d3 k3 => ?_
  walk_at "go"
  refine ⟨_, rfl, by omega, by omega, ?_⟩
  refine lcR (M := [a]) d3.s (fun m hm => by rw [List.mem_singleton.mp hm]; exact d3.st.ne) (by omega) (fun i acc G4 H4 => Stt c a H4 ∧ ∃ (ts : List Addr) (ms : List (List V)), acc = ts.map V.ref ∧ TsAt K G4 ts ms ∧ ms.length = i ∧ ∀ m, m ∈ ms → canBe n m = true)
    (fun i acc G4 H4 H5 hk ⟨st, z⟩ => ⟨st.of (hk a (by simp)), z⟩) ⟨d3.st, [], [], rfl, .nil, rfl, fun m h => nomatch h⟩ (fun i acc G4 H4 Ry Rn hi e4 ⟨st, ts, ms, ea, ta, lm, cb⟩ hy hn => ?_) (fun D acc G4 H4 e4 hD gD hD4 hl ⟨st, ts, ms, ea, ta, lm, cb⟩ => ?_)
  · have d4 := d3.next e4 st
    walk_at "go"
    refine ⟨rfl, ?_⟩
    walk_at "go"
    refine ⟨c, a, ns, G4, n, rfl, d4, n2, n10, fun t m G5 H5 e5 d5 nt cm gt => ?_⟩
    refine hy _ _ _ e5 ⟨d5.st, ts ++ [t], ms ++ [m], by rw [ea, List.map_append]; rfl, paired_both (ta.mono e5.g) (.cons (SqT.of gt) .nil), by rw [List.length_append, lm]; rfl, fun m2 h2 => ?_⟩
    rcases List.mem_append.mp h2 with h2 | h2
    · exact cb m2 h2
    · rw [List.mem_singleton.mp h2]; exact cm
  · subst ea
    have e5 : Ext [a] _ _ (upd G4 D (.lst (ts.map V.ref))) H4 := e4.frz hD gD hD4
    exact q D ts ms _ H4 ((e12.trans e3).trans e5) (d3.next e5 st) ((e12.trans e3).d D hD) upd_same (ta.mono (same_new gD)) (by omega) cb
end
end CX
namespace K03
open PySem PySem.Spec PyProof.Rows L2 MV
def topS (i : Nat) : Stmt := PySem.Challenge.pw_movesatonce_k03_single_moves.main.body.getD i (.Pass ⟨0, 0, 0, 0⟩)
structure Txt (P : Program) (K : PySem.W.Frag) (mg : Str → Option Value) : Prop where
  m_ValueError : mg "ValueError" = none
  m_all : mg "all" = none
  m_bool : mg "bool" = none
  m_enumerate : mg "enumerate" = none
  m_int : mg "int" = none
  m_isinstance : mg "isinstance" = none
  m_len : mg "len" = none
  m_list : mg "list" = none
  m_max : mg "max" = none
  m_range : mg "range" = none
  m_set : mg "set" = none
  m_str : mg "str" = none
  m_tuple : mg "tuple" = none
  g_FEWEST_BOXES : ∃ u, mg "FEWEST_BOXES" = some u ∧ RelV (.int 1) u
  g_MOST_BOXES : ∃ u, mg "MOST_BOXES" = some u ∧ RelV (.int 10) u
  x_BadCall : mg "BadCall" = some (.ref (He.ga K "BadCall"))
  q_BadCall : EX.PlainX K "BadCall"
  x_BadHouse : mg "BadHouse" = some (.ref (He.ga K "BadHouse"))
  q_BadHouse : EX.PlainX K "BadHouse"
  x_BadLead : mg "BadLead" = some (.ref (He.ga K "BadLead"))
  q_BadLead : EX.PlainX K "BadLead"
  x_BadMove : mg "BadMove" = some (.ref (He.ga K "BadMove"))
  b_BadMove : PySem.BX.BadTxt K P (He.ga K "BadMove") (He.ma K (He.ga K "BadMove") "__init__") "number"
  x_BadSpare : mg "BadSpare" = some (.ref (He.ga K "BadSpare"))
  q_BadSpare : EX.PlainX K "BadSpare"
  x_BadText : mg "BadText" = some (.ref (He.ga K "BadText"))
  b_BadText : PySem.BX.BadTxt K P (He.ga K "BadText") (He.ma K (He.ga K "BadText") "__init__") "place"
  x_BadWord : mg "BadWord" = some (.ref (He.ga K "BadWord"))
  q_BadWord : EX.PlainX K "BadWord"
  x_MoveError : mg "MoveError" = some (.ref (He.ga K "MoveError"))
  x_NoWay : mg "NoWay" = some (.ref (He.ga K "NoWay"))
  q_NoWay : EX.PlainX K "NoWay"
section
variable {P : Program} {w : World} {K : PySem.W.Frag} {mg : Str → Option Value} {base : Heap}
/-! ### is_count -/
abbrev d_is_count : Stmt := topS 13
abbrev N_is_count : List Str := ["boxes"]
theorem sc_is_count : FnScope N_is_count ["boxes"] (defScope d_is_count) := ⟨rfl, rfl, rfl, by decide +kernel, rfl, by decide +kernel, by decide +kernel⟩
def t_is_count (K : PySem.W.Frag) (w : World) : TS :=
  (tRet (tChain vLe vLe (tC (.int 1)) (tVar 0) (tC (.int 10))))
theorem der_is_count   {k : Nat} (T : Txt P K mg) {f : Addr} {cdv : Value} {A : Around} {outer : List Env} {s : Shared} {H : Hp} {E : XK} (hr : Room k (A.deeper (envOfC "is_count" (defScope d_is_count) s.heap.objs.size f cdv))) :
    PSs (cxOf CX0 P w K mg base N_is_count "is_count" (defScope d_is_count) f cdv A outer s H E).nox (defBody d_is_count) (t_is_count K w) :=
  (pss_one (ps_ret (pe_chain op_le op_le (C8.pe_gc (by rfl) T.g_FEWEST_BOXES) (pv 0) (C8.pe_gc (by rfl) T.g_MOST_BOXES))))
theorem fn_is_count   {k : Nat} {sp : Sp} (T : Txt P K mg) {f : Addr} {fd : FuncData} (F : Fun K "is_count" "is_count" d_is_count f fd) (len : ∀ vs H Q E, sp vs H Q E → vs.length = 1)
    (h : ∀ vs H Q E, sp vs H Q E → t_is_count K w { nx := fun _ H1 => Q .non H1, rt := Q } (start N_is_count vs) H) : FnOk P w K mg base CX0 (k + 1) f fd ["boxes"] sp :=
  F.ok sc_is_count len (fun cdv A outer s H vs Q E hr q => ⟨_, der_is_count T hr, h vs H Q E q⟩)
theorem cal_is_count   {k : Nat} {sp : Sp} (T : Txt P K mg) {f : Addr} {fd : FuncData} (F : Fun K "is_count" "is_count" d_is_count f fd) (hb : Binds K fd ["boxes"] []) (hm : mg "is_count" = some (.ref f)) (len : ∀ vs H Q E, sp vs H Q E → vs.length = 1)
    (h : ∀ vs H Q E, sp vs H Q E → t_is_count K w { nx := fun _ H1 => Q .non H1, rt := Q } (start N_is_count vs) H) : C8.Cal P w K mg base (k + 1) "is_count" sp [] :=
  ⟨f, fd, ["boxes"], [], fn_is_count T F len h, hm, F.kp, hb, .nil⟩
/-! ### check_boxes -/
abbrev d_check_boxes : Stmt := topS 14
abbrev N_check_boxes : List Str := ["boxes"]
theorem sc_check_boxes : FnScope N_check_boxes ["boxes"] (defScope d_check_boxes) := ⟨rfl, rfl, rfl, by decide +kernel, rfl, by decide +kernel, by decide +kernel⟩
def t_check_boxes (K : PySem.W.Frag) (w : World) (s_is_count : Sp) (E : XK) : TS :=
  (tIfS (tNot (tB (tCall s_is_count [] E0 (tCons (tVar 0) tNil)))) (EX.tRaiseOwn (He.ga K "BadLead") (fun cls d _ H => E cls d H)) tNext)
theorem der_check_boxes {k_is_count : Nat} {s_is_count : Sp} {k : Nat} (T : Txt P K mg) (c_is_count : C8.Cal P w K mg base k_is_count "is_count" s_is_count []) (l_is_count : k_is_count ≤ k) {f : Addr} {cdv : Value} {A : Around} {outer : List Env} {s : Shared} {H : Hp} {E : XK} (hr : Room k (A.deeper (envOfC "check_boxes" (defScope d_check_boxes) s.heap.objs.size f cdv))) :
    PSs (cxOf (L2.CX P w) P w K mg base N_check_boxes "check_boxes" (defScope d_check_boxes) f cdv A outer s H E) (defBody d_check_boxes) (t_check_boxes K w s_is_count E) :=
  (pss_one (ps_if (pt_not (pt_val (C8.pe_c c_is_count hr (by omega) (by rfl) (pa_cons (pv 0) pa_nil)))) (pss_one (EX.ps_raiseOwn rfl T.q_BadLead T.x_BadLead (takes_of rfl rfl rfl rfl) (by rfl))) pss_nil))
theorem fn_check_boxes {k_is_count : Nat} {s_is_count : Sp} {k : Nat} {sp : Sp} (T : Txt P K mg) {f : Addr} {fd : FuncData} (F : Fun K "check_boxes" "check_boxes" d_check_boxes f fd) (c_is_count : C8.Cal P w K mg base k_is_count "is_count" s_is_count []) (l_is_count : k_is_count ≤ k) (len : ∀ vs H Q E, sp vs H Q E → vs.length = 1)
    (h : ∀ vs H Q E, sp vs H Q E → t_check_boxes K w s_is_count E { nx := fun _ H1 => Q .non H1, rt := Q } (start N_check_boxes vs) H) : FnOk P w K mg base (L2.CX P w) (k + 1) f fd ["boxes"] sp :=
  F.okX sc_check_boxes len (fun cdv A outer s H vs Q E hr q => ⟨_, der_check_boxes T c_is_count l_is_count hr, h vs H Q E q⟩)
theorem cal_check_boxes {k_is_count : Nat} {s_is_count : Sp} {k : Nat} {sp : Sp} (T : Txt P K mg) {f : Addr} {fd : FuncData} (F : Fun K "check_boxes" "check_boxes" d_check_boxes f fd) (hb : Binds K fd ["boxes"] []) (hm : mg "check_boxes" = some (.ref f)) (c_is_count : C8.Cal P w K mg base k_is_count "is_count" s_is_count []) (l_is_count : k_is_count ≤ k) (len : ∀ vs H Q E, sp vs H Q E → vs.length = 1)
    (h : ∀ vs H Q E, sp vs H Q E → t_check_boxes K w s_is_count E { nx := fun _ H1 => Q .non H1, rt := Q } (start N_check_boxes vs) H) : EX.CalX P w K mg base (k + 1) "check_boxes" sp :=
  ⟨f, fd, ["boxes"], fn_check_boxes T F c_is_count l_is_count len h, hm, F.kp, hb⟩
/-! ### is_box -/
abbrev d_is_box : Stmt := topS 15
abbrev N_is_box : List Str := ["boxes", "box"]
theorem sc_is_box : FnScope N_is_box ["boxes", "box"] (defScope d_is_box) := ⟨rfl, rfl, rfl, by decide +kernel, rfl, by decide +kernel, by decide +kernel⟩
def t_is_box (K : PySem.W.Frag) (w : World) : TS :=
  (tRet (tChain vLe vLt (tC (.int 0)) (tVar 1) (tVar 0)))
theorem der_is_box   {k : Nat} (T : Txt P K mg) {f : Addr} {cdv : Value} {A : Around} {outer : List Env} {s : Shared} {H : Hp} {E : XK} (hr : Room k (A.deeper (envOfC "is_box" (defScope d_is_box) s.heap.objs.size f cdv))) :
    PSs (cxOf CX0 P w K mg base N_is_box "is_box" (defScope d_is_box) f cdv A outer s H E).nox (defBody d_is_box) (t_is_box K w) :=
  (pss_one (ps_ret (pe_chain op_le op_lt pe_int (pv 1) (pv 0))))
theorem fn_is_box   {k : Nat} {sp : Sp} (T : Txt P K mg) {f : Addr} {fd : FuncData} (F : Fun K "is_box" "is_box" d_is_box f fd) (len : ∀ vs H Q E, sp vs H Q E → vs.length = 2)
    (h : ∀ vs H Q E, sp vs H Q E → t_is_box K w { nx := fun _ H1 => Q .non H1, rt := Q } (start N_is_box vs) H) : FnOk P w K mg base CX0 (k + 1) f fd ["boxes", "box"] sp :=
  F.ok sc_is_box len (fun cdv A outer s H vs Q E hr q => ⟨_, der_is_box T hr, h vs H Q E q⟩)
theorem cal_is_box   {k : Nat} {sp : Sp} (T : Txt P K mg) {f : Addr} {fd : FuncData} (F : Fun K "is_box" "is_box" d_is_box f fd) (hb : Binds K fd ["boxes", "box"] []) (hm : mg "is_box" = some (.ref f)) (len : ∀ vs H Q E, sp vs H Q E → vs.length = 2)
    (h : ∀ vs H Q E, sp vs H Q E → t_is_box K w { nx := fun _ H1 => Q .non H1, rt := Q } (start N_is_box vs) H) : C8.Cal P w K mg base (k + 1) "is_box" sp [] :=
  ⟨f, fd, ["boxes", "box"], [], fn_is_box T F len h, hm, F.kp, hb, .nil⟩
/-! ### check_lead -/
abbrev d_check_lead : Stmt := topS 16
abbrev N_check_lead : List Str := ["boxes", "lead", "goals", "pair", "goal", "source"]
theorem sc_check_lead : FnScope N_check_lead ["boxes", "lead"] (defScope d_check_lead) := ⟨rfl, rfl, rfl, by decide +kernel, rfl, by decide +kernel, by decide +kernel⟩
def t_check_lead (K : PySem.W.Frag) (w : World) (s_check_boxes : Sp) (s_is_box : Sp) (E : XK) : TS :=
  (tSeq (tDrop (tCallS s_check_boxes (WE (fun cls d _ H => E cls d H)) (tCons (tVar 0) tNil)))
    (tSeq (tAsg (tCB (rSet0 w) tNil) (gName 2))
    (tFor (iList K (tVar 1)) (gName 3) (tSeq (tIfS (tTest (tOp rNe (tCB (vLen K) (tCons (tVar 3) tNil)) (tC (.int 2)))) (EX.tRaiseOwn (He.ga K "BadLead") (fun cls d _ H => E cls d H)) tNext)
    (tSeq (tAsg (tVar 3) (gTup K 2 (gCons (gName 4) (gCons (gName 5) gNil))))
    (tSeq (tIfS (tOr (tNot (tB (tCall s_is_box [] E0 (tCons (tVar 0) (tCons (tVar 4) tNil))))) (tNot (tB (tCall s_is_box [] E0 (tCons (tVar 0) (tCons (tVar 5) tNil)))))) (EX.tRaiseOwn (He.ga K "BadLead") (fun cls d _ H => E cls d H)) tNext)
    (tSeq (tIfS (tTest (tOp (rSIn w) (tVar 4) (tVar 2))) (EX.tRaiseOwn (He.ga K "BadLead") (fun cls d _ H => E cls d H)) tNext)
    (tDrop (tSAdd w (tVar 2) (tCons (tVar 4) tNil))))))))))
theorem der_check_lead {k_check_boxes : Nat} {k_is_box : Nat} {s_check_boxes : Sp} {s_is_box : Sp} {k : Nat} (T : Txt P K mg) (c_check_boxes : EX.CalX P w K mg base k_check_boxes "check_boxes" s_check_boxes) (l_check_boxes : k_check_boxes ≤ k) (c_is_box : C8.Cal P w K mg base k_is_box "is_box" s_is_box []) (l_is_box : k_is_box ≤ k) {f : Addr} {cdv : Value} {A : Around} {outer : List Env} {s : Shared} {H : Hp} {E : XK} (hr : Room k (A.deeper (envOfC "check_lead" (defScope d_check_lead) s.heap.objs.size f cdv))) :
    PSs (cxOf (L2.CX P w) P w K mg base N_check_lead "check_lead" (defScope d_check_lead) f cdv A outer s H E) (defBody d_check_lead) (t_check_lead K w s_check_boxes s_is_box E) :=
  (pss_cons (ps_expr (EX.pe_cx c_check_boxes hr (by omega) (by rfl) (takes_of rfl rfl rfl rfl) (pa_cons (pv 0) pa_nil)))
    (pss_cons (ps_set (i := 2) sc_check_lead.nd rfl (.inl rfl) (pe_callTy0 cr_set0 (by rfl) T.m_set (by decide +kernel)))
    (pss_one (ps_for (passes_of rfl) rfl (pi_list (pv 1)) (pg_name (i := 3) sc_check_lead.nd rfl (.inl rfl)) (pss_cons (ps_if (pt_cmpR (op_ne) (pe_callB call_len_seq (by rfl) T.m_len PySem.boot_len (pa_cons (pv 3) pa_nil)) pe_int (nomark _)) (pss_one (EX.ps_raiseOwn rfl T.q_BadLead T.x_BadLead (takes_of rfl rfl rfl rfl) (by rfl))) pss_nil)
    (pss_cons (ps_asg (pv 3) (pg_tup (by rfl) (pgs_cons (pg_name (i := 4) sc_check_lead.nd rfl (.inl rfl)) (pgs_cons (pg_name (i := 5) sc_check_lead.nd rfl (.inl rfl)) pgs_nil))))
    (pss_cons (ps_if (PW.pt (pw_or (pt_not (pt_val (C8.pe_c c_is_box hr (by omega) (by rfl) (pa_cons (pv 0) (pa_cons (pv 4) pa_nil))))) (pw_or1 (pt_not (pt_val (C8.pe_c c_is_box hr (by omega) (by rfl) (pa_cons (pv 0) (pa_cons (pv 5) pa_nil)))))))) (pss_one (EX.ps_raiseOwn rfl T.q_BadLead T.x_BadLead (takes_of rfl rfl rfl rfl) (by rfl))) pss_nil)
    (pss_cons (ps_if (pt_cmpR (or_sin) (pv 4) (pv 2) (by rfl)) (pss_one (EX.ps_raiseOwn rfl T.q_BadLead T.x_BadLead (takes_of rfl rfl rfl rfl) (by rfl))) pss_nil)
    (pss_one (ps_expr (pe_sadd (pv 2) (pa_cons (pv 4) pa_nil))))))))))))
theorem fn_check_lead {k_check_boxes : Nat} {k_is_box : Nat} {s_check_boxes : Sp} {s_is_box : Sp} {k : Nat} {sp : Sp} (T : Txt P K mg) {f : Addr} {fd : FuncData} (F : Fun K "check_lead" "check_lead" d_check_lead f fd) (c_check_boxes : EX.CalX P w K mg base k_check_boxes "check_boxes" s_check_boxes) (l_check_boxes : k_check_boxes ≤ k) (c_is_box : C8.Cal P w K mg base k_is_box "is_box" s_is_box []) (l_is_box : k_is_box ≤ k) (len : ∀ vs H Q E, sp vs H Q E → vs.length = 2)
    (h : ∀ vs H Q E, sp vs H Q E → t_check_lead K w s_check_boxes s_is_box E { nx := fun _ H1 => Q .non H1, rt := Q } (start N_check_lead vs) H) : FnOk P w K mg base (L2.CX P w) (k + 1) f fd ["boxes", "lead"] sp :=
  F.okX sc_check_lead len (fun cdv A outer s H vs Q E hr q => ⟨_, der_check_lead T c_check_boxes l_check_boxes c_is_box l_is_box hr, h vs H Q E q⟩)
theorem cal_check_lead {k_check_boxes : Nat} {k_is_box : Nat} {s_check_boxes : Sp} {s_is_box : Sp} {k : Nat} {sp : Sp} (T : Txt P K mg) {f : Addr} {fd : FuncData} (F : Fun K "check_lead" "check_lead" d_check_lead f fd) (hb : Binds K fd ["boxes", "lead"] []) (hm : mg "check_lead" = some (.ref f)) (c_check_boxes : EX.CalX P w K mg base k_check_boxes "check_boxes" s_check_boxes) (l_check_boxes : k_check_boxes ≤ k) (c_is_box : C8.Cal P w K mg base k_is_box "is_box" s_is_box []) (l_is_box : k_is_box ≤ k) (len : ∀ vs H Q E, sp vs H Q E → vs.length = 2)
    (h : ∀ vs H Q E, sp vs H Q E → t_check_lead K w s_check_boxes s_is_box E { nx := fun _ H1 => Q .non H1, rt := Q } (start N_check_lead vs) H) : EX.CalX P w K mg base (k + 1) "check_lead" sp :=
  ⟨f, fd, ["boxes", "lead"], fn_check_lead T F c_check_boxes l_check_boxes c_is_box l_is_box len h, hm, F.kp, hb⟩
/-! ### real_pairs -/
abbrev d_real_pairs : Stmt := topS 17
abbrev N_real_pairs : List Str := ["lead", "goal", "source"]
theorem sc_real_pairs : FnScope N_real_pairs ["lead"] (defScope d_real_pairs) := ⟨rfl, rfl, rfl, by decide +kernel, rfl, by decide +kernel, by decide +kernel⟩
def t_real_pairs (K : PySem.W.Frag) (w : World) : TS :=
  (tRet (tLc (iList K (tVar 0)) (gTup K 2 (gCons (gName 1) (gCons (gName 2) gNil))) (tTest (tOp rNe (tVar 1) (tVar 2))) (tTup (tCons (tVar 1) (tCons (tVar 2) tNil))) [1, 2]))
theorem der_real_pairs   {k : Nat} (T : Txt P K mg) {f : Addr} {cdv : Value} {A : Around} {outer : List Env} {s : Shared} {H : Hp} {E : XK} (hr : Room k (A.deeper (envOfC "real_pairs" (defScope d_real_pairs) s.heap.objs.size f cdv))) :
    PSs (cxOf CX0 P w K mg base N_real_pairs "real_pairs" (defScope d_real_pairs) f cdv A outer s H E).nox (defBody d_real_pairs) (t_real_pairs K w) :=
  (pss_one (ps_ret (pe_lc (own := [("goal", 1), ("source", 2)]) (g := (gTup K 2 (gCons (gName 1) (gCons (gName 2) gNil)))) (tt := (tTest (tOp rNe (tVar 1) (tVar 2)))) (te := (tTup (tCons (tVar 1) (tCons (tVar 2) tNil)))) (by rfl) sc_real_pairs.nd (pi_list (pv 0)) (blkOk_by (N := N_real_pairs) (sc := defScope d_real_pairs) (by decide +kernel)) (fun _ _ _ _ _ => (pg_tup (by rfl) (pgs_cons (pg_name (i := 1) sc_real_pairs.nd rfl (.inl rfl)) (pgs_cons (pg_name (i := 2) sc_real_pairs.nd rfl (.inl rfl)) pgs_nil)))) (fun _ _ _ _ _ => (pts_one (pt_cmpR (op_ne) (pv 1) (pv 2) (nomark _)))) (fun _ _ _ _ _ => (pe_tup (pa_cons (pv 1) (pa_cons (pv 2) pa_nil)))))))
theorem fn_real_pairs   {k : Nat} {sp : Sp} (T : Txt P K mg) {f : Addr} {fd : FuncData} (F : Fun K "real_pairs" "real_pairs" d_real_pairs f fd) (len : ∀ vs H Q E, sp vs H Q E → vs.length = 1)
    (h : ∀ vs H Q E, sp vs H Q E → t_real_pairs K w { nx := fun _ H1 => Q .non H1, rt := Q } (start N_real_pairs vs) H) : FnOk P w K mg base CX0 (k + 1) f fd ["lead"] sp :=
  F.ok sc_real_pairs len (fun cdv A outer s H vs Q E hr q => ⟨_, der_real_pairs T hr, h vs H Q E q⟩)
theorem cal_real_pairs   {k : Nat} {sp : Sp} (T : Txt P K mg) {f : Addr} {fd : FuncData} (F : Fun K "real_pairs" "real_pairs" d_real_pairs f fd) (hb : Binds K fd ["lead"] []) (hm : mg "real_pairs" = some (.ref f)) (len : ∀ vs H Q E, sp vs H Q E → vs.length = 1)
    (h : ∀ vs H Q E, sp vs H Q E → t_real_pairs K w { nx := fun _ H1 => Q .non H1, rt := Q } (start N_real_pairs vs) H) : C8.Cal P w K mg base (k + 1) "real_pairs" sp [] :=
  ⟨f, fd, ["lead"], [], fn_real_pairs T F len h, hm, F.kp, hb, .nil⟩
/-! ### at_once -/
abbrev d_at_once : Stmt := topS 18
abbrev N_at_once : List Str := ["worths", "lead", "held", "goal", "source"]
theorem sc_at_once : FnScope N_at_once ["worths", "lead"] (defScope d_at_once) := ⟨rfl, rfl, rfl, by decide +kernel, rfl, by decide +kernel, by decide +kernel⟩
def t_at_once (K : PySem.W.Frag) (w : World) (s_check_lead : Sp) (E : XK) : TS :=
  (tSeq (tDrop (tCallS s_check_lead (WE (fun cls d _ H => E cls d H)) (tCons (tCB (vLen K) (tCons (tVar 0) tNil)) (tCons (tVar 1) tNil))))
    (tSeq (tAsg (tCB (vListOf K) (tCons (tVar 0) tNil)) (gName 2))
    (tSeq (tFor (iList K (tVar 1)) (gTup K 2 (gCons (gName 3) (gCons (gName 4) gNil))) (tAsg (tOp (rIxL K) (tVar 0) (tVar 4)) (gSub (tVar 2) (tVar 3) rSetL)))
    (tRet (tVar 2)))))
theorem der_at_once {k_check_lead : Nat} {s_check_lead : Sp} {k : Nat} (T : Txt P K mg) (c_check_lead : EX.CalX P w K mg base k_check_lead "check_lead" s_check_lead) (l_check_lead : k_check_lead ≤ k) {f : Addr} {cdv : Value} {A : Around} {outer : List Env} {s : Shared} {H : Hp} {E : XK} (hr : Room k (A.deeper (envOfC "at_once" (defScope d_at_once) s.heap.objs.size f cdv))) :
    PSs (cxOf (L2.CX P w) P w K mg base N_at_once "at_once" (defScope d_at_once) f cdv A outer s H E) (defBody d_at_once) (t_at_once K w s_check_lead E) :=
  (pss_cons (ps_expr (EX.pe_cx c_check_lead hr (by omega) (by rfl) (takes_of rfl rfl rfl rfl) (pa_cons (pe_callB call_len_seq (by rfl) T.m_len PySem.boot_len (pa_cons (pv 0) pa_nil)) (pa_cons (pv 1) pa_nil))))
    (pss_cons (ps_set (i := 2) sc_at_once.nd rfl (.inl rfl) (pe_callTy call_list_of (by rfl) T.m_list (by decide +kernel) (pa_cons (pv 0) pa_nil)))
    (pss_cons (ps_for (passes_of rfl) rfl (pi_list (pv 1)) (pg_tup (by rfl) (pgs_cons (pg_name (i := 3) sc_at_once.nd rfl (.inl rfl)) (pgs_cons (pg_name (i := 4) sc_at_once.nd rfl (.inl rfl)) pgs_nil))) (pss_one (ps_asg (pe_ix ix_list (pv 0) (pv 4) (fun _ _ => rfl)) (pg_sub (pv 2) (pv 3) set_list))))
    (pss_one (ps_ret (pv 2))))))
theorem fn_at_once {k_check_lead : Nat} {s_check_lead : Sp} {k : Nat} {sp : Sp} (T : Txt P K mg) {f : Addr} {fd : FuncData} (F : Fun K "at_once" "at_once" d_at_once f fd) (c_check_lead : EX.CalX P w K mg base k_check_lead "check_lead" s_check_lead) (l_check_lead : k_check_lead ≤ k) (len : ∀ vs H Q E, sp vs H Q E → vs.length = 2)
    (h : ∀ vs H Q E, sp vs H Q E → t_at_once K w s_check_lead E { nx := fun _ H1 => Q .non H1, rt := Q } (start N_at_once vs) H) : FnOk P w K mg base (L2.CX P w) (k + 1) f fd ["worths", "lead"] sp :=
  F.okX sc_at_once len (fun cdv A outer s H vs Q E hr q => ⟨_, der_at_once T c_check_lead l_check_lead hr, h vs H Q E q⟩)
theorem cal_at_once {k_check_lead : Nat} {s_check_lead : Sp} {k : Nat} {sp : Sp} (T : Txt P K mg) {f : Addr} {fd : FuncData} (F : Fun K "at_once" "at_once" d_at_once f fd) (hb : Binds K fd ["worths", "lead"] []) (hm : mg "at_once" = some (.ref f)) (c_check_lead : EX.CalX P w K mg base k_check_lead "check_lead" s_check_lead) (l_check_lead : k_check_lead ≤ k) (len : ∀ vs H Q E, sp vs H Q E → vs.length = 2)
    (h : ∀ vs H Q E, sp vs H Q E → t_at_once K w s_check_lead E { nx := fun _ H1 => Q .non H1, rt := Q } (start N_at_once vs) H) : EX.CalX P w K mg base (k + 1) "at_once" sp :=
  ⟨f, fd, ["worths", "lead"], fn_at_once T F c_check_lead l_check_lead len h, hm, F.kp, hb⟩
/-! ### can_be -/
abbrev d_can_be : Stmt := topS 20
abbrev N_can_be : List Str := ["boxes", "move", "word", "one", "other"]
theorem sc_can_be : FnScope N_can_be ["boxes", "move"] (defScope d_can_be) := ⟨rfl, rfl, rfl, by decide +kernel, rfl, by decide +kernel, by decide +kernel⟩
def t_can_be (K : PySem.W.Frag) (w : World) (s_is_box : Sp) : TS :=
  (tSeq (tIfS (tTest (tOp rNe (tCB (vLen K) (tCons (tVar 1) tNil)) (tC (.int 3)))) (tRet (tC (.bl false))) tNext)
    (tSeq (tAsg (tVar 1) (gTup K 3 (gCons (gName 2) (gCons (gName 3) (gCons (gName 4) gNil)))))
    (tSeq (tIfS (tAnd (tTest (tOp rNe (tVar 2) (tC (.str "copy")))) (tTest (tOp rNe (tVar 2) (tC (.str "swap"))))) (tRet (tC (.bl false))) tNext)
    (tRet (tAndV (tCall s_is_box [] E0 (tCons (tVar 0) (tCons (tVar 3) tNil))) (tAndV (tCall s_is_box [] E0 (tCons (tVar 0) (tCons (tVar 4) tNil))) (tOp rNe (tVar 3) (tVar 4))))))))
theorem der_can_be {k_is_box : Nat} {s_is_box : Sp} {k : Nat} (T : Txt P K mg) (c_is_box : C8.Cal P w K mg base k_is_box "is_box" s_is_box []) (l_is_box : k_is_box ≤ k) {f : Addr} {cdv : Value} {A : Around} {outer : List Env} {s : Shared} {H : Hp} {E : XK} (hr : Room k (A.deeper (envOfC "can_be" (defScope d_can_be) s.heap.objs.size f cdv))) :
    PSs (cxOf CX0 P w K mg base N_can_be "can_be" (defScope d_can_be) f cdv A outer s H E).nox (defBody d_can_be) (t_can_be K w s_is_box) :=
  (pss_cons (ps_if (pt_cmpR (op_ne) (pe_callB call_len_seq (by rfl) T.m_len PySem.boot_len (pa_cons (pv 1) pa_nil)) pe_int (nomark _)) (pss_one (ps_ret pe_bl)) pss_nil)
    (pss_cons (ps_asg (pv 1) (pg_tup (by rfl) (pgs_cons (pg_name (i := 2) sc_can_be.nd rfl (.inl rfl)) (pgs_cons (pg_name (i := 3) sc_can_be.nd rfl (.inl rfl)) (pgs_cons (pg_name (i := 4) sc_can_be.nd rfl (.inl rfl)) pgs_nil)))))
    (pss_cons (ps_if (PW.pt (pw_and (pt_cmpR (op_ne) (pv 2) pe_str (nomark _)) (pw_and1 (pt_cmpR (op_ne) (pv 2) pe_str (nomark _))))) (pss_one (ps_ret pe_bl)) pss_nil)
    (pss_one (ps_ret (pe_and (C8.pe_c c_is_box hr (by omega) (by rfl) (pa_cons (pv 0) (pa_cons (pv 3) pa_nil))) (pe_and (C8.pe_c c_is_box hr (by omega) (by rfl) (pa_cons (pv 0) (pa_cons (pv 4) pa_nil))) (pe_one (pe_cmpR (op_ne) (pv 3) (pv 4) (nomark _))))))))))
theorem fn_can_be {k_is_box : Nat} {s_is_box : Sp} {k : Nat} {sp : Sp} (T : Txt P K mg) {f : Addr} {fd : FuncData} (F : Fun K "can_be" "can_be" d_can_be f fd) (c_is_box : C8.Cal P w K mg base k_is_box "is_box" s_is_box []) (l_is_box : k_is_box ≤ k) (len : ∀ vs H Q E, sp vs H Q E → vs.length = 2)
    (h : ∀ vs H Q E, sp vs H Q E → t_can_be K w s_is_box { nx := fun _ H1 => Q .non H1, rt := Q } (start N_can_be vs) H) : FnOk P w K mg base CX0 (k + 1) f fd ["boxes", "move"] sp :=
  F.ok sc_can_be len (fun cdv A outer s H vs Q E hr q => ⟨_, der_can_be T c_is_box l_is_box hr, h vs H Q E q⟩)
theorem cal_can_be {k_is_box : Nat} {s_is_box : Sp} {k : Nat} {sp : Sp} (T : Txt P K mg) {f : Addr} {fd : FuncData} (F : Fun K "can_be" "can_be" d_can_be f fd) (hb : Binds K fd ["boxes", "move"] []) (hm : mg "can_be" = some (.ref f)) (c_is_box : C8.Cal P w K mg base k_is_box "is_box" s_is_box []) (l_is_box : k_is_box ≤ k) (len : ∀ vs H Q E, sp vs H Q E → vs.length = 2)
    (h : ∀ vs H Q E, sp vs H Q E → t_can_be K w s_is_box { nx := fun _ H1 => Q .non H1, rt := Q } (start N_can_be vs) H) : C8.Cal P w K mg base (k + 1) "can_be" sp [] :=
  ⟨f, fd, ["boxes", "move"], [], fn_can_be T F c_is_box l_is_box len h, hm, F.kp, hb, .nil⟩
/-! ### check_moves -/
abbrev d_check_moves : Stmt := topS 21
abbrev N_check_moves : List Str := ["boxes", "moves", "number", "move"]
theorem sc_check_moves : FnScope N_check_moves ["boxes", "moves"] (defScope d_check_moves) := ⟨rfl, rfl, rfl, by decide +kernel, rfl, by decide +kernel, by decide +kernel⟩
def t_check_moves (K : PySem.W.Frag) (w : World) (s_can_be : Sp) (E : XK) : TS :=
  (tFor (iEnum K (tCons (tVar 1) tNil)) (gTup K 2 (gCons (gName 2) (gCons (gName 3) gNil))) (tIfS (tNot (tB (tCall s_can_be [] E0 (tCons (tVar 0) (tCons (tVar 3) tNil))))) (tRaiseBad (He.ga K "BadMove") "number" (fun cls d _ H => E cls d H) (tCons (tVar 2) tNil)) tNext))
theorem der_check_moves {k_can_be : Nat} {s_can_be : Sp} {k : Nat} (T : Txt P K mg) (c_can_be : C8.Cal P w K mg base k_can_be "can_be" s_can_be []) (l_can_be : k_can_be ≤ k) {f : Addr} {cdv : Value} {A : Around} {outer : List Env} {s : Shared} {H : Hp} {E : XK} (hr : Room k (A.deeper (envOfC "check_moves" (defScope d_check_moves) s.heap.objs.size f cdv))) :
    PSs (cxOf (L2.CX P w) P w K mg base N_check_moves "check_moves" (defScope d_check_moves) f cdv A outer s H E) (defBody d_check_moves) (t_check_moves K w s_can_be E) :=
  (pss_one (ps_for (passes_of rfl) rfl (pi_enum (by rfl) T.m_enumerate (pa_cons (pv 1) pa_nil)) (pg_tup (by rfl) (pgs_cons (pg_name (i := 2) sc_check_moves.nd rfl (.inl rfl)) (pgs_cons (pg_name (i := 3) sc_check_moves.nd rfl (.inl rfl)) pgs_nil))) (pss_one (ps_if (pt_not (pt_val (C8.pe_c c_can_be hr (by omega) (by rfl) (pa_cons (pv 0) (pa_cons (pv 3) pa_nil))))) (pss_one (ps_raiseBad rfl T.b_BadMove T.x_BadMove hr (takes_of rfl rfl rfl rfl) (by exact (pa_cons (pv 2) pa_nil)))) pss_nil))))
theorem fn_check_moves {k_can_be : Nat} {s_can_be : Sp} {k : Nat} {sp : Sp} (T : Txt P K mg) {f : Addr} {fd : FuncData} (F : Fun K "check_moves" "check_moves" d_check_moves f fd) (c_can_be : C8.Cal P w K mg base k_can_be "can_be" s_can_be []) (l_can_be : k_can_be ≤ k) (len : ∀ vs H Q E, sp vs H Q E → vs.length = 2)
    (h : ∀ vs H Q E, sp vs H Q E → t_check_moves K w s_can_be E { nx := fun _ H1 => Q .non H1, rt := Q } (start N_check_moves vs) H) : FnOk P w K mg base (L2.CX P w) (k + 1) f fd ["boxes", "moves"] sp :=
  F.okX sc_check_moves len (fun cdv A outer s H vs Q E hr q => ⟨_, der_check_moves T c_can_be l_can_be hr, h vs H Q E q⟩)
theorem cal_check_moves {k_can_be : Nat} {s_can_be : Sp} {k : Nat} {sp : Sp} (T : Txt P K mg) {f : Addr} {fd : FuncData} (F : Fun K "check_moves" "check_moves" d_check_moves f fd) (hb : Binds K fd ["boxes", "moves"] []) (hm : mg "check_moves" = some (.ref f)) (c_can_be : C8.Cal P w K mg base k_can_be "can_be" s_can_be []) (l_can_be : k_can_be ≤ k) (len : ∀ vs H Q E, sp vs H Q E → vs.length = 2)
    (h : ∀ vs H Q E, sp vs H Q E → t_check_moves K w s_can_be E { nx := fun _ H1 => Q .non H1, rt := Q } (start N_check_moves vs) H) : EX.CalX P w K mg base (k + 1) "check_moves" sp :=
  ⟨f, fd, ["boxes", "moves"], fn_check_moves T F c_can_be l_can_be len h, hm, F.kp, hb⟩
/-! ### do_move -/
abbrev d_do_move : Stmt := topS 22
abbrev N_do_move : List Str := ["held", "move", "word", "one", "other"]
theorem sc_do_move : FnScope N_do_move ["held", "move"] (defScope d_do_move) := ⟨rfl, rfl, rfl, by decide +kernel, rfl, by decide +kernel, by decide +kernel⟩
def t_do_move (K : PySem.W.Frag) (w : World) : TS :=
  (tSeq (tAsg (tVar 1) (gTup K 3 (gCons (gName 2) (gCons (gName 3) (gCons (gName 4) gNil)))))
    (tIfS (tTest (tOp rEq (tVar 2) (tC (.str "swap")))) (tAsg (tTup (tCons (tOp (rIxL K) (tVar 0) (tVar 4)) (tCons (tOp (rIxL K) (tVar 0) (tVar 3)) tNil))) (gTup K 2 (gCons (gSub (tVar 0) (tVar 3) rSetL) (gCons (gSub (tVar 0) (tVar 4) rSetL) gNil)))) (tAsg (tOp (rIxL K) (tVar 0) (tVar 4)) (gSub (tVar 0) (tVar 3) rSetL))))
theorem der_do_move   {k : Nat} (T : Txt P K mg) {f : Addr} {cdv : Value} {A : Around} {outer : List Env} {s : Shared} {H : Hp} {E : XK} (hr : Room k (A.deeper (envOfC "do_move" (defScope d_do_move) s.heap.objs.size f cdv))) :
    PSs (cxOf CX0 P w K mg base N_do_move "do_move" (defScope d_do_move) f cdv A outer s H E).nox (defBody d_do_move) (t_do_move K w) :=
  (pss_cons (ps_asg (pv 1) (pg_tup (by rfl) (pgs_cons (pg_name (i := 2) sc_do_move.nd rfl (.inl rfl)) (pgs_cons (pg_name (i := 3) sc_do_move.nd rfl (.inl rfl)) (pgs_cons (pg_name (i := 4) sc_do_move.nd rfl (.inl rfl)) pgs_nil)))))
    (pss_one (ps_if (pt_cmpR (op_eq) (pv 2) pe_str (nomark _)) (pss_one (ps_asg (pe_tup (pa_cons (pe_ix ix_list (pv 0) (pv 4) (fun _ _ => rfl)) (pa_cons (pe_ix ix_list (pv 0) (pv 3) (fun _ _ => rfl)) pa_nil))) (pg_tup (by rfl) (pgs_cons (pg_sub (pv 0) (pv 3) set_list) (pgs_cons (pg_sub (pv 0) (pv 4) set_list) pgs_nil))))) (pss_one (ps_asg (pe_ix ix_list (pv 0) (pv 4) (fun _ _ => rfl)) (pg_sub (pv 0) (pv 3) set_list))))))
theorem fn_do_move   {k : Nat} {sp : Sp} (T : Txt P K mg) {f : Addr} {fd : FuncData} (F : Fun K "do_move" "do_move" d_do_move f fd) (len : ∀ vs H Q E, sp vs H Q E → vs.length = 2)
    (h : ∀ vs H Q E, sp vs H Q E → t_do_move K w { nx := fun _ H1 => Q .non H1, rt := Q } (start N_do_move vs) H) : FnOk P w K mg base CX0 (k + 1) f fd ["held", "move"] sp :=
  F.ok sc_do_move len (fun cdv A outer s H vs Q E hr q => ⟨_, der_do_move T hr, h vs H Q E q⟩)
theorem cal_do_move   {k : Nat} {sp : Sp} (T : Txt P K mg) {f : Addr} {fd : FuncData} (F : Fun K "do_move" "do_move" d_do_move f fd) (hb : Binds K fd ["held", "move"] []) (hm : mg "do_move" = some (.ref f)) (len : ∀ vs H Q E, sp vs H Q E → vs.length = 2)
    (h : ∀ vs H Q E, sp vs H Q E → t_do_move K w { nx := fun _ H1 => Q .non H1, rt := Q } (start N_do_move vs) H) : C8.Cal P w K mg base (k + 1) "do_move" sp [] :=
  ⟨f, fd, ["held", "move"], [], fn_do_move T F len h, hm, F.kp, hb, .nil⟩
/-! ### moved -/
abbrev d_moved : Stmt := topS 23
abbrev N_moved : List Str := ["worths", "moves", "held", "move"]
theorem sc_moved : FnScope N_moved ["worths", "moves"] (defScope d_moved) := ⟨rfl, rfl, rfl, by decide +kernel, rfl, by decide +kernel, by decide +kernel⟩
def t_moved (K : PySem.W.Frag) (w : World) (s_check_boxes : Sp) (s_check_moves : Sp) (s_do_move : Sp) (E : XK) : TS :=
  (tSeq (tDrop (tCallS s_check_boxes (WE (fun cls d _ H => E cls d H)) (tCons (tCB (vLen K) (tCons (tVar 0) tNil)) tNil)))
    (tSeq (tDrop (tCallS s_check_moves (WE (fun cls d _ H => E cls d H)) (tCons (tCB (vLen K) (tCons (tVar 0) tNil)) (tCons (tVar 1) tNil))))
    (tSeq (tAsg (tCB (vListOf K) (tCons (tVar 0) tNil)) (gName 2))
    (tSeq (tFor (iList K (tVar 1)) (gName 3) (tDrop (tCall s_do_move [] E0 (tCons (tVar 2) (tCons (tVar 3) tNil)))))
    (tRet (tVar 2))))))
theorem der_moved {k_check_boxes : Nat} {k_check_moves : Nat} {k_do_move : Nat} {s_check_boxes : Sp} {s_check_moves : Sp} {s_do_move : Sp} {k : Nat} (T : Txt P K mg) (c_check_boxes : EX.CalX P w K mg base k_check_boxes "check_boxes" s_check_boxes) (l_check_boxes : k_check_boxes ≤ k) (c_check_moves : EX.CalX P w K mg base k_check_moves "check_moves" s_check_moves) (l_check_moves : k_check_moves ≤ k) (c_do_move : C8.Cal P w K mg base k_do_move "do_move" s_do_move []) (l_do_move : k_do_move ≤ k) {f : Addr} {cdv : Value} {A : Around} {outer : List Env} {s : Shared} {H : Hp} {E : XK} (hr : Room k (A.deeper (envOfC "moved" (defScope d_moved) s.heap.objs.size f cdv))) :
    PSs (cxOf (L2.CX P w) P w K mg base N_moved "moved" (defScope d_moved) f cdv A outer s H E) (defBody d_moved) (t_moved K w s_check_boxes s_check_moves s_do_move E) :=
  (pss_cons (ps_expr (EX.pe_cx c_check_boxes hr (by omega) (by rfl) (takes_of rfl rfl rfl rfl) (pa_cons (pe_callB call_len_seq (by rfl) T.m_len PySem.boot_len (pa_cons (pv 0) pa_nil)) pa_nil)))
    (pss_cons (ps_expr (EX.pe_cx c_check_moves hr (by omega) (by rfl) (takes_of rfl rfl rfl rfl) (pa_cons (pe_callB call_len_seq (by rfl) T.m_len PySem.boot_len (pa_cons (pv 0) pa_nil)) (pa_cons (pv 1) pa_nil))))
    (pss_cons (ps_set (i := 2) sc_moved.nd rfl (.inl rfl) (pe_callTy call_list_of (by rfl) T.m_list (by decide +kernel) (pa_cons (pv 0) pa_nil)))
    (pss_cons (ps_for (passes_of rfl) rfl (pi_list (pv 1)) (pg_name (i := 3) sc_moved.nd rfl (.inl rfl)) (pss_one (ps_expr (C8.pe_c c_do_move hr (by omega) (by rfl) (pa_cons (pv 2) (pa_cons (pv 3) pa_nil))))))
    (pss_one (ps_ret (pv 2)))))))
theorem fn_moved {k_check_boxes : Nat} {k_check_moves : Nat} {k_do_move : Nat} {s_check_boxes : Sp} {s_check_moves : Sp} {s_do_move : Sp} {k : Nat} {sp : Sp} (T : Txt P K mg) {f : Addr} {fd : FuncData} (F : Fun K "moved" "moved" d_moved f fd) (c_check_boxes : EX.CalX P w K mg base k_check_boxes "check_boxes" s_check_boxes) (l_check_boxes : k_check_boxes ≤ k) (c_check_moves : EX.CalX P w K mg base k_check_moves "check_moves" s_check_moves) (l_check_moves : k_check_moves ≤ k) (c_do_move : C8.Cal P w K mg base k_do_move "do_move" s_do_move []) (l_do_move : k_do_move ≤ k) (len : ∀ vs H Q E, sp vs H Q E → vs.length = 2)
    (h : ∀ vs H Q E, sp vs H Q E → t_moved K w s_check_boxes s_check_moves s_do_move E { nx := fun _ H1 => Q .non H1, rt := Q } (start N_moved vs) H) : FnOk P w K mg base (L2.CX P w) (k + 1) f fd ["worths", "moves"] sp :=
  F.okX sc_moved len (fun cdv A outer s H vs Q E hr q => ⟨_, der_moved T c_check_boxes l_check_boxes c_check_moves l_check_moves c_do_move l_do_move hr, h vs H Q E q⟩)
theorem cal_moved {k_check_boxes : Nat} {k_check_moves : Nat} {k_do_move : Nat} {s_check_boxes : Sp} {s_check_moves : Sp} {s_do_move : Sp} {k : Nat} {sp : Sp} (T : Txt P K mg) {f : Addr} {fd : FuncData} (F : Fun K "moved" "moved" d_moved f fd) (hb : Binds K fd ["worths", "moves"] []) (hm : mg "moved" = some (.ref f)) (c_check_boxes : EX.CalX P w K mg base k_check_boxes "check_boxes" s_check_boxes) (l_check_boxes : k_check_boxes ≤ k) (c_check_moves : EX.CalX P w K mg base k_check_moves "check_moves" s_check_moves) (l_check_moves : k_check_moves ≤ k) (c_do_move : C8.Cal P w K mg base k_do_move "do_move" s_do_move []) (l_do_move : k_do_move ≤ k) (len : ∀ vs H Q E, sp vs H Q E → vs.length = 2)
    (h : ∀ vs H Q E, sp vs H Q E → t_moved K w s_check_boxes s_check_moves s_do_move E { nx := fun _ H1 => Q .non H1, rt := Q } (start N_moved vs) H) : EX.CalX P w K mg base (k + 1) "moved" sp :=
  ⟨f, fd, ["worths", "moves"], fn_moved T F c_check_boxes l_check_boxes c_check_moves l_check_moves c_do_move l_do_move len h, hm, F.kp, hb⟩
/-! ### check_spares -/
abbrev d_check_spares : Stmt := topS 24
abbrev N_check_spares : List Str := ["boxes", "lead", "spares", "busy", "place", "spare", "pair", "box"]
theorem sc_check_spares : FnScope N_check_spares ["boxes", "lead", "spares"] (defScope d_check_spares) := ⟨rfl, rfl, rfl, by decide +kernel, rfl, by decide +kernel, by decide +kernel⟩
def t_check_spares (K : PySem.W.Frag) (w : World) (s_real_pairs : Sp) (s_is_box : Sp) (E : XK) : TS :=
  (tSeq (tAsg (tLc2 (iList K (tCall s_real_pairs [] E0 (tCons (tVar 1) tNil))) (gName 6) tYes (iTup K (tVar 6)) (gName 7) tYes (tVar 7) [6, 7] [7]) (gName 3))
    (tFor (iEnum K (tCons (tVar 2) tNil)) (gTup K 2 (gCons (gName 4) (gCons (gName 5) gNil))) (tSeq (tIfS (tNot (tB (tCall s_is_box [] E0 (tCons (tVar 0) (tCons (tVar 5) tNil))))) (EX.tRaiseOwn (He.ga K "BadSpare") (fun cls d _ H => E cls d H)) tNext)
    (tSeq (tIfS (tTest (tOp (rIn K false) (tVar 5) (tVar 3))) (EX.tRaiseOwn (He.ga K "BadSpare") (fun cls d _ H => E cls d H)) tNext)
    (tIfS (tTest (tOp (rIn K false) (tVar 5) (tSl (rSlL K) (tVar 2) tNoPart (tPart (tVar 4))))) (EX.tRaiseOwn (He.ga K "BadSpare") (fun cls d _ H => E cls d H)) tNext)))))
theorem der_check_spares {k_real_pairs : Nat} {k_is_box : Nat} {s_real_pairs : Sp} {s_is_box : Sp} {k : Nat} (T : Txt P K mg) (c_real_pairs : C8.Cal P w K mg base k_real_pairs "real_pairs" s_real_pairs []) (l_real_pairs : k_real_pairs ≤ k) (c_is_box : C8.Cal P w K mg base k_is_box "is_box" s_is_box []) (l_is_box : k_is_box ≤ k) {f : Addr} {cdv : Value} {A : Around} {outer : List Env} {s : Shared} {H : Hp} {E : XK} (hr : Room k (A.deeper (envOfC "check_spares" (defScope d_check_spares) s.heap.objs.size f cdv))) :
    PSs (cxOf (L2.CX P w) P w K mg base N_check_spares "check_spares" (defScope d_check_spares) f cdv A outer s H E) (defBody d_check_spares) (t_check_spares K w s_real_pairs s_is_box E) :=
  (pss_cons (ps_setLc2 (i := 3) (own := [("pair", 6), ("box", 7)]) (vs1 := [7]) (g := (gName 6)) (tt := tYes) (wi1 := (iTup K (tVar 6))) (g1 := (gName 7)) (tt1 := tYes) (te := (tVar 7)) rfl sc_check_spares.nd rfl rfl (sw_true rfl rfl rfl (by decide +kernel)) (pi_list (C8.pe_c c_real_pairs hr (by omega) (by rfl) (pa_cons (pv 1) pa_nil))) (blkOk_by (N := N_check_spares) (sc := defScope d_check_spares) (by decide +kernel)) (by decide) (fun _ _ _ _ _ => (pg_name (i := 6) sc_check_spares.nd rfl (.inl rfl))) (fun _ _ _ _ _ => pts_nil) (fun _ _ _ _ _ => (pi_tup (pv 6))) (fun _ _ _ _ _ => (pg_name (i := 7) sc_check_spares.nd rfl (.inl rfl))) (fun _ _ _ _ _ => pts_nil) (fun _ _ _ _ _ => (pv 7)))
    (pss_one (ps_for (passes_of rfl) rfl (pi_enum (by rfl) T.m_enumerate (pa_cons (pv 2) pa_nil)) (pg_tup (by rfl) (pgs_cons (pg_name (i := 4) sc_check_spares.nd rfl (.inl rfl)) (pgs_cons (pg_name (i := 5) sc_check_spares.nd rfl (.inl rfl)) pgs_nil))) (pss_cons (ps_if (pt_not (pt_val (C8.pe_c c_is_box hr (by omega) (by rfl) (pa_cons (pv 0) (pa_cons (pv 5) pa_nil))))) (pss_one (EX.ps_raiseOwn rfl T.q_BadSpare T.x_BadSpare (takes_of rfl rfl rfl rfl) (by rfl))) pss_nil)
    (pss_cons (ps_if (pt_cmpR (op_in_seq) (pv 5) (pv 3) (by rfl)) (pss_one (EX.ps_raiseOwn rfl T.q_BadSpare T.x_BadSpare (takes_of rfl rfl rfl rfl) (by rfl))) pss_nil)
    (pss_one (ps_if (pt_cmpR (op_in_seq) (pv 5) (pe_slice sl_list (pv 2) po_none (po_some (pv 4))) (by rfl)) (pss_one (EX.ps_raiseOwn rfl T.q_BadSpare T.x_BadSpare (takes_of rfl rfl rfl rfl) (by rfl))) pss_nil)))))))
theorem fn_check_spares {k_real_pairs : Nat} {k_is_box : Nat} {s_real_pairs : Sp} {s_is_box : Sp} {k : Nat} {sp : Sp} (T : Txt P K mg) {f : Addr} {fd : FuncData} (F : Fun K "check_spares" "check_spares" d_check_spares f fd) (c_real_pairs : C8.Cal P w K mg base k_real_pairs "real_pairs" s_real_pairs []) (l_real_pairs : k_real_pairs ≤ k) (c_is_box : C8.Cal P w K mg base k_is_box "is_box" s_is_box []) (l_is_box : k_is_box ≤ k) (len : ∀ vs H Q E, sp vs H Q E → vs.length = 3)
    (h : ∀ vs H Q E, sp vs H Q E → t_check_spares K w s_real_pairs s_is_box E { nx := fun _ H1 => Q .non H1, rt := Q } (start N_check_spares vs) H) : FnOk P w K mg base (L2.CX P w) (k + 1) f fd ["boxes", "lead", "spares"] sp :=
  F.okX sc_check_spares len (fun cdv A outer s H vs Q E hr q => ⟨_, der_check_spares T c_real_pairs l_real_pairs c_is_box l_is_box hr, h vs H Q E q⟩)
theorem cal_check_spares {k_real_pairs : Nat} {k_is_box : Nat} {s_real_pairs : Sp} {s_is_box : Sp} {k : Nat} {sp : Sp} (T : Txt P K mg) {f : Addr} {fd : FuncData} (F : Fun K "check_spares" "check_spares" d_check_spares f fd) (hb : Binds K fd ["boxes", "lead", "spares"] []) (hm : mg "check_spares" = some (.ref f)) (c_real_pairs : C8.Cal P w K mg base k_real_pairs "real_pairs" s_real_pairs []) (l_real_pairs : k_real_pairs ≤ k) (c_is_box : C8.Cal P w K mg base k_is_box "is_box" s_is_box []) (l_is_box : k_is_box ≤ k) (len : ∀ vs H Q E, sp vs H Q E → vs.length = 3)
    (h : ∀ vs H Q E, sp vs H Q E → t_check_spares K w s_real_pairs s_is_box E { nx := fun _ H1 => Q .non H1, rt := Q } (start N_check_spares vs) H) : EX.CalX P w K mg base (k + 1) "check_spares" sp :=
  ⟨f, fd, ["boxes", "lead", "spares"], fn_check_spares T F c_real_pairs l_real_pairs c_is_box l_is_box len h, hm, F.kp, hb⟩
/-! ### does -/
abbrev d_does : Stmt := topS 25
abbrev N_does : List Str := ["boxes", "lead", "spares", "moves", "worths", "wanted", "held", "box"]
theorem sc_does : FnScope N_does ["boxes", "lead", "spares", "moves"] (defScope d_does) := ⟨rfl, rfl, rfl, by decide +kernel, rfl, by decide +kernel, by decide +kernel⟩
def t_does (K : PySem.W.Frag) (w : World) (s_check_lead : Sp) (s_check_spares : Sp) (s_at_once : Sp) (s_moved : Sp) (E : XK) : TS :=
  (tSeq (tDrop (tCallS s_check_lead (WE (fun cls d _ H => E cls d H)) (tCons (tVar 0) (tCons (tVar 1) tNil))))
    (tSeq (tDrop (tCallS s_check_spares (WE (fun cls d _ H => E cls d H)) (tCons (tVar 0) (tCons (tVar 1) (tCons (tVar 2) tNil)))))
    (tSeq (tAsg (tLstRg (tRg1 (tVar 0))) (gName 4))
    (tSeq (tAsg (tCallS s_at_once (WE (fun cls d _ H => E cls d H)) (tCons (tVar 4) (tCons (tVar 1) tNil))) (gName 5))
    (tSeq (tAsg (tCallS s_moved (WE (fun cls d _ H => E cls d H)) (tCons (tVar 4) (tCons (tVar 3) tNil))) (gName 6))
    (tRet (tCB (rAll K) (tCons (tLc (iRng1 (tCons (tVar 0) tNil)) (gName 7) (tTest (tOp (rIn K true) (tVar 7) (tVar 2))) (tOp rEq (tOp (rIxL K) (tVar 6) (tVar 7)) (tOp (rIxL K) (tVar 5) (tVar 7))) [7]) tNil))))))))
theorem der_does {k_check_lead : Nat} {k_check_spares : Nat} {k_at_once : Nat} {k_moved : Nat} {s_check_lead : Sp} {s_check_spares : Sp} {s_at_once : Sp} {s_moved : Sp} {k : Nat} (T : Txt P K mg) (c_check_lead : EX.CalX P w K mg base k_check_lead "check_lead" s_check_lead) (l_check_lead : k_check_lead ≤ k) (c_check_spares : EX.CalX P w K mg base k_check_spares "check_spares" s_check_spares) (l_check_spares : k_check_spares ≤ k) (c_at_once : EX.CalX P w K mg base k_at_once "at_once" s_at_once) (l_at_once : k_at_once ≤ k) (c_moved : EX.CalX P w K mg base k_moved "moved" s_moved) (l_moved : k_moved ≤ k) {f : Addr} {cdv : Value} {A : Around} {outer : List Env} {s : Shared} {H : Hp} {E : XK} (hr : Room k (A.deeper (envOfC "does" (defScope d_does) s.heap.objs.size f cdv))) :
    PSs (cxOf (L2.CX P w) P w K mg base N_does "does" (defScope d_does) f cdv A outer s H E) (defBody d_does) (t_does K w s_check_lead s_check_spares s_at_once s_moved E) :=
  (pss_cons (ps_expr (EX.pe_cx c_check_lead hr (by omega) (by rfl) (takes_of rfl rfl rfl rfl) (pa_cons (pv 0) (pa_cons (pv 1) pa_nil))))
    (pss_cons (ps_expr (EX.pe_cx c_check_spares hr (by omega) (by rfl) (takes_of rfl rfl rfl rfl) (pa_cons (pv 0) (pa_cons (pv 1) (pa_cons (pv 2) pa_nil)))))
    (pss_cons (ps_set (i := 4) sc_does.nd rfl (.inl rfl) (pe_listRg rfl (by rfl) T.m_list (prg_1 (by rfl) T.m_range (pv 0))))
    (pss_cons (ps_set (i := 5) sc_does.nd rfl (.inr rfl) (EX.pe_cx c_at_once hr (by omega) (by rfl) (takes_of rfl rfl rfl rfl) (pa_cons (pv 4) (pa_cons (pv 1) pa_nil))))
    (pss_cons (ps_set (i := 6) sc_does.nd rfl (.inr rfl) (EX.pe_cx c_moved hr (by omega) (by rfl) (takes_of rfl rfl rfl rfl) (pa_cons (pv 4) (pa_cons (pv 3) pa_nil))))
    (pss_one (ps_ret (pe_callB (cr_all rfl) (by rfl) T.m_all (by decide +kernel) (pa_cons (pe_lc (own := [("box", 7)]) (g := (gName 7)) (tt := (tTest (tOp (rIn K true) (tVar 7) (tVar 2)))) (te := (tOp rEq (tOp (rIxL K) (tVar 6) (tVar 7)) (tOp (rIxL K) (tVar 5) (tVar 7)))) (by rfl) sc_does.nd (pi_range1 (by rfl) T.m_range (pa_cons (pv 0) pa_nil)) (blkOk_by (N := N_does) (sc := defScope d_does) (by decide +kernel)) (fun _ _ _ _ _ => (pg_name (i := 7) sc_does.nd rfl (.inl rfl))) (fun _ _ _ _ _ => (pts_one (pt_cmpR (op_notIn_seq) (pv 7) (pv 2) (by rfl)))) (fun _ _ _ _ _ => (pe_cmpR (op_eq) (pe_ix ix_list (pv 6) (pv 7) (fun _ _ => rfl)) (pe_ix ix_list (pv 5) (pv 7) (fun _ _ => rfl)) (nomark _)))) pa_nil)))))))))
theorem fn_does {k_check_lead : Nat} {k_check_spares : Nat} {k_at_once : Nat} {k_moved : Nat} {s_check_lead : Sp} {s_check_spares : Sp} {s_at_once : Sp} {s_moved : Sp} {k : Nat} {sp : Sp} (T : Txt P K mg) {f : Addr} {fd : FuncData} (F : Fun K "does" "does" d_does f fd) (c_check_lead : EX.CalX P w K mg base k_check_lead "check_lead" s_check_lead) (l_check_lead : k_check_lead ≤ k) (c_check_spares : EX.CalX P w K mg base k_check_spares "check_spares" s_check_spares) (l_check_spares : k_check_spares ≤ k) (c_at_once : EX.CalX P w K mg base k_at_once "at_once" s_at_once) (l_at_once : k_at_once ≤ k) (c_moved : EX.CalX P w K mg base k_moved "moved" s_moved) (l_moved : k_moved ≤ k) (len : ∀ vs H Q E, sp vs H Q E → vs.length = 4)
    (h : ∀ vs H Q E, sp vs H Q E → t_does K w s_check_lead s_check_spares s_at_once s_moved E { nx := fun _ H1 => Q .non H1, rt := Q } (start N_does vs) H) : FnOk P w K mg base (L2.CX P w) (k + 1) f fd ["boxes", "lead", "spares", "moves"] sp :=
  F.okX sc_does len (fun cdv A outer s H vs Q E hr q => ⟨_, der_does T c_check_lead l_check_lead c_check_spares l_check_spares c_at_once l_at_once c_moved l_moved hr, h vs H Q E q⟩)
theorem cal_does {k_check_lead : Nat} {k_check_spares : Nat} {k_at_once : Nat} {k_moved : Nat} {s_check_lead : Sp} {s_check_spares : Sp} {s_at_once : Sp} {s_moved : Sp} {k : Nat} {sp : Sp} (T : Txt P K mg) {f : Addr} {fd : FuncData} (F : Fun K "does" "does" d_does f fd) (hb : Binds K fd ["boxes", "lead", "spares", "moves"] []) (hm : mg "does" = some (.ref f)) (c_check_lead : EX.CalX P w K mg base k_check_lead "check_lead" s_check_lead) (l_check_lead : k_check_lead ≤ k) (c_check_spares : EX.CalX P w K mg base k_check_spares "check_spares" s_check_spares) (l_check_spares : k_check_spares ≤ k) (c_at_once : EX.CalX P w K mg base k_at_once "at_once" s_at_once) (l_at_once : k_at_once ≤ k) (c_moved : EX.CalX P w K mg base k_moved "moved" s_moved) (l_moved : k_moved ≤ k) (len : ∀ vs H Q E, sp vs H Q E → vs.length = 4)
    (h : ∀ vs H Q E, sp vs H Q E → t_does K w s_check_lead s_check_spares s_at_once s_moved E { nx := fun _ H1 => Q .non H1, rt := Q } (start N_does vs) H) : EX.CalX P w K mg base (k + 1) "does" sp :=
  ⟨f, fd, ["boxes", "lead", "spares", "moves"], fn_does T F c_check_lead l_check_lead c_check_spares l_check_spares c_at_once l_at_once c_moved l_moved len h, hm, F.kp, hb⟩
/-! ### _law_start -/
abbrev d__law_start : Stmt := topS 27
abbrev N__law_start : List Str := ["_law_script", "_law_mixed", "_law_cell"]
theorem sc__law_start : FnScope N__law_start ["_law_script"] (defScope d__law_start) := ⟨rfl, rfl, rfl, by decide +kernel, rfl, by decide +kernel, by decide +kernel⟩
def t__law_start (K : PySem.W.Frag) (w : World) : TS :=
  (tSeq (tAsg (tC (.int 1)) (gName 1))
    (tSeq (tFor (iList K (tVar 0)) (gName 2) (tAsg (tOp vMod (tOp vAdd (tOp vAdd (tOp vMul (tVar 1) (tC (.int 48271))) (tVar 2)) (tC (.int 7))) (tC (.int 2147483647))) (gName 1)))
    (tRet (tLst (tCons (tVar 0) (tCons (tC (.int 0)) (tCons (tVar 1) (tCons (tC (.int 0)) tNil))))))))
theorem der__law_start   {k : Nat} (T : Txt P K mg) {f : Addr} {cdv : Value} {A : Around} {outer : List Env} {s : Shared} {H : Hp} {E : XK} (hr : Room k (A.deeper (envOfC "_law_start" (defScope d__law_start) s.heap.objs.size f cdv))) :
    PSs (cxOf CX0 P w K mg base N__law_start "_law_start" (defScope d__law_start) f cdv A outer s H E).nox (defBody d__law_start) (t__law_start K w) :=
  (pss_cons (ps_set (i := 1) sc__law_start.nd rfl (.inl rfl) pe_int)
    (pss_cons (ps_for PassesOwn.never rfl (pi_list (pv 0)) (pg_name (i := 2) sc__law_start.nd rfl (.inl rfl)) (pss_one (ps_set (i := 1) sc__law_start.nd rfl (.inl rfl) (pe_op op_mod (pe_op op_add (pe_op op_add (pe_op op_mul (pv 1) pe_int) (pv 2)) pe_int) pe_int))))
    (pss_one (ps_ret (pe_lst (pa_cons (pv 0) (pa_cons pe_int (pa_cons (pv 1) (pa_cons pe_int pa_nil)))))))))
theorem fn__law_start   {k : Nat} {sp : Sp} (T : Txt P K mg) {f : Addr} {fd : FuncData} (F : Fun K "_law_start" "_law_start" d__law_start f fd) (len : ∀ vs H Q E, sp vs H Q E → vs.length = 1)
    (h : ∀ vs H Q E, sp vs H Q E → t__law_start K w { nx := fun _ H1 => Q .non H1, rt := Q } (start N__law_start vs) H) : FnOk P w K mg base CX0 (k + 1) f fd ["_law_script"] sp :=
  F.ok sc__law_start len (fun cdv A outer s H vs Q E hr q => ⟨_, der__law_start T hr, h vs H Q E q⟩)
theorem cal__law_start   {k : Nat} {sp : Sp} (T : Txt P K mg) {f : Addr} {fd : FuncData} (F : Fun K "_law_start" "_law_start" d__law_start f fd) (hb : Binds K fd ["_law_script"] []) (hm : mg "_law_start" = some (.ref f)) (len : ∀ vs H Q E, sp vs H Q E → vs.length = 1)
    (h : ∀ vs H Q E, sp vs H Q E → t__law_start K w { nx := fun _ H1 => Q .non H1, rt := Q } (start N__law_start vs) H) : C8.Cal P w K mg base (k + 1) "_law_start" sp [] :=
  ⟨f, fd, ["_law_script"], [], fn__law_start T F len h, hm, F.kp, hb, .nil⟩
/-! ### _law_drawn -/
abbrev d__law_drawn : Stmt := topS 28
abbrev N__law_drawn : List Str := ["_law_state", "_law_many", "_law_found", "_law_cell"]
theorem sc__law_drawn : FnScope N__law_drawn ["_law_state", "_law_many"] (defScope d__law_drawn) := ⟨rfl, rfl, rfl, by decide +kernel, rfl, by decide +kernel, by decide +kernel⟩
def t__law_drawn (K : PySem.W.Frag) (w : World) : TS :=
  (tSeq (tIfS (tTest (tOp vGt (tOp (rIxL K) (tVar 0) (tC (.int 3))) (tC (.int 0)))) (tSeq (tAsg (tOp vMod (tOp (rIxL K) (tVar 0) (tC (.int 3))) (tVar 1)) (gName 2))
    (tSeq (tAsg (tOp vDiv (tOp (rIxL K) (tVar 0) (tC (.int 3))) (tVar 1)) (gSub (tVar 0) (tC (.int 3)) rSetL))
    (tRet (tVar 2)))) tNext)
    (tSeq (tAsg (tOp vAdd (tOp (rIxL K) (tVar 0) (tC (.int 1))) (tC (.int 1))) (gSub (tVar 0) (tC (.int 1)) rSetL))
    (tSeq (tIfS (tTest (tOp vLe (tOp (rIxL K) (tVar 0) (tC (.int 1))) (tCB (vLen K) (tCons (tOp (rIxL K) (tVar 0) (tC (.int 0))) tNil)))) (tSeq (tAsg (tOp (rIxL K) (tOp (rIxL K) (tVar 0) (tC (.int 0))) (tOp vSub (tOp (rIxL K) (tVar 0) (tC (.int 1))) (tC (.int 1)))) (gName 3))
    (tSeq (tAsg (tIf (tTest (tOp vGe (tVar 3) (tOp vPow (tC (.int 10)) (tC (.int 18))))) (tOp vDiv (tVar 3) (tVar 1)) (tC (.int 0))) (gSub (tVar 0) (tC (.int 3)) rSetL))
    (tRet (tOp vMod (tVar 3) (tVar 1))))) tNext)
    (tSeq (tAsg (tOp vMod (tOp vAdd (tOp vMul (tOp (rIxL K) (tVar 0) (tC (.int 2))) (tC (.int 48271))) (tC (.int 11))) (tC (.int 2147483647))) (gSub (tVar 0) (tC (.int 2)) rSetL))
    (tRet (tOp vMod (tOp vDiv (tOp (rIxL K) (tVar 0) (tC (.int 2))) (tC (.int 7))) (tVar 1)))))))
theorem der__law_drawn   {k : Nat} (T : Txt P K mg) {f : Addr} {cdv : Value} {A : Around} {outer : List Env} {s : Shared} {H : Hp} {E : XK} (hr : Room k (A.deeper (envOfC "_law_drawn" (defScope d__law_drawn) s.heap.objs.size f cdv))) :
    PSs (cxOf CX0 P w K mg base N__law_drawn "_law_drawn" (defScope d__law_drawn) f cdv A outer s H E).nox (defBody d__law_drawn) (t__law_drawn K w) :=
  (pss_cons (ps_if (pt_cmpR (op_gt) (pe_ix ix_list (pv 0) pe_int (fun _ _ => rfl)) pe_int (nomark _)) (pss_cons (ps_set (i := 2) sc__law_drawn.nd rfl (.inl rfl) (pe_op op_mod (pe_ix ix_list (pv 0) pe_int (fun _ _ => rfl)) (pv 1)))
    (pss_cons (ps_asg (pe_op op_fdivW (pe_ix ix_list (pv 0) pe_int (fun _ _ => rfl)) (pv 1)) (pg_sub (pv 0) pe_int set_list))
    (pss_one (ps_ret (pv 2))))) pss_nil)
    (pss_cons (ps_asg (pe_op op_add (pe_ix ix_list (pv 0) pe_int (fun _ _ => rfl)) pe_int) (pg_sub (pv 0) pe_int set_list))
    (pss_cons (ps_if (pt_cmpR (op_le) (pe_ix ix_list (pv 0) pe_int (fun _ _ => rfl)) (pe_callB call_len_seq (by rfl) T.m_len PySem.boot_len (pa_cons (pe_ix ix_list (pv 0) pe_int (fun _ _ => rfl)) pa_nil)) (nomark _)) (pss_cons (ps_set (i := 3) sc__law_drawn.nd rfl (.inl rfl) (pe_ix ix_list (pe_ix ix_list (pv 0) pe_int (fun _ _ => rfl)) (pe_op op_sub (pe_ix ix_list (pv 0) pe_int (fun _ _ => rfl)) pe_int) (fun _ _ => rfl)))
    (pss_cons (ps_asg (pe_ifExp (pt_cmpR (op_ge) (pv 3) (pe_op op_pow pe_int pe_int) (nomark _)) (pe_op op_fdivW (pv 3) (pv 1)) pe_int) (pg_sub (pv 0) pe_int set_list))
    (pss_one (ps_ret (pe_op op_mod (pv 3) (pv 1)))))) pss_nil)
    (pss_cons (ps_asg (pe_op op_mod (pe_op op_add (pe_op op_mul (pe_ix ix_list (pv 0) pe_int (fun _ _ => rfl)) pe_int) pe_int) pe_int) (pg_sub (pv 0) pe_int set_list))
    (pss_one (ps_ret (pe_op op_mod (pe_op op_fdivW (pe_ix ix_list (pv 0) pe_int (fun _ _ => rfl)) pe_int) (pv 1))))))))
theorem fn__law_drawn   {k : Nat} {sp : Sp} (T : Txt P K mg) {f : Addr} {fd : FuncData} (F : Fun K "_law_drawn" "_law_drawn" d__law_drawn f fd) (len : ∀ vs H Q E, sp vs H Q E → vs.length = 2)
    (h : ∀ vs H Q E, sp vs H Q E → t__law_drawn K w { nx := fun _ H1 => Q .non H1, rt := Q } (start N__law_drawn vs) H) : FnOk P w K mg base CX0 (k + 1) f fd ["_law_state", "_law_many"] sp :=
  F.ok sc__law_drawn len (fun cdv A outer s H vs Q E hr q => ⟨_, der__law_drawn T hr, h vs H Q E q⟩)
theorem cal__law_drawn   {k : Nat} {sp : Sp} (T : Txt P K mg) {f : Addr} {fd : FuncData} (F : Fun K "_law_drawn" "_law_drawn" d__law_drawn f fd) (hb : Binds K fd ["_law_state", "_law_many"] []) (hm : mg "_law_drawn" = some (.ref f)) (len : ∀ vs H Q E, sp vs H Q E → vs.length = 2)
    (h : ∀ vs H Q E, sp vs H Q E → t__law_drawn K w { nx := fun _ H1 => Q .non H1, rt := Q } (start N__law_drawn vs) H) : C8.Cal P w K mg base (k + 1) "_law_drawn" sp [] :=
  ⟨f, fd, ["_law_state", "_law_many"], [], fn__law_drawn T F len h, hm, F.kp, hb, .nil⟩
/-! ### _law_same -/
abbrev d__law_same : Stmt := topS 29
abbrev N__law_same : List Str := ["_law_found", "_law_due", "_law_k"]
theorem sc__law_same : FnScope N__law_same ["_law_found", "_law_due"] (defScope d__law_same) := ⟨rfl, rfl, rfl, by decide +kernel, rfl, by decide +kernel, by decide +kernel⟩
def t__law_same (K : PySem.W.Frag) (w : World) (s__law_same : Sp) : TS :=
  (tSeq (tIfS (tB (tCB (rIsiT K) (tCons (tVar 1) (tCons (tTup (tCons (tC (.ty "tuple")) (tCons (tC (.ty "list")) tNil))) tNil)))) (tSeq (tIfS (tOr (tNot (tB (tCB (rIsiT K) (tCons (tVar 0) (tCons (tTup (tCons (tC (.ty "tuple")) (tCons (tC (.ty "list")) tNil))) tNil))))) (tTest (tOp rNe (tCB (rIsi K) (tCons (tVar 0) (tCons (tC (.ty "list")) tNil))) (tCB (rIsi K) (tCons (tVar 1) (tCons (tC (.ty "list")) tNil)))))) (tRet (tC (.bl false))) tNext)
    (tSeq (tIfS (tTest (tOp rNe (tCB (vLen K) (tCons (tVar 0) tNil)) (tCB (vLen K) (tCons (tVar 1) tNil)))) (tRet (tC (.bl false))) tNext)
    (tRet (tOp (rEqD K) (tLc (iRng1 (tCons (tCB (vLen K) (tCons (tVar 1) tNil)) tNil)) (gName 2) (tNot (tB (tCall s__law_same [] E0 (tCons (tOp (rIx K) (tVar 0) (tVar 2)) (tCons (tOp (rIx K) (tVar 1) (tVar 2)) tNil))))) (tVar 2) [2]) (tLst tNil))))) tNext)
    (tSeq (tIfS (tTest (tOp vIsN (tVar 1) (tC .non))) (tRet (tOp vIsN (tVar 0) (tC .non))) tNext)
    (tSeq (tIfS (tB (tCB (rIsi K) (tCons (tVar 1) (tCons (tC (.ty "str")) tNil)))) (tRet (tAndV (tCB (rIsi K) (tCons (tVar 0) (tCons (tC (.ty "str")) tNil))) (tOp rEq (tVar 0) (tVar 1)))) tNext)
    (tSeq (tIfS (tOr (tB (tCB (rIsi K) (tCons (tVar 1) (tCons (tC (.ty "bool")) tNil)))) (tB (tCB (rIsi K) (tCons (tVar 0) (tCons (tC (.ty "bool")) tNil))))) (tRet (tAndV (tCB (rIsi K) (tCons (tVar 1) (tCons (tC (.ty "bool")) tNil))) (tAndV (tCB (rIsi K) (tCons (tVar 0) (tCons (tC (.ty "bool")) tNil))) (tOp rEq (tVar 0) (tVar 1))))) tNext)
    (tRet (tAndV (tCB (rIsi K) (tCons (tVar 0) (tCons (tC (.ty "int")) tNil))) (tOp rEq (tVar 0) (tVar 1))))))))
theorem der__law_same {k__law_same : Nat} {s__law_same : Sp} {k : Nat} (T : Txt P K mg) (c__law_same : C8.Cal P w K mg base k__law_same "_law_same" s__law_same []) (l__law_same : k__law_same ≤ k) {f : Addr} {cdv : Value} {A : Around} {outer : List Env} {s : Shared} {H : Hp} {E : XK} (hr : Room k (A.deeper (envOfC "_law_same" (defScope d__law_same) s.heap.objs.size f cdv))) :
    PSs (cxOf CX0 P w K mg base N__law_same "_law_same" (defScope d__law_same) f cdv A outer s H E).nox (defBody d__law_same) (t__law_same K w s__law_same) :=
  (pss_cons (ps_if (pt_val (pe_callB call_isiT (by rfl) T.m_isinstance (by decide +kernel) (pa_cons (pv 1) (pa_cons (pe_tup (pa_cons (pe_bltn (v := .ty "tuple") (by rfl) T.m_tuple (by decide +kernel) rfl) (pa_cons (pe_bltn (v := .ty "list") (by rfl) T.m_list (by decide +kernel) rfl) pa_nil))) pa_nil)))) (pss_cons (ps_if (PW.pt (pw_or (pt_not (pt_val (pe_callB call_isiT (by rfl) T.m_isinstance (by decide +kernel) (pa_cons (pv 0) (pa_cons (pe_tup (pa_cons (pe_bltn (v := .ty "tuple") (by rfl) T.m_tuple (by decide +kernel) rfl) (pa_cons (pe_bltn (v := .ty "list") (by rfl) T.m_list (by decide +kernel) rfl) pa_nil))) pa_nil))))) (pw_or1 (pt_cmpR (op_ne) (pe_callB call_isi (by rfl) T.m_isinstance (by decide +kernel) (pa_cons (pv 0) (pa_cons (pe_bltn (v := .ty "list") (by rfl) T.m_list (by decide +kernel) rfl) pa_nil))) (pe_callB call_isi (by rfl) T.m_isinstance (by decide +kernel) (pa_cons (pv 1) (pa_cons (pe_bltn (v := .ty "list") (by rfl) T.m_list (by decide +kernel) rfl) pa_nil))) (nomark _))))) (pss_one (ps_ret pe_bl)) pss_nil)
    (pss_cons (ps_if (pt_cmpR (op_ne) (pe_callB call_len_seq (by rfl) T.m_len PySem.boot_len (pa_cons (pv 0) pa_nil)) (pe_callB call_len_seq (by rfl) T.m_len PySem.boot_len (pa_cons (pv 1) pa_nil)) (nomark _)) (pss_one (ps_ret pe_bl)) pss_nil)
    (pss_one (ps_ret (pe_cmpR (op_eqD hr.units) (pe_lc (own := [("_law_k", 2)]) (g := (gName 2)) (tt := (tNot (tB (tCall s__law_same [] E0 (tCons (tOp (rIx K) (tVar 0) (tVar 2)) (tCons (tOp (rIx K) (tVar 1) (tVar 2)) tNil)))))) (te := (tVar 2)) (by rfl) sc__law_same.nd (pi_range1 (by rfl) T.m_range (pa_cons (pe_callB call_len_seq (by rfl) T.m_len PySem.boot_len (pa_cons (pv 1) pa_nil)) pa_nil)) (blkOk_by (N := N__law_same) (sc := defScope d__law_same) (by decide +kernel)) (fun _ _ _ _ _ => (pg_name (i := 2) sc__law_same.nd rfl (.inl rfl))) (fun _ _ _ _ _ => (pts_one (pt_not (pt_val (C8.pe_c c__law_same hr (by omega) (by rfl) (pa_cons (pe_ix ix_seq (pv 0) (pv 2) (fun _ _ => rfl)) (pa_cons (pe_ix ix_seq (pv 1) (pv 2) (fun _ _ => rfl)) pa_nil))))))) (fun _ _ _ _ _ => (pv 2))) (pe_lst pa_nil) (nomark _)))))) pss_nil)
    (pss_cons (ps_if (pt_cmpR (op_isN) (pv 1) pe_non (nomark _)) (pss_one (ps_ret (pe_cmpR (op_isN) (pv 0) pe_non (nomark _)))) pss_nil)
    (pss_cons (ps_if (pt_val (pe_callB call_isi (by rfl) T.m_isinstance (by decide +kernel) (pa_cons (pv 1) (pa_cons (pe_bltn (v := .ty "str") (by rfl) T.m_str (by decide +kernel) rfl) pa_nil)))) (pss_one (ps_ret (pe_and (pe_callB call_isi (by rfl) T.m_isinstance (by decide +kernel) (pa_cons (pv 0) (pa_cons (pe_bltn (v := .ty "str") (by rfl) T.m_str (by decide +kernel) rfl) pa_nil))) (pe_one (pe_cmpR (op_eq) (pv 0) (pv 1) (nomark _)))))) pss_nil)
    (pss_cons (ps_if (PW.pt (pw_or (pt_val (pe_callB call_isi (by rfl) T.m_isinstance (by decide +kernel) (pa_cons (pv 1) (pa_cons (pe_bltn (v := .ty "bool") (by rfl) T.m_bool (by decide +kernel) rfl) pa_nil)))) (pw_or1 (pt_val (pe_callB call_isi (by rfl) T.m_isinstance (by decide +kernel) (pa_cons (pv 0) (pa_cons (pe_bltn (v := .ty "bool") (by rfl) T.m_bool (by decide +kernel) rfl) pa_nil))))))) (pss_one (ps_ret (pe_and (pe_callB call_isi (by rfl) T.m_isinstance (by decide +kernel) (pa_cons (pv 1) (pa_cons (pe_bltn (v := .ty "bool") (by rfl) T.m_bool (by decide +kernel) rfl) pa_nil))) (pe_and (pe_callB call_isi (by rfl) T.m_isinstance (by decide +kernel) (pa_cons (pv 0) (pa_cons (pe_bltn (v := .ty "bool") (by rfl) T.m_bool (by decide +kernel) rfl) pa_nil))) (pe_one (pe_cmpR (op_eq) (pv 0) (pv 1) (nomark _))))))) pss_nil)
    (pss_one (ps_ret (pe_and (pe_callB call_isi (by rfl) T.m_isinstance (by decide +kernel) (pa_cons (pv 0) (pa_cons (pe_bltn (v := .ty "int") (by rfl) T.m_int (by decide +kernel) rfl) pa_nil))) (pe_one (pe_cmpR (op_eq) (pv 0) (pv 1) (nomark _))))))))))
theorem fn__law_same {k__law_same : Nat} {s__law_same : Sp} {k : Nat} {sp : Sp} (T : Txt P K mg) {f : Addr} {fd : FuncData} (F : Fun K "_law_same" "_law_same" d__law_same f fd) (c__law_same : C8.Cal P w K mg base k__law_same "_law_same" s__law_same []) (l__law_same : k__law_same ≤ k) (len : ∀ vs H Q E, sp vs H Q E → vs.length = 2)
    (h : ∀ vs H Q E, sp vs H Q E → t__law_same K w s__law_same { nx := fun _ H1 => Q .non H1, rt := Q } (start N__law_same vs) H) : FnOk P w K mg base CX0 (k + 1) f fd ["_law_found", "_law_due"] sp :=
  F.ok sc__law_same len (fun cdv A outer s H vs Q E hr q => ⟨_, der__law_same T c__law_same l__law_same hr, h vs H Q E q⟩)
theorem cal__law_same {k__law_same : Nat} {s__law_same : Sp} {k : Nat} {sp : Sp} (T : Txt P K mg) {f : Addr} {fd : FuncData} (F : Fun K "_law_same" "_law_same" d__law_same f fd) (hb : Binds K fd ["_law_found", "_law_due"] []) (hm : mg "_law_same" = some (.ref f)) (c__law_same : C8.Cal P w K mg base k__law_same "_law_same" s__law_same []) (l__law_same : k__law_same ≤ k) (len : ∀ vs H Q E, sp vs H Q E → vs.length = 2)
    (h : ∀ vs H Q E, sp vs H Q E → t__law_same K w s__law_same { nx := fun _ H1 => Q .non H1, rt := Q } (start N__law_same vs) H) : C8.Cal P w K mg base (k + 1) "_law_same" sp [] :=
  ⟨f, fd, ["_law_found", "_law_due"], [], fn__law_same T F c__law_same l__law_same len h, hm, F.kp, hb, .nil⟩
/-! ### _law_kind -/
abbrev d__law_kind : Stmt := topS 30
abbrev N__law_kind : List Str := ["_law_work", "e", "_law_kinds", "_law_words", "_law_word"]
theorem sc__law_kind : FnScope N__law_kind ["_law_work"] (defScope d__law_kind) := ⟨rfl, rfl, rfl, by decide +kernel, rfl, by decide +kernel, by decide +kernel⟩
def t__law_kind (K : PySem.W.Frag) (w : World) (a : Addr) (cls : Value) (d : Option Addr) : TS :=
  (tSeq (tAsg (tLst (tCons (tCB (EX.vIsE K cls d a) (tCons (tVar 1) (tCons (tC (.ref (He.ga K "BadLead"))) tNil))) (tCons (tCB (EX.vIsE K cls d a) (tCons (tVar 1) (tCons (tC (.ref (He.ga K "BadSpare"))) tNil))) (tCons (tCB (EX.vIsE K cls d a) (tCons (tVar 1) (tCons (tC (.ref (He.ga K "BadMove"))) tNil))) (tCons (tCB (EX.vIsE K cls d a) (tCons (tVar 1) (tCons (tC (.ref (He.ga K "NoWay"))) tNil))) tNil))))) (gName 2))
    (tSeq (tAsg (tOp rCat (tVar 2) (tLst (tCons (tCB (EX.vIsE K cls d a) (tCons (tVar 1) (tCons (tC (.ref (He.ga K "BadWord"))) tNil))) (tCons (tCB (EX.vIsE K cls d a) (tCons (tVar 1) (tCons (tC (.ref (He.ga K "BadHouse"))) tNil))) (tCons (tCB (EX.vIsE K cls d a) (tCons (tVar 1) (tCons (tC (.ref (He.ga K "BadCall"))) tNil))) tNil))))) (gName 2))
    (tSeq (tDrop (tBM K "list" rAppend (tVar 2) (tCons (tCB (EX.vIsE K cls d a) (tCons (tVar 1) (tCons (tC (.ref (He.ga K "BadText"))) tNil))) tNil)))
    (tSeq (tAsg (tLst (tCons (tC (.str "BadLead")) (tCons (tC (.str "BadSpare")) (tCons (tC (.str "BadMove")) (tCons (tC (.str "NoWay")) (tCons (tC (.str "BadWord")) (tCons (tC (.str "BadHouse")) (tCons (tC (.str "BadCall")) (tCons (tC (.str "BadText")) tNil))))))))) (gName 3))
    (tSeq (tIfS (tOr (tTest (tOp rNe (tBM K "list" (EX.vCount K) (tVar 2) (tCons (tC (.bl true)) tNil)) (tC (.int 1)))) (tNot (tB (tCB (EX.vIsE K cls d a) (tCons (tVar 1) (tCons (tC (.ty "ValueError")) tNil)))))) (tRet (tC (.str "other"))) tNext)
    (tSeq (tAsg (tOp (rIxL K) (tVar 3) (tBM K "list" (rIndex K) (tVar 2) (tCons (tC (.bl true)) tNil))) (gName 4))
    (tSeq (tIfS (tTest (tOp rEq (tVar 4) (tC (.str "BadMove")))) (tRet (tTup (tCons (tVar 4) (tCons (tXf a cls d (He.ga K "BadMove") "number" (tVar 1)) tNil)))) tNext)
    (tRet (tIf (tTest (tOp rEq (tVar 4) (tC (.str "BadText")))) (tTup (tCons (tVar 4) (tCons (tXf a cls d (He.ga K "BadText") "place" (tVar 1)) tNil))) (tVar 4))))))))))
theorem der__law_kind {X : Cx} (T : Txt X.prog X.K X.mg) (KC : EX.KindC X.K) {q : Str} {g : Addr} {cdg : Value}
    (hp : ∀ (cls : Value) (d : Option Addr) (H : Hp) (Q : VK), EX.KindE X.K cls d H Q → ∀ (σ : L2.St) (a : Addr) (D : Ends), σ.length = 5 → H a = none → D.rt = Q → t__law_kind X.K X.w a cls d D (σ.set 1 (some (.ref a))) H) :
    LamX.GivesTo X N__law_kind "_law_kind" (defScope d__law_kind) g cdg (defBody d__law_kind) "_law_work" q (EX.TKind X.K) := by
  intro f c' s H Q tl act hc h
  refine ⟨_, pss_one (ps_try_as (X := (cxOf C8.CX0 X.prog X.w X.K X.mg X.base N__law_kind "_law_kind" (defScope d__law_kind) g cdg X.A X.stack s H C8.E0).nox) (i := 1) (c := .ref (He.ga X.K "MoveError"))
      (tb := fun W D σ H => ∃ Ech : XK, (∀ cls d σ' H', σ'.length = 5 → Ech cls d H' → W cls d σ' H') ∧ σ[0]? = some (some (.ref f)) ∧ H c' = some (LamX.CodeO c' q) ∧ tl Ech H D.rt)
      (ts := fun a cls d => t__law_kind X.K X.w a cls d) (Wout := fun _ _ _ _ => False)
      rfl rfl sc__law_kind.nd rfl rfl ⟨by rfl, by decide, .inl T.x_MoveError⟩ takes0 (fun W pn xe tk _ => ?_) (fun a oe cls d pn hz hf => ?_)), ?_⟩
  · refine ⟨fun pins s' σ H' D I h' => ?_⟩
    obtain ⟨Ech, hW, h1, h2, h3⟩ := h'
    exact (pss_one (ps_ret (act _ pn xe Ech _ _ (EX.takes_len tk) (fun cls d σ' H' he hl => hW cls d σ' H' hl he)))).run pins s' σ H' D I ⟨h1, h2, h3⟩
  · exact (pss_cons (ps_set (i := 2) sc__law_kind.nd rfl (.inl rfl) (pe_lst (pa_cons (pe_callB (EX.call_isO hz hf) (by rfl) T.m_isinstance (by decide +kernel) (pa_cons (pv 1) (pa_cons (pe_glob (by rfl) T.x_BadLead rfl) pa_nil))) (pa_cons (pe_callB (EX.call_isO hz hf) (by rfl) T.m_isinstance (by decide +kernel) (pa_cons (pv 1) (pa_cons (pe_glob (by rfl) T.x_BadSpare rfl) pa_nil))) (pa_cons (pe_callB (EX.call_isO hz hf) (by rfl) T.m_isinstance (by decide +kernel) (pa_cons (pv 1) (pa_cons (pe_glob (by rfl) T.x_BadMove rfl) pa_nil))) (pa_cons (pe_callB (EX.call_isO hz hf) (by rfl) T.m_isinstance (by decide +kernel) (pa_cons (pv 1) (pa_cons (pe_glob (by rfl) T.x_NoWay rfl) pa_nil))) pa_nil))))))
    (pss_cons (ps_set (i := 2) sc__law_kind.nd rfl (.inl rfl) (pe_op op_cat (pv 2) (pe_lst (pa_cons (pe_callB (EX.call_isO hz hf) (by rfl) T.m_isinstance (by decide +kernel) (pa_cons (pv 1) (pa_cons (pe_glob (by rfl) T.x_BadWord rfl) pa_nil))) (pa_cons (pe_callB (EX.call_isO hz hf) (by rfl) T.m_isinstance (by decide +kernel) (pa_cons (pv 1) (pa_cons (pe_glob (by rfl) T.x_BadHouse rfl) pa_nil))) (pa_cons (pe_callB (EX.call_isO hz hf) (by rfl) T.m_isinstance (by decide +kernel) (pa_cons (pv 1) (pa_cons (pe_glob (by rfl) T.x_BadCall rfl) pa_nil))) pa_nil))))))
    (pss_cons (ps_expr (pe_bm PySem.F.plainAttrs_list PySem.F.slot_list_append PySem.F.type_list_append mt_append (pv 2) (pa_cons (pe_callB (EX.call_isO hz hf) (by rfl) T.m_isinstance (by decide +kernel) (pa_cons (pv 1) (pa_cons (pe_glob (by rfl) T.x_BadText rfl) pa_nil))) pa_nil)))
    (pss_cons (ps_set (i := 3) sc__law_kind.nd rfl (.inl rfl) (pe_lst (pa_cons pe_str (pa_cons pe_str (pa_cons pe_str (pa_cons pe_str (pa_cons pe_str (pa_cons pe_str (pa_cons pe_str (pa_cons pe_str pa_nil))))))))))
    (pss_cons (ps_if (PW.pt (pw_or (pt_cmpR (op_ne) (pe_bm PySem.F.plainAttrs_list PySem.F.slot_list_count PySem.F.type_list_count EX.mt_countF (pv 2) (pa_cons pe_bl pa_nil)) pe_int (nomark _)) (pw_or1 (pt_not (pt_val (pe_callB (EX.call_isO hz hf) (by rfl) T.m_isinstance (by decide +kernel) (pa_cons (pv 1) (pa_cons (pe_bltn (v := .ty "ValueError") (by rfl) T.m_ValueError (by decide +kernel) rfl) pa_nil)))))))) (pss_one (ps_ret pe_str)) pss_nil)
    (pss_cons (ps_set (i := 4) sc__law_kind.nd rfl (.inl rfl) (pe_ix ix_list (pv 3) (pe_bm PySem.F.plainAttrs_list PySem.F.slot_list_index PySem.F.type_list_index mt_index (pv 2) (pa_cons pe_bl pa_nil)) (fun _ _ => rfl)))
    (pss_cons (ps_if (pt_cmpR (op_eq) (pv 4) pe_str (nomark _)) (pss_one (ps_ret (pe_tup (pa_cons (pv 4) (pa_cons (EX.pe_fld KC.xm KC.nm hz hf (pv 1)) pa_nil))))) pss_nil)
    (pss_one (ps_ret (pe_ifExp (pt_cmpR (op_eq) (pv 4) pe_str (nomark _)) (pe_tup (pa_cons (pv 4) (pa_cons (EX.pe_fld KC.xt KC.nt hz hf (pv 1)) pa_nil))) (pv 4)))))))))))
  · refine ⟨fun cls d H' => EX.KindE X.K cls d H' Q, fun cls d σ' H' hl hk => ⟨true, ?_, fun _ a ha => hp cls d H' Q hk σ' a _ hl ha rfl, fun z => Bool.noConfusion z⟩, rfl, hc, h⟩
    obtain ⟨x, hx, e, _⟩ := hk
    rw [e]
    exact KC.exm x hx
/-! ### _law_far -/
abbrev d__law_far : Stmt := topS 31
abbrev N__law_far : List Str := ["_law_state", "_law_most", "_law_far_here"]
theorem sc__law_far : FnScope N__law_far ["_law_state", "_law_most"] (defScope d__law_far) := ⟨rfl, rfl, rfl, by decide +kernel, rfl, by decide +kernel, by decide +kernel⟩
def t__law_far (K : PySem.W.Frag) (w : World) (s__law_drawn : Sp) : TS :=
  (tSeq (tAsg (tOp (rIxL K) (tLst (tCons (tC (.int 1)) (tCons (tC (.int 20)) (tCons (tOp vPow (tC (.int 10)) (tC (.int 29))) tNil)))) (tCall s__law_drawn [] E0 (tCons (tVar 0) (tCons (tC (.int 3)) tNil)))) (gName 2))
    (tRet (tOp (rIxL K) (tLst (tCons (tOp vSub (tOp vSub (tC (.int 0)) (tC (.int 1))) (tCall s__law_drawn [] E0 (tCons (tVar 0) (tCons (tVar 2) tNil)))) (tCons (tOp vAdd (tOp vAdd (tVar 1) (tC (.int 1))) (tCall s__law_drawn [] E0 (tCons (tVar 0) (tCons (tVar 2) tNil)))) tNil))) (tCall s__law_drawn [] E0 (tCons (tVar 0) (tCons (tC (.int 2)) tNil))))))
theorem der__law_far {k__law_drawn : Nat} {s__law_drawn : Sp} {k : Nat} (T : Txt P K mg) (c__law_drawn : C8.Cal P w K mg base k__law_drawn "_law_drawn" s__law_drawn []) (l__law_drawn : k__law_drawn ≤ k) {f : Addr} {cdv : Value} {A : Around} {outer : List Env} {s : Shared} {H : Hp} {E : XK} (hr : Room k (A.deeper (envOfC "_law_far" (defScope d__law_far) s.heap.objs.size f cdv))) :
    PSs (cxOf CX0 P w K mg base N__law_far "_law_far" (defScope d__law_far) f cdv A outer s H E).nox (defBody d__law_far) (t__law_far K w s__law_drawn) :=
  (pss_cons (ps_set (i := 2) sc__law_far.nd rfl (.inl rfl) (pe_ix ix_list (pe_lst (pa_cons pe_int (pa_cons pe_int (pa_cons (pe_op op_pow pe_int pe_int) pa_nil)))) (C8.pe_c c__law_drawn hr (by omega) (by rfl) (pa_cons (pv 0) (pa_cons pe_int pa_nil))) (fun _ _ => rfl)))
    (pss_one (ps_ret (pe_ix ix_list (pe_lst (pa_cons (pe_op op_sub (pe_op op_sub pe_int pe_int) (C8.pe_c c__law_drawn hr (by omega) (by rfl) (pa_cons (pv 0) (pa_cons (pv 2) pa_nil)))) (pa_cons (pe_op op_add (pe_op op_add (pv 1) pe_int) (C8.pe_c c__law_drawn hr (by omega) (by rfl) (pa_cons (pv 0) (pa_cons (pv 2) pa_nil)))) pa_nil))) (C8.pe_c c__law_drawn hr (by omega) (by rfl) (pa_cons (pv 0) (pa_cons pe_int pa_nil))) (fun _ _ => rfl)))))
theorem fn__law_far {k__law_drawn : Nat} {s__law_drawn : Sp} {k : Nat} {sp : Sp} (T : Txt P K mg) {f : Addr} {fd : FuncData} (F : Fun K "_law_far" "_law_far" d__law_far f fd) (c__law_drawn : C8.Cal P w K mg base k__law_drawn "_law_drawn" s__law_drawn []) (l__law_drawn : k__law_drawn ≤ k) (len : ∀ vs H Q E, sp vs H Q E → vs.length = 2)
    (h : ∀ vs H Q E, sp vs H Q E → t__law_far K w s__law_drawn { nx := fun _ H1 => Q .non H1, rt := Q } (start N__law_far vs) H) : FnOk P w K mg base CX0 (k + 1) f fd ["_law_state", "_law_most"] sp :=
  F.ok sc__law_far len (fun cdv A outer s H vs Q E hr q => ⟨_, der__law_far T c__law_drawn l__law_drawn hr, h vs H Q E q⟩)
theorem cal__law_far {k__law_drawn : Nat} {s__law_drawn : Sp} {k : Nat} {sp : Sp} (T : Txt P K mg) {f : Addr} {fd : FuncData} (F : Fun K "_law_far" "_law_far" d__law_far f fd) (hb : Binds K fd ["_law_state", "_law_most"] []) (hm : mg "_law_far" = some (.ref f)) (c__law_drawn : C8.Cal P w K mg base k__law_drawn "_law_drawn" s__law_drawn []) (l__law_drawn : k__law_drawn ≤ k) (len : ∀ vs H Q E, sp vs H Q E → vs.length = 2)
    (h : ∀ vs H Q E, sp vs H Q E → t__law_far K w s__law_drawn { nx := fun _ H1 => Q .non H1, rt := Q } (start N__law_far vs) H) : C8.Cal P w K mg base (k + 1) "_law_far" sp [] :=
  ⟨f, fd, ["_law_state", "_law_most"], [], fn__law_far T F c__law_drawn l__law_drawn len h, hm, F.kp, hb, .nil⟩
/-! ### _law_boxes -/
abbrev d__law_boxes : Stmt := topS 34
abbrev N__law_boxes : List Str := ["_law_state"]
theorem sc__law_boxes : FnScope N__law_boxes ["_law_state"] (defScope d__law_boxes) := ⟨rfl, rfl, rfl, by decide +kernel, rfl, by decide +kernel, by decide +kernel⟩
def t__law_boxes (K : PySem.W.Frag) (w : World) (s__law_drawn : Sp) : TS :=
  (tRet (tOp (rIxL K) (tLst (tCons (tOp vAdd (tC (.int 1)) (tCall s__law_drawn [] E0 (tCons (tVar 0) (tCons (tC (.int 4)) tNil)))) (tCons (tOp vAdd (tC (.int 2)) (tCall s__law_drawn [] E0 (tCons (tVar 0) (tCons (tC (.int 5)) tNil)))) (tCons (tOp vAdd (tC (.int 1)) (tCall s__law_drawn [] E0 (tCons (tVar 0) (tCons (tC (.int 10)) tNil)))) tNil)))) (tCall s__law_drawn [] E0 (tCons (tVar 0) (tCons (tC (.int 3)) tNil)))))
theorem der__law_boxes {k__law_drawn : Nat} {s__law_drawn : Sp} {k : Nat} (T : Txt P K mg) (c__law_drawn : C8.Cal P w K mg base k__law_drawn "_law_drawn" s__law_drawn []) (l__law_drawn : k__law_drawn ≤ k) {f : Addr} {cdv : Value} {A : Around} {outer : List Env} {s : Shared} {H : Hp} {E : XK} (hr : Room k (A.deeper (envOfC "_law_boxes" (defScope d__law_boxes) s.heap.objs.size f cdv))) :
    PSs (cxOf CX0 P w K mg base N__law_boxes "_law_boxes" (defScope d__law_boxes) f cdv A outer s H E).nox (defBody d__law_boxes) (t__law_boxes K w s__law_drawn) :=
  (pss_one (ps_ret (pe_ix ix_list (pe_lst (pa_cons (pe_op op_add pe_int (C8.pe_c c__law_drawn hr (by omega) (by rfl) (pa_cons (pv 0) (pa_cons pe_int pa_nil)))) (pa_cons (pe_op op_add pe_int (C8.pe_c c__law_drawn hr (by omega) (by rfl) (pa_cons (pv 0) (pa_cons pe_int pa_nil)))) (pa_cons (pe_op op_add pe_int (C8.pe_c c__law_drawn hr (by omega) (by rfl) (pa_cons (pv 0) (pa_cons pe_int pa_nil)))) pa_nil)))) (C8.pe_c c__law_drawn hr (by omega) (by rfl) (pa_cons (pv 0) (pa_cons pe_int pa_nil))) (fun _ _ => rfl))))
theorem fn__law_boxes {k__law_drawn : Nat} {s__law_drawn : Sp} {k : Nat} {sp : Sp} (T : Txt P K mg) {f : Addr} {fd : FuncData} (F : Fun K "_law_boxes" "_law_boxes" d__law_boxes f fd) (c__law_drawn : C8.Cal P w K mg base k__law_drawn "_law_drawn" s__law_drawn []) (l__law_drawn : k__law_drawn ≤ k) (len : ∀ vs H Q E, sp vs H Q E → vs.length = 1)
    (h : ∀ vs H Q E, sp vs H Q E → t__law_boxes K w s__law_drawn { nx := fun _ H1 => Q .non H1, rt := Q } (start N__law_boxes vs) H) : FnOk P w K mg base CX0 (k + 1) f fd ["_law_state"] sp :=
  F.ok sc__law_boxes len (fun cdv A outer s H vs Q E hr q => ⟨_, der__law_boxes T c__law_drawn l__law_drawn hr, h vs H Q E q⟩)
theorem cal__law_boxes {k__law_drawn : Nat} {s__law_drawn : Sp} {k : Nat} {sp : Sp} (T : Txt P K mg) {f : Addr} {fd : FuncData} (F : Fun K "_law_boxes" "_law_boxes" d__law_boxes f fd) (hb : Binds K fd ["_law_state"] []) (hm : mg "_law_boxes" = some (.ref f)) (c__law_drawn : C8.Cal P w K mg base k__law_drawn "_law_drawn" s__law_drawn []) (l__law_drawn : k__law_drawn ≤ k) (len : ∀ vs H Q E, sp vs H Q E → vs.length = 1)
    (h : ∀ vs H Q E, sp vs H Q E → t__law_boxes K w s__law_drawn { nx := fun _ H1 => Q .non H1, rt := Q } (start N__law_boxes vs) H) : C8.Cal P w K mg base (k + 1) "_law_boxes" sp [] :=
  ⟨f, fd, ["_law_state"], [], fn__law_boxes T F c__law_drawn l__law_drawn len h, hm, F.kp, hb, .nil⟩
/-! ### _law_worths -/
abbrev d__law_worths : Stmt := topS 35
abbrev N__law_worths : List Str := ["_law_state", "_law_boxes_here", "_law_far_here", "_law_box"]
theorem sc__law_worths : FnScope N__law_worths ["_law_state", "_law_boxes_here"] (defScope d__law_worths) := ⟨rfl, rfl, rfl, by decide +kernel, rfl, by decide +kernel, by decide +kernel⟩
def t__law_worths (K : PySem.W.Frag) (w : World) (s__law_drawn : Sp) : TS :=
  (tSeq (tAsg (tOp (rIxL K) (tLst (tCons (tC (.int 5)) (tCons (tC (.int 100)) (tCons (tOp vPow (tC (.int 10)) (tC (.int 29))) tNil)))) (tCall s__law_drawn [] E0 (tCons (tVar 0) (tCons (tC (.int 3)) tNil)))) (gName 2))
    (tRet (tLc (iRng1 (tCons (tVar 1) tNil)) (gName 3) tYes (tOp vSub (tCall s__law_drawn [] E0 (tCons (tVar 0) (tCons (tVar 2) tNil))) (tOp vMul (tCall s__law_drawn [] E0 (tCons (tVar 0) (tCons (tC (.int 2)) tNil))) (tVar 2))) [3])))
theorem der__law_worths {k__law_drawn : Nat} {s__law_drawn : Sp} {k : Nat} (T : Txt P K mg) (c__law_drawn : C8.Cal P w K mg base k__law_drawn "_law_drawn" s__law_drawn []) (l__law_drawn : k__law_drawn ≤ k) {f : Addr} {cdv : Value} {A : Around} {outer : List Env} {s : Shared} {H : Hp} {E : XK} (hr : Room k (A.deeper (envOfC "_law_worths" (defScope d__law_worths) s.heap.objs.size f cdv))) :
    PSs (cxOf CX0 P w K mg base N__law_worths "_law_worths" (defScope d__law_worths) f cdv A outer s H E).nox (defBody d__law_worths) (t__law_worths K w s__law_drawn) :=
  (pss_cons (ps_set (i := 2) sc__law_worths.nd rfl (.inr rfl) (pe_ix ix_list (pe_lst (pa_cons pe_int (pa_cons pe_int (pa_cons (pe_op op_pow pe_int pe_int) pa_nil)))) (C8.pe_c c__law_drawn hr (by omega) (by rfl) (pa_cons (pv 0) (pa_cons pe_int pa_nil))) (fun _ _ => rfl)))
    (pss_one (ps_ret (pe_lc (own := [("_law_box", 3)]) (g := (gName 3)) (tt := tYes) (te := (tOp vSub (tCall s__law_drawn [] E0 (tCons (tVar 0) (tCons (tVar 2) tNil))) (tOp vMul (tCall s__law_drawn [] E0 (tCons (tVar 0) (tCons (tC (.int 2)) tNil))) (tVar 2)))) (by rfl) sc__law_worths.nd (pi_range1 (by rfl) T.m_range (pa_cons (pv 1) pa_nil)) (blkOk_by (N := N__law_worths) (sc := defScope d__law_worths) (by decide +kernel)) (fun _ _ _ _ _ => (pg_name (i := 3) sc__law_worths.nd rfl (.inl rfl))) (fun _ _ _ _ _ => pts_nil) (fun _ _ _ _ _ => (pe_op op_sub (C8.pe_c c__law_drawn hr (by omega) (by rfl) (pa_cons (pv 0) (pa_cons (pv 2) pa_nil))) (pe_op op_mul (C8.pe_c c__law_drawn hr (by omega) (by rfl) (pa_cons (pv 0) (pa_cons pe_int pa_nil))) (pv 2))))))))
theorem fn__law_worths {k__law_drawn : Nat} {s__law_drawn : Sp} {k : Nat} {sp : Sp} (T : Txt P K mg) {f : Addr} {fd : FuncData} (F : Fun K "_law_worths" "_law_worths" d__law_worths f fd) (c__law_drawn : C8.Cal P w K mg base k__law_drawn "_law_drawn" s__law_drawn []) (l__law_drawn : k__law_drawn ≤ k) (len : ∀ vs H Q E, sp vs H Q E → vs.length = 2)
    (h : ∀ vs H Q E, sp vs H Q E → t__law_worths K w s__law_drawn { nx := fun _ H1 => Q .non H1, rt := Q } (start N__law_worths vs) H) : FnOk P w K mg base CX0 (k + 1) f fd ["_law_state", "_law_boxes_here"] sp :=
  F.ok sc__law_worths len (fun cdv A outer s H vs Q E hr q => ⟨_, der__law_worths T c__law_drawn l__law_drawn hr, h vs H Q E q⟩)
theorem cal__law_worths {k__law_drawn : Nat} {s__law_drawn : Sp} {k : Nat} {sp : Sp} (T : Txt P K mg) {f : Addr} {fd : FuncData} (F : Fun K "_law_worths" "_law_worths" d__law_worths f fd) (hb : Binds K fd ["_law_state", "_law_boxes_here"] []) (hm : mg "_law_worths" = some (.ref f)) (c__law_drawn : C8.Cal P w K mg base k__law_drawn "_law_drawn" s__law_drawn []) (l__law_drawn : k__law_drawn ≤ k) (len : ∀ vs H Q E, sp vs H Q E → vs.length = 2)
    (h : ∀ vs H Q E, sp vs H Q E → t__law_worths K w s__law_drawn { nx := fun _ H1 => Q .non H1, rt := Q } (start N__law_worths vs) H) : C8.Cal P w K mg base (k + 1) "_law_worths" sp [] :=
  ⟨f, fd, ["_law_state", "_law_boxes_here"], [], fn__law_worths T F c__law_drawn l__law_drawn len h, hm, F.kp, hb, .nil⟩
/-! ### _law_moved -/
abbrev d__law_moved : Stmt := topS 37
abbrev N__law_moved : List Str := ["_law_worths_here", "_law_moves", "_law_found", "_law_word", "_law_one", "_law_other", "_law_had"]
theorem sc__law_moved : FnScope N__law_moved ["_law_worths_here", "_law_moves"] (defScope d__law_moved) := ⟨rfl, rfl, rfl, by decide +kernel, rfl, by decide +kernel, by decide +kernel⟩
def t__law_moved (K : PySem.W.Frag) (w : World) : TS :=
  (tSeq (tAsg (tCB (vListOf K) (tCons (tVar 0) tNil)) (gName 2))
    (tSeq (tFor (iList K (tVar 1)) (gTup K 3 (gCons (gName 3) (gCons (gName 4) (gCons (gName 5) gNil)))) (tIfS (tTest (tOp rEq (tVar 3) (tC (.str "copy")))) (tAsg (tOp (rIxL K) (tVar 2) (tVar 5)) (gSub (tVar 2) (tVar 4) rSetL)) (tSeq (tAsg (tOp (rIxL K) (tVar 2) (tVar 4)) (gName 6))
    (tSeq (tAsg (tOp (rIxL K) (tVar 2) (tVar 5)) (gSub (tVar 2) (tVar 4) rSetL))
    (tAsg (tVar 6) (gSub (tVar 2) (tVar 5) rSetL))))))
    (tRet (tVar 2))))
theorem der__law_moved   {k : Nat} (T : Txt P K mg) {f : Addr} {cdv : Value} {A : Around} {outer : List Env} {s : Shared} {H : Hp} {E : XK} (hr : Room k (A.deeper (envOfC "_law_moved" (defScope d__law_moved) s.heap.objs.size f cdv))) :
    PSs (cxOf CX0 P w K mg base N__law_moved "_law_moved" (defScope d__law_moved) f cdv A outer s H E).nox (defBody d__law_moved) (t__law_moved K w) :=
  (pss_cons (ps_set (i := 2) sc__law_moved.nd rfl (.inl rfl) (pe_callTy call_list_of (by rfl) T.m_list (by decide +kernel) (pa_cons (pv 0) pa_nil)))
    (pss_cons (ps_for PassesOwn.never rfl (pi_list (pv 1)) (pg_tup (by rfl) (pgs_cons (pg_name (i := 3) sc__law_moved.nd rfl (.inl rfl)) (pgs_cons (pg_name (i := 4) sc__law_moved.nd rfl (.inl rfl)) (pgs_cons (pg_name (i := 5) sc__law_moved.nd rfl (.inl rfl)) pgs_nil)))) (pss_one (ps_if (pt_cmpR (op_eq) (pv 3) pe_str (nomark _)) (pss_one (ps_asg (pe_ix ix_list (pv 2) (pv 5) (fun _ _ => rfl)) (pg_sub (pv 2) (pv 4) set_list))) (pss_cons (ps_set (i := 6) sc__law_moved.nd rfl (.inl rfl) (pe_ix ix_list (pv 2) (pv 4) (fun _ _ => rfl)))
    (pss_cons (ps_asg (pe_ix ix_list (pv 2) (pv 5) (fun _ _ => rfl)) (pg_sub (pv 2) (pv 4) set_list))
    (pss_one (ps_asg (pv 6) (pg_sub (pv 2) (pv 5) set_list))))))))
    (pss_one (ps_ret (pv 2)))))
theorem fn__law_moved   {k : Nat} {sp : Sp} (T : Txt P K mg) {f : Addr} {fd : FuncData} (F : Fun K "_law_moved" "_law_moved" d__law_moved f fd) (len : ∀ vs H Q E, sp vs H Q E → vs.length = 2)
    (h : ∀ vs H Q E, sp vs H Q E → t__law_moved K w { nx := fun _ H1 => Q .non H1, rt := Q } (start N__law_moved vs) H) : FnOk P w K mg base CX0 (k + 1) f fd ["_law_worths_here", "_law_moves"] sp :=
  F.ok sc__law_moved len (fun cdv A outer s H vs Q E hr q => ⟨_, der__law_moved T hr, h vs H Q E q⟩)
theorem cal__law_moved   {k : Nat} {sp : Sp} (T : Txt P K mg) {f : Addr} {fd : FuncData} (F : Fun K "_law_moved" "_law_moved" d__law_moved f fd) (hb : Binds K fd ["_law_worths_here", "_law_moves"] []) (hm : mg "_law_moved" = some (.ref f)) (len : ∀ vs H Q E, sp vs H Q E → vs.length = 2)
    (h : ∀ vs H Q E, sp vs H Q E → t__law_moved K w { nx := fun _ H1 => Q .non H1, rt := Q } (start N__law_moved vs) H) : C8.Cal P w K mg base (k + 1) "_law_moved" sp [] :=
  ⟨f, fd, ["_law_worths_here", "_law_moves"], [], fn__law_moved T F len h, hm, F.kp, hb, .nil⟩
/-! ### _law_move -/
abbrev d__law_move : Stmt := topS 38
abbrev N__law_move : List Str := ["_law_state", "_law_boxes_here", "_law_one", "_law_other"]
theorem sc__law_move : FnScope N__law_move ["_law_state", "_law_boxes_here"] (defScope d__law_move) := ⟨rfl, rfl, rfl, by decide +kernel, rfl, by decide +kernel, by decide +kernel⟩
def t__law_move (K : PySem.W.Frag) (w : World) (s__law_drawn : Sp) : TS :=
  (tSeq (tAsg (tCall s__law_drawn [] E0 (tCons (tVar 0) (tCons (tVar 1) tNil))) (gName 2))
    (tSeq (tAsg (tOp vMod (tOp vAdd (tOp vAdd (tVar 2) (tC (.int 1))) (tCall s__law_drawn [] E0 (tCons (tVar 0) (tCons (tOp vSub (tVar 1) (tC (.int 1))) tNil)))) (tVar 1)) (gName 3))
    (tRet (tTup (tCons (tOp (rIxL K) (tLst (tCons (tC (.str "copy")) (tCons (tC (.str "swap")) tNil))) (tCall s__law_drawn [] E0 (tCons (tVar 0) (tCons (tC (.int 2)) tNil)))) (tCons (tVar 2) (tCons (tVar 3) tNil)))))))
theorem der__law_move {k__law_drawn : Nat} {s__law_drawn : Sp} {k : Nat} (T : Txt P K mg) (c__law_drawn : C8.Cal P w K mg base k__law_drawn "_law_drawn" s__law_drawn []) (l__law_drawn : k__law_drawn ≤ k) {f : Addr} {cdv : Value} {A : Around} {outer : List Env} {s : Shared} {H : Hp} {E : XK} (hr : Room k (A.deeper (envOfC "_law_move" (defScope d__law_move) s.heap.objs.size f cdv))) :
    PSs (cxOf CX0 P w K mg base N__law_move "_law_move" (defScope d__law_move) f cdv A outer s H E).nox (defBody d__law_move) (t__law_move K w s__law_drawn) :=
  (pss_cons (ps_set (i := 2) sc__law_move.nd rfl (.inl rfl) (C8.pe_c c__law_drawn hr (by omega) (by rfl) (pa_cons (pv 0) (pa_cons (pv 1) pa_nil))))
    (pss_cons (ps_set (i := 3) sc__law_move.nd rfl (.inl rfl) (pe_op op_mod (pe_op op_add (pe_op op_add (pv 2) pe_int) (C8.pe_c c__law_drawn hr (by omega) (by rfl) (pa_cons (pv 0) (pa_cons (pe_op op_sub (pv 1) pe_int) pa_nil)))) (pv 1)))
    (pss_one (ps_ret (pe_tup (pa_cons (pe_ix ix_list (pe_lst (pa_cons pe_str (pa_cons pe_str pa_nil))) (C8.pe_c c__law_drawn hr (by omega) (by rfl) (pa_cons (pv 0) (pa_cons pe_int pa_nil))) (fun _ _ => rfl)) (pa_cons (pv 2) (pa_cons (pv 3) pa_nil))))))))
theorem fn__law_move {k__law_drawn : Nat} {s__law_drawn : Sp} {k : Nat} {sp : Sp} (T : Txt P K mg) {f : Addr} {fd : FuncData} (F : Fun K "_law_move" "_law_move" d__law_move f fd) (c__law_drawn : C8.Cal P w K mg base k__law_drawn "_law_drawn" s__law_drawn []) (l__law_drawn : k__law_drawn ≤ k) (len : ∀ vs H Q E, sp vs H Q E → vs.length = 2)
    (h : ∀ vs H Q E, sp vs H Q E → t__law_move K w s__law_drawn { nx := fun _ H1 => Q .non H1, rt := Q } (start N__law_move vs) H) : FnOk P w K mg base CX0 (k + 1) f fd ["_law_state", "_law_boxes_here"] sp :=
  F.ok sc__law_move len (fun cdv A outer s H vs Q E hr q => ⟨_, der__law_move T c__law_drawn l__law_drawn hr, h vs H Q E q⟩)
theorem cal__law_move {k__law_drawn : Nat} {s__law_drawn : Sp} {k : Nat} {sp : Sp} (T : Txt P K mg) {f : Addr} {fd : FuncData} (F : Fun K "_law_move" "_law_move" d__law_move f fd) (hb : Binds K fd ["_law_state", "_law_boxes_here"] []) (hm : mg "_law_move" = some (.ref f)) (c__law_drawn : C8.Cal P w K mg base k__law_drawn "_law_drawn" s__law_drawn []) (l__law_drawn : k__law_drawn ≤ k) (len : ∀ vs H Q E, sp vs H Q E → vs.length = 2)
    (h : ∀ vs H Q E, sp vs H Q E → t__law_move K w s__law_drawn { nx := fun _ H1 => Q .non H1, rt := Q } (start N__law_move vs) H) : C8.Cal P w K mg base (k + 1) "_law_move" sp [] :=
  ⟨f, fd, ["_law_state", "_law_boxes_here"], [], fn__law_move T F c__law_drawn l__law_drawn len h, hm, F.kp, hb, .nil⟩
/-! ### law -/
abbrev d_law : Stmt := topS 39
abbrev N_law : List Str := ["_law_script", "_law_state", "_law_turn", "_law_boxes_here", "_law_worths_here", "_law_moves", "_law_handed", "_law_again", "_law_found", "_law_far_here", "_law_odd", "_law_at", "_law_bad", "_law_k"]
theorem sc_law : FnScope N_law ["_law_script"] (defScope d_law) := ⟨rfl, rfl, rfl, by decide +kernel, rfl, by decide +kernel, by decide +kernel⟩
def t_law (K : PySem.W.Frag) (w : World) (Pt : Addr) (s__law_start : Sp) (s__law_worths : Sp) (s__law_far : Sp) (s__law_drawn : Sp) (s__law_boxes : Sp) (s__law_move : Sp) (s_moved : Sp) (s__law_same : Sp) (s__law_moved : Sp) (s_does : Sp) : TS :=
  (tSeq (tAsg (tCall s__law_start [] E0 (tCons (tVar 0) tNil)) (gName 1))
    (tSeq (tFor (iRng1 (tCons (tC (.int 6)) tNil)) (gName 2) (tSeq (tAsg (tCB vMax2 (tCons (tC (.int 2)) (tCons (tCall s__law_boxes [] E0 (tCons (tVar 1) tNil)) tNil))) (gName 3))
    (tSeq (tAsg (tCall s__law_worths [] E0 (tCons (tVar 1) (tCons (tVar 3) tNil))) (gName 4))
    (tSeq (tAsg (tLc (iRng1 (tCons (tCall s__law_drawn [] E0 (tCons (tVar 1) (tCons (tOp (rIxL K) (tLst (tCons (tC (.int 21)) (tCons (tC (.int 21)) (tCons (tC (.int 21)) (tCons (tC (.int 121)) tNil))))) (tCall s__law_drawn [] E0 (tCons (tVar 1) (tCons (tC (.int 4)) tNil)))) tNil))) tNil)) (gName 13) tYes (tCall s__law_move [] E0 (tCons (tVar 1) (tCons (tVar 3) tNil))) [13]) (gName 5))
    (tSeq (tAsg (tTup (tCons (tCB (vListOf K) (tCons (tVar 4) tNil)) (tCons (tCB (vListOf K) (tCons (tVar 5) tNil)) tNil))) (gName 6))
    (tSeq (tFor (iRng1 (tCons (tC (.int 2)) tNil)) (gName 7) (tSeq (tAsg (tCallS s_moved (WE (fun _ _ _ _ => False)) (tCons (tOp (rIxT K) (tVar 6) (tC (.int 0))) (tCons (tOp (rIxT K) (tVar 6) (tC (.int 1))) tNil))) (gName 8))
    (tSeq (tIfS (tOr (tNot (tB (tCall s__law_same [] E0 (tCons (tVar 8) (tCons (tCall s__law_moved [] E0 (tCons (tVar 4) (tCons (tVar 5) tNil))) tNil))))) (tTest (tOp (rNeD K) (tVar 6) (tTup (tCons (tVar 4) (tCons (tVar 5) tNil)))))) (tRet (tC (.bl false))) tNext)
    (tDrop (tBM0 K "list" rClear (tVar 8))))))
    (tSeq (tAsg (tCall s__law_far [] E0 (tCons (tVar 1) (tCons (tOp vSub (tVar 3) (tC (.int 1))) tNil))) (gName 9))
    (tSeq (tAsg (tLst (tCons (tTup (tCons (tC (.str "copy")) (tCons (tC (.int 0)) (tCons (tC (.int 0)) tNil)))) (tCons (tTup (tCons (tC (.str "swap")) (tCons (tC (.int 1)) (tCons (tC (.int 1)) tNil)))) (tCons (tTup (tCons (tC (.str "move")) (tCons (tC (.int 0)) (tCons (tC (.int 1)) tNil)))) (tCons (tTup (tCons (tC (.str "")) (tCons (tC (.int 0)) (tCons (tC (.int 1)) tNil)))) (tCons (tTup (tCons (tC (.str "copy")) (tCons (tVar 9) (tCons (tC (.int 0)) tNil)))) (tCons (tTup (tCons (tC (.str "copy")) (tCons (tC (.int 0)) (tCons (tVar 9) tNil)))) (tCons (tTup tNil) tNil)))))))) (gName 10))
    (tSeq (tAsg (tOp rCat (tVar 10) (tLst (tCons (tTup (tCons (tC (.str "swap")) (tCons (tVar 9) (tCons (tOp vAdd (tVar 9) (tC (.int 1))) tNil)))) (tCons (tTup (tCons (tC (.str "swap")) (tCons (tC (.int 0)) (tCons (tVar 9) tNil)))) (tCons (tTup (tCons (tC (.str "copy")) (tCons (tC (.int 0)) tNil))) (tCons (tTup (tCons (tC (.str "copy")) (tCons (tC (.int 0)) (tCons (tC (.int 1)) (tCons (tC (.int 0)) tNil))))) (tCons (tTup (tCons (tC (.str "call")) tNil)) (tCons (tTup (tCons (tC (.str "push")) (tCons (tC (.int 0)) tNil))) tNil)))))))) (gName 10))
    (tSeq (tAsg (tCall s__law_drawn [] E0 (tCons (tVar 1) (tCons (tOp vAdd (tCB (vLen K) (tCons (tVar 5) tNil)) (tC (.int 1))) tNil))) (gName 11))
    (tSeq (tAsg (tOp rCat (tOp rCat (tOp rCat (tSl (rSlL K) (tVar 5) tNoPart (tPart (tVar 11))) (tLst (tCons (tOp (rIxL K) (tVar 10) (tCall s__law_drawn [] E0 (tCons (tVar 1) (tCons (tC (.int 13)) tNil)))) tNil))) (tSl (rSlL K) (tVar 5) (tPart (tVar 11)) tNoPart)) (tOp rRep (tLst (tCons (tTup tNil) tNil)) (tCall s__law_drawn [] E0 (tCons (tVar 1) (tCons (tC (.int 2)) tNil))))) (gName 12))
    (tSeq (tIfS (tNot (tB (tCall s__law_same [] E0 (tCons (EX.tLamP Pt EX.qlaw (EX.TKind K) (fun E => (tCallS s_moved (WE (fun cls d _ H => E cls d H)) (tCons (tVar 4) (tCons (tVar 12) tNil))))) (tCons (tTup (tCons (tC (.str "BadMove")) (tCons (tVar 11) tNil))) tNil))))) (tRet (tC (.bl false))) tNext)
    (tIfS (tNot (tB (tCall s__law_same [] E0 (tCons (EX.tLamP Pt EX.qlaw (EX.TKind K) (fun E => (tCallS s_does (WE (fun cls d _ H => E cls d H)) (tCons (tVar 3) (tCons (tLst tNil) (tCons (tLst tNil) (tCons (tVar 12) tNil))))))) (tCons (tTup (tCons (tC (.str "BadMove")) (tCons (tVar 11) tNil))) tNil))))) (tRet (tC (.bl false))) tNext)))))))))))))
    (tRet (tC (.bl true)))))
theorem der_law {k__law_start : Nat} {k__law_worths : Nat} {k__law_far : Nat} {k__law_drawn : Nat} {k__law_boxes : Nat} {k__law_move : Nat} {k_moved : Nat} {k__law_same : Nat} {k__law_moved : Nat} {k_does : Nat} {s__law_start : Sp} {s__law_worths : Sp} {s__law_far : Sp} {s__law_drawn : Sp} {s__law_boxes : Sp} {s__law_move : Sp} {s_moved : Sp} {s__law_same : Sp} {s__law_moved : Sp} {s_does : Sp} {k : Nat} (T : Txt P K mg) {kl : Nat} (l_lam : kl + 2 ≤ k) (c__law_start : C8.Cal P w K mg base k__law_start "_law_start" s__law_start []) (l__law_start : k__law_start ≤ k) (c__law_worths : C8.Cal P w K mg base k__law_worths "_law_worths" s__law_worths []) (l__law_worths : k__law_worths ≤ k) (c__law_far : C8.Cal P w K mg base k__law_far "_law_far" s__law_far []) (l__law_far : k__law_far ≤ k) (c__law_drawn : C8.Cal P w K mg base k__law_drawn "_law_drawn" s__law_drawn []) (l__law_drawn : k__law_drawn ≤ k) (c__law_boxes : C8.Cal P w K mg base k__law_boxes "_law_boxes" s__law_boxes []) (l__law_boxes : k__law_boxes ≤ k) (c__law_move : C8.Cal P w K mg base k__law_move "_law_move" s__law_move []) (l__law_move : k__law_move ≤ k) (c_moved : EX.CalX P w K mg base k_moved "moved" s_moved) (l_moved : k_moved ≤ kl ∧ k_moved ≤ k) (c__law_same : C8.Cal P w K mg base k__law_same "_law_same" s__law_same []) (l__law_same : k__law_same ≤ k) (c__law_moved : C8.Cal P w K mg base k__law_moved "_law_moved" s__law_moved []) (l__law_moved : k__law_moved ≤ k) (c_does : EX.CalX P w K mg base k_does "does" s_does) (l_does : k_does ≤ kl ∧ k_does ≤ k) (KC : EX.KindC K) {f__law_kind : Addr} {fd__law_kind : FuncData} (F__law_kind : Fun K "_law_kind" "_law_kind" d__law_kind f__law_kind fd__law_kind) (b__law_kind : Binds K fd__law_kind ["_law_work"] []) (g__law_kind : mg "_law_kind" = some (.ref f__law_kind))
    (hk__law_kind : ∀ (cls : Value) (d : Option Addr) (H : Hp) (Q : VK), EX.KindE K cls d H Q → ∀ (σ : L2.St) (a : Addr) (D : Ends), σ.length = 5 → H a = none → D.rt = Q → t__law_kind K w a cls d D (σ.set 1 (some (.ref a))) H) {cc Pt : Addr} (TB : LamX.TabB base mg cc Pt) {f : Addr} {A : Around} {outer : List Env} {s : Shared} {H : Hp} {E : XK} (hr : Room k (A.deeper (envOfC "law" (defScope d_law) s.heap.objs.size f (.ref cc)))) :
    PSs (cxOf CX0 P w K mg base N_law "law" (defScope d_law) f (.ref cc) A outer s H E).nox (defBody d_law) (t_law K w Pt s__law_start s__law_worths s__law_far s__law_drawn s__law_boxes s__law_move s_moved s__law_same s__law_moved s_does) :=
  (pss_cons (ps_set (i := 1) sc_law.nd rfl (.inr rfl) (C8.pe_c c__law_start hr (by omega) (by rfl) (pa_cons (pv 0) pa_nil)))
    (pss_cons (ps_for PassesOwn.never rfl (pi_range1 (by rfl) T.m_range (pa_cons pe_int pa_nil)) (pg_name (i := 2) sc_law.nd rfl (.inl rfl)) (pss_cons (ps_set (i := 3) sc_law.nd rfl (.inr rfl) (pe_callB (call_max2 rfl) (by rfl) T.m_max (by decide +kernel) (pa_cons pe_int (pa_cons (C8.pe_c c__law_boxes hr (by omega) (by rfl) (pa_cons (pv 1) pa_nil)) pa_nil))))
    (pss_cons (ps_set (i := 4) sc_law.nd rfl (.inr rfl) (C8.pe_c c__law_worths hr (by omega) (by rfl) (pa_cons (pv 1) (pa_cons (pv 3) pa_nil))))
    (pss_cons (ps_setLc (i := 5) (own := [("_law_k", 13)]) (g := (gName 13)) (tt := tYes) (te := (tCall s__law_move [] E0 (tCons (tVar 1) (tCons (tVar 3) tNil)))) rfl sc_law.nd rfl rfl (sw_true rfl rfl rfl (by decide +kernel)) (pi_range1 (by rfl) T.m_range (pa_cons (C8.pe_c c__law_drawn hr (by omega) (by rfl) (pa_cons (pv 1) (pa_cons (pe_ix ix_list (pe_lst (pa_cons pe_int (pa_cons pe_int (pa_cons pe_int (pa_cons pe_int pa_nil))))) (C8.pe_c c__law_drawn hr (by omega) (by rfl) (pa_cons (pv 1) (pa_cons pe_int pa_nil))) (fun _ _ => rfl)) pa_nil))) pa_nil)) (blkOk_by (N := N_law) (sc := defScope d_law) (by decide +kernel)) (fun _ _ _ _ _ => (pg_name (i := 13) sc_law.nd rfl (.inl rfl))) (fun _ _ _ _ _ => pts_nil) (fun _ _ _ _ _ => (C8.pe_c c__law_move hr (by omega) (by rfl) (pa_cons (pv 1) (pa_cons (pv 3) pa_nil)))))
    (pss_cons (ps_set (i := 6) sc_law.nd rfl (.inl rfl) (pe_tup (pa_cons (pe_callTy call_list_of (by rfl) T.m_list (by decide +kernel) (pa_cons (pv 4) pa_nil)) (pa_cons (pe_callTy call_list_of (by rfl) T.m_list (by decide +kernel) (pa_cons (pv 5) pa_nil)) pa_nil))))
    (pss_cons (ps_for PassesOwn.never rfl (pi_range1 (by rfl) T.m_range (pa_cons pe_int pa_nil)) (pg_name (i := 7) sc_law.nd rfl (.inl rfl)) (pss_cons (ps_set (i := 8) sc_law.nd rfl (.inl rfl) (EX.pe_cx c_moved hr (by omega) (by rfl) takes0 (pa_cons (pe_ix ix_tup (pv 6) pe_int (fun _ _ => rfl)) (pa_cons (pe_ix ix_tup (pv 6) pe_int (fun _ _ => rfl)) pa_nil))))
    (pss_cons (ps_if (PW.pt (pw_or (pt_not (pt_val (C8.pe_c c__law_same hr (by omega) (by rfl) (pa_cons (pv 8) (pa_cons (C8.pe_c c__law_moved hr (by omega) (by rfl) (pa_cons (pv 4) (pa_cons (pv 5) pa_nil))) pa_nil))))) (pw_or1 (pt_cmpR (op_neD hr.units) (pv 6) (pe_tup (pa_cons (pv 4) (pa_cons (pv 5) pa_nil))) (nomark _))))) (pss_one (ps_ret pe_bl)) pss_nil)
    (pss_one (ps_expr (pe_bm0 PySem.F.plainAttrs_list PySem.F.slot_list_clear PySem.F.type_list_clear mt_clear (pv 8)))))))
    (pss_cons (ps_set (i := 9) sc_law.nd rfl (.inl rfl) (C8.pe_c c__law_far hr (by omega) (by rfl) (pa_cons (pv 1) (pa_cons (pe_op op_sub (pv 3) pe_int) pa_nil))))
    (pss_cons (ps_set (i := 10) sc_law.nd rfl (.inl rfl) (pe_lst (pa_cons (pe_tup (pa_cons pe_str (pa_cons pe_int (pa_cons pe_int pa_nil)))) (pa_cons (pe_tup (pa_cons pe_str (pa_cons pe_int (pa_cons pe_int pa_nil)))) (pa_cons (pe_tup (pa_cons pe_str (pa_cons pe_int (pa_cons pe_int pa_nil)))) (pa_cons (pe_tup (pa_cons pe_str (pa_cons pe_int (pa_cons pe_int pa_nil)))) (pa_cons (pe_tup (pa_cons pe_str (pa_cons (pv 9) (pa_cons pe_int pa_nil)))) (pa_cons (pe_tup (pa_cons pe_str (pa_cons pe_int (pa_cons (pv 9) pa_nil)))) (pa_cons (pe_tup pa_nil) pa_nil)))))))))
    (pss_cons (ps_set (i := 10) sc_law.nd rfl (.inl rfl) (pe_op op_cat (pv 10) (pe_lst (pa_cons (pe_tup (pa_cons pe_str (pa_cons (pv 9) (pa_cons (pe_op op_add (pv 9) pe_int) pa_nil)))) (pa_cons (pe_tup (pa_cons pe_str (pa_cons pe_int (pa_cons (pv 9) pa_nil)))) (pa_cons (pe_tup (pa_cons pe_str (pa_cons pe_int pa_nil))) (pa_cons (pe_tup (pa_cons pe_str (pa_cons pe_int (pa_cons pe_int (pa_cons pe_int pa_nil))))) (pa_cons (pe_tup (pa_cons pe_str pa_nil)) (pa_cons (pe_tup (pa_cons pe_str (pa_cons pe_int pa_nil))) pa_nil)))))))))
    (pss_cons (ps_set (i := 11) sc_law.nd rfl (.inl rfl) (C8.pe_c c__law_drawn hr (by omega) (by rfl) (pa_cons (pv 1) (pa_cons (pe_op op_add (pe_callB call_len_seq (by rfl) T.m_len PySem.boot_len (pa_cons (pv 5) pa_nil)) pe_int) pa_nil))))
    (pss_cons (ps_set (i := 12) sc_law.nd rfl (.inr rfl) (pe_op op_cat (pe_op op_cat (pe_op op_cat (pe_slice sl_list (pv 5) po_none (po_some (pv 11))) (pe_lst (pa_cons (pe_ix ix_list (pv 10) (C8.pe_c c__law_drawn hr (by omega) (by rfl) (pa_cons (pv 1) (pa_cons pe_int pa_nil))) (fun _ _ => rfl)) pa_nil))) (pe_slice sl_list (pv 5) (po_some (pv 11)) po_none)) (pe_op op_rep (pe_lst (pa_cons (pe_tup pa_nil) pa_nil)) (C8.pe_c c__law_drawn hr (by omega) (by rfl) (pa_cons (pv 1) (pa_cons pe_int pa_nil))))))
    (pss_cons (ps_if (pt_not (pt_val (C8.pe_c c__law_same hr (by omega) (by rfl) (pa_cons (EX.pe_kindP F__law_kind b__law_kind F__law_kind.kp g__law_kind sc__law_kind rfl (by first | exact .inl rfl | exact .inr (.inl rfl)) (fun cdg => der__law_kind T KC hk__law_kind) (by rfl) TB rfl rfl (hr.mono l_lam) (LamX.lamS_by (sc := defScope d_law) (by decide +kernel)) rfl (fun _ _ _ _ _ => rfl) (fun A outer s H E f c2 hr => (EX.pe_cx c_moved hr (by omega) (by rfl) (takes_of rfl rfl rfl rfl) (pa_cons (pv 4) (pa_cons (pv 12) pa_nil))))) (pa_cons (pe_tup (pa_cons pe_str (pa_cons (pv 11) pa_nil))) pa_nil))))) (pss_one (ps_ret pe_bl)) pss_nil)
    (pss_one (ps_if (pt_not (pt_val (C8.pe_c c__law_same hr (by omega) (by rfl) (pa_cons (EX.pe_kindP F__law_kind b__law_kind F__law_kind.kp g__law_kind sc__law_kind rfl (by first | exact .inl rfl | exact .inr (.inl rfl)) (fun cdg => der__law_kind T KC hk__law_kind) (by rfl) TB rfl rfl (hr.mono l_lam) (LamX.lamS_by (sc := defScope d_law) (by decide +kernel)) rfl (fun _ _ _ _ _ => rfl) (fun A outer s H E f c2 hr => (EX.pe_cx c_does hr (by omega) (by rfl) (takes_of rfl rfl rfl rfl) (pa_cons (pv 3) (pa_cons (pe_lst pa_nil) (pa_cons (pe_lst pa_nil) (pa_cons (pv 12) pa_nil))))))) (pa_cons (pe_tup (pa_cons pe_str (pa_cons (pv 11) pa_nil))) pa_nil))))) (pss_one (ps_ret pe_bl)) pss_nil))))))))))))))
    (pss_one (ps_ret pe_bl))))
theorem fn_law {k__law_start : Nat} {k__law_worths : Nat} {k__law_far : Nat} {k__law_drawn : Nat} {k__law_boxes : Nat} {k__law_move : Nat} {k_moved : Nat} {k__law_same : Nat} {k__law_moved : Nat} {k_does : Nat} {s__law_start : Sp} {s__law_worths : Sp} {s__law_far : Sp} {s__law_drawn : Sp} {s__law_boxes : Sp} {s__law_move : Sp} {s_moved : Sp} {s__law_same : Sp} {s__law_moved : Sp} {s_does : Sp} {k : Nat} {sp : Sp} (T : Txt P K mg) {kl : Nat} (l_lam : kl + 2 ≤ k) (c__law_start : C8.Cal P w K mg base k__law_start "_law_start" s__law_start []) (l__law_start : k__law_start ≤ k) (c__law_worths : C8.Cal P w K mg base k__law_worths "_law_worths" s__law_worths []) (l__law_worths : k__law_worths ≤ k) (c__law_far : C8.Cal P w K mg base k__law_far "_law_far" s__law_far []) (l__law_far : k__law_far ≤ k) (c__law_drawn : C8.Cal P w K mg base k__law_drawn "_law_drawn" s__law_drawn []) (l__law_drawn : k__law_drawn ≤ k) (c__law_boxes : C8.Cal P w K mg base k__law_boxes "_law_boxes" s__law_boxes []) (l__law_boxes : k__law_boxes ≤ k) (c__law_move : C8.Cal P w K mg base k__law_move "_law_move" s__law_move []) (l__law_move : k__law_move ≤ k) (c_moved : EX.CalX P w K mg base k_moved "moved" s_moved) (l_moved : k_moved ≤ kl ∧ k_moved ≤ k) (c__law_same : C8.Cal P w K mg base k__law_same "_law_same" s__law_same []) (l__law_same : k__law_same ≤ k) (c__law_moved : C8.Cal P w K mg base k__law_moved "_law_moved" s__law_moved []) (l__law_moved : k__law_moved ≤ k) (c_does : EX.CalX P w K mg base k_does "does" s_does) (l_does : k_does ≤ kl ∧ k_does ≤ k) (KC : EX.KindC K) {f__law_kind : Addr} {fd__law_kind : FuncData} (F__law_kind : Fun K "_law_kind" "_law_kind" d__law_kind f__law_kind fd__law_kind) (b__law_kind : Binds K fd__law_kind ["_law_work"] []) (g__law_kind : mg "_law_kind" = some (.ref f__law_kind))
    (hk__law_kind : ∀ (cls : Value) (d : Option Addr) (H : Hp) (Q : VK), EX.KindE K cls d H Q → ∀ (σ : L2.St) (a : Addr) (D : Ends), σ.length = 5 → H a = none → D.rt = Q → t__law_kind K w a cls d D (σ.set 1 (some (.ref a))) H) {cc Pt : Addr} (TB : LamX.TabB base mg cc Pt) {f : Addr} {oc kV doc pm ct : Value} {od an : Option Addr} {osl : Array (Option Value)} (lk : K.lookup f = some ⟨oc, od, .func (PySem.W.fnOf "law" "law" (defArgs d_law) (defBody d_law) (defScope d_law) .none kV doc pm an (.ref cc) ct), osl⟩) (hcd : PySem.W.codeIn K (.ref cc) "law" = true) (len : ∀ vs H Q E, sp vs H Q E → vs.length = 1)
    (h : ∀ vs H Q E, sp vs H Q E → t_law K w Pt s__law_start s__law_worths s__law_far s__law_drawn s__law_boxes s__law_move s_moved s__law_same s__law_moved s_does { nx := fun _ H1 => Q .non H1, rt := Q } (start N_law vs) H) :
    FnOk P w K mg base CX0 (k + 1) f (PySem.W.fnOf "law" "law" (defArgs d_law) (defBody d_law) (defScope d_law) .none kV doc pm an (.ref cc) ct) ["_law_script"] sp :=
  EX.okC lk hcd sc_law len (fun A outer s H vs Q E hr q => ⟨_, der_law T l_lam c__law_start l__law_start c__law_worths l__law_worths c__law_far l__law_far c__law_drawn l__law_drawn c__law_boxes l__law_boxes c__law_move l__law_move c_moved l_moved c__law_same l__law_same c__law_moved l__law_moved c_does l_does KC F__law_kind b__law_kind g__law_kind hk__law_kind TB hr, h vs H Q E q⟩)
end
end K03
namespace K03
open PySem PySem.Spec PyProof.Rows L2 MV CX
local macro_rules | `(tactic| walk_at "go") => `(tactic| repeat (first
  | with_reducible refine MV.k_seq ?_ | with_reducible refine MV.k_asg ?_ | with_reducible refine MV.k_name ?_ | with_reducible refine MV.k_op ?_ | ((with_reducible apply MV.k_var); exact rfl) | with_reducible refine MV.k_c ?_
  | with_reducible refine MV.k_add ?_ | with_reducible refine MV.k_sub ?_ | with_reducible refine MV.k_lt ?_ | with_reducible refine MV.k_le ?_ | with_reducible refine MV.k_gt ?_ | with_reducible refine MV.k_ge ?_ | with_reducible refine MV.k_eqI ?_ | with_reducible refine MV.k_neI ?_
  | with_reducible refine MV.k_test ?_ | with_reducible refine MV.k_B ?_ | with_reducible refine MV.k_bl ?_ | with_reducible refine MV.k_blV ?_ | with_reducible refine MV.k_and ?_ | with_reducible refine MV.k_or ?_ | with_reducible refine MV.k_not ?_ | with_reducible refine MV.k_andV ?_ | with_reducible refine MV.k_orV ?_ | with_reducible refine MV.k_notV ?_
  | with_reducible refine MV.k_if ?_ | with_reducible refine MV.k_tru ?_ | with_reducible refine MV.k_chain ?_ | with_reducible refine MV.k_next ?_ | with_reducible refine MV.k_drop ?_ | with_reducible refine MV.k_ret ?_ | with_reducible refine MV.k_retN ?_ | with_reducible refine MV.k_ifS ?_ | with_reducible refine MV.k_brk ?_ | with_reducible refine MV.k_cont ?_
  | with_reducible refine MV.k_nil ?_ | with_reducible refine MV.k_cons ?_ | with_reducible refine MV.k_tup ?_ | with_reducible refine MV.k_lst ?_ | with_reducible refine MV.k_cb ?_ | with_reducible refine MV.k_call ?_ | with_reducible refine MV.k_gnil ?_ | with_reducible refine MV.k_gcons ?_ | with_reducible refine MV.k_gsub ?_
  | with_reducible refine MV.k_bm ?_ | with_reducible refine MV.k_bm0 ?_ | with_reducible refine MV.k_un ?_ | with_reducible refine MV.k_neg ?_ | with_reducible refine MV.k_isN ?_ | with_reducible refine MV.k_notN ?_ | with_reducible refine L2.iteT ?_ | with_reducible refine L2.iteF ?_
  | with_reducible refine MV.k_iList ?_ | with_reducible refine MV.k_iTup ?_ | with_reducible refine MV.k_iRng1 ?_ | with_reducible refine MV.k_lc ?_ | with_reducible refine MV.k_for ?_
  | with_reducible refine MV.k_yes ?_ | with_reducible refine MV.k_dput ?_ | with_reducible refine MV.k_dget ?_ | with_reducible refine MV.k_dget1 ?_ | with_reducible refine MV.k_sl ?_ | with_reducible refine MV.k_nopart ?_ | with_reducible refine MV.k_part ?_ | with_reducible refine MV.k_pint ?_ | with_reducible refine MV.k_dnew ?_ | with_reducible refine MV.k_lstRg ?_ | with_reducible refine MV.k_rg1 ?_
  | with_reducible refine CX.k_callS ?_ | with_reducible refine CX.k_iEnum ?_))
section
variable {K : PySem.W.Frag} {w : World} {H : Hp}
def spLaw (K : PySem.W.Frag) (Pt : Addr) : Sp := fun vs H Q _ => ∃ (a : Addr) (ns : List Int), vs = [.ref a] ∧ SqL K H a (ns.map V.int) ∧ ns.length ≤ 63 ∧ H Pt = some (.tbl #[]) ∧ ∀ H', Q (.bl true) H'
/-! ### the table of the law's lambdas -/
structure Tb (Pt : Addr) (G H : Hp) : Prop where
  g : G Pt = none
  t : LamX.TabS H Pt EX.qlaw
theorem Tb.ext {M : List Addr} {Pt c a : Addr} {G H G1 H1 : Hp} (b : Tb Pt G H) (e : Ext M G H G1 H1) (st : Stt c a H) (hM : ∀ m, m ∈ M → m = a) : Tb Pt G1 H1 := by
  obtain ⟨i, m, r, ha, _⟩ := st
  obtain ⟨ps, h1, h2, h3⟩ := b.t
  have nPa : Pt ≠ a := fun z => by rw [z, ha] at h1; cases h1
  have k1 : H1 Pt = some (.tbl ps) := e.keep h1 fun z => nPa (hM _ z)
  refine ⟨e.un b.g h1, ps, k1, h2, fun pos cv hc => ?_⟩
  obtain ⟨cc, e1, e2⟩ := h3 pos cv hc
  refine ⟨cc, e1, e.keep e2 fun z => ?_⟩
  rw [hM _ z, ha] at e2
  exact absurd (Option.some.inj e2) (fun z => by unfold LamX.CodeO at z; cases z)
theorem Ext.lam {M : List Addr} {Pt : Addr} {G H H1 : Hp} (s : Same G H) (m : Pt ∈ M) (b : Tb Pt G H) (but : EX.ButP Pt H H1) (t1 : LamX.TabS H1 Pt EX.qlaw) : Ext M G H G H1 ∧ Tb Pt G H1 :=
  ⟨⟨Same.refl _, fun x o e => but.st x o (fun z => by rw [z, b.g] at e; cases e) (s x o e), fun x o nm e => but.st x o (fun z => nm (by rw [z]; exact m)) e, but.no, fun x => .inl rfl⟩, b.g, t1⟩
theorem Dr.lam {Pt c a : Addr} {ns : List Int} {G H H1 : Hp} (d : Dr K c a ns G H) (b : Tb Pt G H) (but : EX.ButP Pt H H1) (s : Same G H1) : Dr K c a ns G H1 := by
  obtain ⟨i, m, r, ha, z⟩ := d.st
  obtain ⟨ps, h1, _⟩ := b.t
  exact ⟨s, d.g, ⟨i, m, r, but.st a _ (fun z => by rw [z, h1] at ha; cases ha) ha, z⟩, d.sc⟩
/-! ### data of moves -/
def pdV : V → PyData
  | .str u => .str u
  | .int i => .int i
  | _ => .none
def pdM (m : List V) : PyData := .tuple (m.map pdV)
theorem ok2 {u : Str} (h : u = "copy" ∨ u = "swap") (i j : Int) : (pdM [.str u, .int i, .int j]).canLay0 = true := by
  have e : PyData.strOk u = true := by rcases h with rfl | rfl <;> decide +kernel
  show (PyData.strOk u && (true && (true && true))) = true
  rw [e]
  rfl
theorem dp_mv {n : Int} {m : List V} {t : Addr} (h : canBe n m = true) (ht : SqT K H t m) : Dp K H (.ref t) (pdM m) ∧ (pdM m).canLay0 = true ∧ (pdM m).depth ≤ 1 := by
  obtain ⟨u, i, j, rfl, hu, _⟩ := canBe_in h
  exact ⟨.tup ht (.cons (.str u) (.cons (.int i) (.cons (.int j) .nil))), ok2 hu i j, Nat.le_refl _⟩
theorem dp_mvs {n : Int} : ∀ {ts : List Addr} {ms : List (List V)}, TsAt K H ts ms → (∀ m, m ∈ ms → canBe n m = true) → DpAll K H (ts.map V.ref) (ms.map pdM)
  | _, _, .nil, _ => .nil
  | _, _, .cons p r, h => .cons (dp_mv (h _ (List.mem_cons_self ..)) p).1 (dp_mvs r fun m hm => h m (List.mem_cons_of_mem _ hm))
theorem lay_mvs {n : Int} : ∀ {ms : List (List V)}, (∀ m, m ∈ ms → canBe n m = true) → PyData.canLayAll0 (ms.map pdM) = true ∧ PyData.depthAll (ms.map pdM) ≤ 1
  | [], _ => ⟨rfl, Nat.zero_le _⟩
  | m :: r, h => by
    obtain ⟨a, b⟩ := lay_mvs (ms := r) fun m hm => h m (List.mem_cons_of_mem _ hm)
    obtain ⟨u, i, j, e, hu, _⟩ := canBe_in (h m (List.mem_cons_self ..))
    subst e
    refine ⟨?_, Nat.max_le.mpr ⟨Nat.le_refl _, b⟩⟩
    show (PyData.canLay0 (pdM [.str u, .int i, .int j]) && PyData.canLayAll0 (r.map pdM)) = true
    rw [a, ok2 hu]
    rfl
def pdHand (ws : List Int) (ms : List (List V)) : PyData := .tuple [.list (ws.map .int), .list (ms.map pdM)]
theorem hand_shaped {n : Int} {ws : List Int} {ms : List (List V)} (h : ∀ m, m ∈ ms → canBe n m = true) : SeqAt.shaped (pdHand ws ms) = true ∧ (pdHand ws ms).canLay0 = true := by
  obtain ⟨a, b⟩ := lay_mvs h
  have l0 : (pdHand ws ms).canLay0 = true := by
    show (PyData.canLayAll0 (ws.map PyData.int) && (PyData.canLayAll0 (ms.map pdM) && true)) = true
    rw [lay_ints, a]; rfl
  have d0 : (pdHand ws ms).depth ≤ 64 := by
    show PyData.depthAll [.list (ws.map .int), .list (ms.map pdM)] + 1 ≤ 64
    have : PyData.depthAll [.list (ws.map .int), .list (ms.map pdM)] ≤ 2 := depthAll_le fun d hd => by
      rcases List.mem_cons.mp hd with rfl | hd
      · show PyData.depthAll (ws.map PyData.int) + 1 ≤ 2
        rw [depth_ints]; decide
      · rw [List.mem_singleton.mp hd]
        show PyData.depthAll (ms.map pdM) + 1 ≤ 2
        omega
    omega
  refine ⟨?_, l0⟩
  unfold SeqAt.shaped
  rw [l0, decide_eq_true d0]; rfl
theorem cut_take {xs : List V} {k : Int} (h0 : 0 ≤ k) (h1 : k ≤ xs.length) : cutV xs none (some k) = xs.take k.toNat := by
  have e1 : HT.sIx xs.length 0 none = 0 := rfl
  have e2 : HT.sIx xs.length xs.length (some k) = k.toNat := by
    unfold HT.sIx
    first
      | (simp only []; split <;> omega)
      | (split <;> omega)
      | (simp; omega)
      | omega
  unfold cutV
  rw [e1, e2, List.drop_zero, Nat.sub_zero]
theorem cut_drop {xs : List V} {k : Int} (h0 : 0 ≤ k) (h1 : k ≤ xs.length) : cutV xs (some k) none = xs.drop k.toNat := by
  have e1 : HT.sIx xs.length xs.length none = xs.length := rfl
  have e2 : HT.sIx xs.length 0 (some k) = k.toNat := by
    unfold HT.sIx
    first
      | (simp only []; split <;> omega)
      | (split <;> omega)
      | (simp; omega)
      | omega
  unfold cutV
  rw [e1, e2, List.take_of_length_le (by rw [List.length_drop]; omega)]
theorem push {c a Pt p : Addr} {ns : List Int} {G H : Hp} (d : Dr K c a ns G H) (b : Tb Pt G H) (o : HO) (n : H p = none) : ∃ G1 H1, G1 = upd G p o ∧ H1 = upd H p o ∧ Ext [] G H G1 H1 ∧ Dr K c a ns G1 H1 ∧ Tb Pt G1 H1 ∧ G1 p = some o :=
  ⟨_, _, rfl, rfl, (Ext.refl d.s).new n, d.new n, b.ext ((Ext.refl (M := []) d.s).new n) d.st (fun m h => nomatch h), upd_same⟩
theorem same_ext {M : List Addr} {G H H1 : Hp} (s : Same G H) (k : Same H H1) : Ext M G H G H1 := by
  refine ⟨Same.refl _, s.trans k, fun b o _ e => k b o e, fun b e => ?_, fun b => .inl rfl⟩
  cases z : H b with
  | none => rfl
  | some o => rw [k b o z] at e; cases e
theorem TBad {k : Nat} {dd c a Pt : Addr} {ns : List Int} {G H0 G1 H1 H2 : Hp} {R : VK} (e1 : Ext [Pt] G H0 G1 H1) (d1 : Dr K c a ns G1 H1) (b1 : Tb Pt G1 H1) (e2 : Ext [] G1 H1 G1 H2) (ndd : H2 dd = none)
    (q : ∀ p H3, Ext [Pt] G H0 G1 H3 → Tb Pt G1 H3 → Dr K c a ns G1 H3 → H3 p = some (.tup [.str "BadMove", .int (k : Nat)]) → R (.ref p) H3) : EX.KindE K (.ref (He.ga K "BadMove")) (some dd) (upd H2 dd (.xd [("number", .int (k : Nat))])) R := by
  refine ⟨"BadMove", by decide, rfl, .inr ⟨"number", dd, (k : Nat), .inl ⟨rfl, rfl⟩, rfl, upd_same, fun H3 p s3 hp => ?_⟩⟩
  have b2 := b1.ext e2 d1.st (fun m h => nomatch h)
  have d2 := d1.pure e2 (by simp)
  have e3 := (Ext.refl (M := []) d2.s).tmp (o := .xd [("number", .int (k : Nat))]) ndd
  have b3 := b2.ext e3 d2.st (fun m h => nomatch h)
  have d3 := d2.tmp (o := .xd [("number", .int (k : Nat))]) ndd
  have e4 := same_ext (M := []) d3.s s3
  exact q p H3 (((e1.trans e2.to).trans e3.to).trans e4.to) (b3.ext e4 d3.st (fun m h => nomatch h)) (d3.pure e4 (by simp)) hp
theorem moved_told {k : Nat} {m : List V} {wl bd c a Pt : Addr} {ws : List Int} {ms : List (List V)} {ns : List Int} {G : Hp} {R : VK} {s0 s1 s2 s3 s5 s6 s7 s8 s9 s10 s11 s13 : Option V} (d : Dr K c a ns G H) (b : Tb Pt G H) (hw : SqL K G wl (ws.map V.int)) (w1 : 1 ≤ ws.length) (w10 : ws.length ≤ 10)
    (ma : MsAt K G bd ms) (wf : ∀ m, m ∈ ms → Wf m) (lm : ms.length ≤ 1000) (ek : ms[k]? = some m) (ck : canBe (ws.length : Nat) m = false) (hk : ∀ i m', i < k → ms[i]? = some m' → canBe (ws.length : Nat) m' = true)
    (q : ∀ p H3, Ext [Pt] G H G H3 → Tb Pt G H3 → Dr K c a ns G H3 → H3 p = some (.tup [.str "BadMove", .int (k : Nat)]) → R (.ref p) H3) :
    EX.tLamP Pt EX.qlaw (EX.TKind K) (fun E => (tCallS (spMoved K) (WE (fun cls d _ H => E cls d H)) (tCons (tVar 4) (tCons (tVar 12) tNil)))) [s0, s1, s2, s3, some (.ref wl), s5, s6, s7, s8, s9, s10, s11, some (.ref bd), s13] H R := by
  refine ⟨b.t, fun H1 but t1 => ?_⟩
  obtain ⟨e1, b1⟩ := Ext.lam (M := [Pt]) d.s (by simp) b but t1
  have d1 := Dr.lam d b but e1.s
  unfold EX.TKind
  dsimp only
  walk_at "go"
  exact ⟨G, wl, ws, bd, ms, rfl, d1.s, hw, w1, w10, ma, wf, lm, .inr ⟨k, m, ek, ck, hk, fun H2 dd e2 ndd => TBad e1 d1 b1 e2 ndd q⟩⟩
theorem does_told {k n : Nat} {m : List V} {bd c a Pt : Addr} {ms : List (List V)} {ns : List Int} {G : Hp} {R : VK} {s0 s1 s2 s4 s5 s6 s7 s8 s9 s10 s11 s13 : Option V} (d : Dr K c a ns G H) (b : Tb Pt G H) (n1 : 1 ≤ n) (n10 : n ≤ 10)
    (ma : MsAt K G bd ms) (wf : ∀ m, m ∈ ms → Wf m) (lm : ms.length ≤ 1000) (ek : ms[k]? = some m) (ck : canBe (n : Nat) m = false) (hk : ∀ i m', i < k → ms[i]? = some m' → canBe (n : Nat) m' = true)
    (q : ∀ p G1 H3, Ext [Pt] G H G1 H3 → Tb Pt G1 H3 → Dr K c a ns G1 H3 → H3 p = some (.tup [.str "BadMove", .int (k : Nat)]) → R (.ref p) H3) :
    EX.tLamP Pt EX.qlaw (EX.TKind K) (fun E => (tCallS (spDoes0 K) (WE (fun cls d _ H => E cls d H)) (tCons (tVar 3) (tCons (tLst tNil) (tCons (tLst tNil) (tCons (tVar 12) tNil)))))) [s0, s1, s2, some (.int (n : Nat)), s4, s5, s6, s7, s8, s9, s10, s11, some (.ref bd), s13] H R := by
  refine ⟨b.t, fun H1 but t1 => ?_⟩
  obtain ⟨e1, b1⟩ := Ext.lam (M := [Pt]) d.s (by simp) b but t1
  have d1 := Dr.lam d b but e1.s
  unfold EX.TKind
  dsimp only
  walk_at "go"
  refine ⟨sz1 (Nat.zero_le _), fun le nle => ?_⟩
  obtain ⟨G2, H2, -, eH, e2, d2, b2, g2⟩ := push d1 b1 (.lst []) nle
  rw [← eH]
  walk_at "go"
  refine ⟨sz1 (Nat.zero_le _), fun sp nsp => ?_⟩
  obtain ⟨G3, H3, -, eH, e3, d3, b3, g3⟩ := push d2 b2 (.lst []) nsp
  rw [← eH]
  walk_at "go"
  have ma3 := ma.mono (e2.g.trans e3.g)
  refine ⟨G3, n, le, sp, bd, ms, rfl, d3.s, n1, n10, ⟨[], SqL.of (e3.g _ _ g2), .nil⟩, SqL.of g3, ma3, wf, lm, k, m, ek, ck, hk, fun G4 H4 dd e4 ndd => ?_⟩
  have d4 := d3.pure e4 (by simp)
  have b4 := b3.ext e4 d3.st (fun m h => nomatch h)
  exact TBad (((e1.trans e2.to).trans e3.to).trans e4.to) d4 b4 (Ext.refl d4.s) ndd fun p H5 e5 b5 d5 hp => q p G4 H5 e5 b5 d5 hp
theorem pure_law (Pt : Addr) (vs : List V) (Q : VK) (E : XK) (h : spLaw K Pt vs H Q E) : t_law K w Pt (spStart K) (spLawWorths K) (spFar K) (spDrawn K) (spBoxes K) (spLawMove K) (spMoved K) (spSame K 4) (spLawMoved K) (spDoes0 K) { nx := fun _ H1 => Q .non H1, rt := Q } (start N_law vs) H := by
  obtain ⟨c, ns, rfl, hx, h63, hP, q⟩ := h
  unfold t_law
  walk_at "go"
  refine ⟨c, ns, rfl, ⟨hx, h63⟩, fun a H1 na sa ka st => ?_⟩
  have nPa : Pt ≠ a := fun z => by rw [z, na] at hP; cases hP
  have hx0 : SqL K (fun b => if b = Pt then none else H b) c (ns.map V.int) := by
    rcases hx with (h | ⟨o, h⟩) | h
    · have n : c ≠ Pt := fun z => by rw [z, hP] at h; cases h
      exact .inl (.inl (by show (if c = Pt then none else H c) = _; rw [if_neg n]; exact h))
    · have n : c ≠ Pt := fun z => by rw [z, hP] at h; cases h
      exact .inl (.inr ⟨o, by show (if c = Pt then none else H c) = _; rw [if_neg n]; exact h⟩)
    · exact .inr h
  have s0 : Same (fun b => if b = Pt then none else H b) H1 := fun b o e => by
    have e' : (if b = Pt then none else H b) = some o := e
    by_cases z : b = Pt
    · rw [if_pos z] at e'; cases e'
    · rw [if_neg z] at e'; exact sa b o e'
  have d0 : Dr K c a ns (fun b => if b = Pt then none else H b) H1 := ⟨s0, by show (if a = Pt then none else H a) = none; rw [if_neg nPa.symm]; exact na, st, ⟨hx0, h63⟩⟩
  have b0 : Tb Pt (fun b => if b = Pt then none else H b) H1 := ⟨if_pos rfl, LamX.TabS.nil (sa _ _ hP)⟩
  generalize (fun b => if b = Pt then none else H b) = G0 at *
  walk_at "go"
  refine ⟨_, rfl, by decide, by decide, ?_⟩
  refine forR (M := [a, Pt]) d0.s (fun i σ1 G2 H2 => (∃ x2 x3 x4 x5 x6 x7 x8 x9 x10 x11 x12 x13, σ1 = [some (.ref c), some (.ref a), x2, x3, x4, x5, x6, x7, x8, x9, x10, x11, x12, x13]) ∧ Dr K c a ns G2 H2 ∧ Tb Pt G2 H2)
    ⟨⟨none, none, none, none, none, none, none, none, none, none, none, none, rfl⟩, d0, b0⟩ (fun i σ1 G2 H2 hi e2 ⟨⟨x2, x3, x4, x5, x6, x7, x8, x9, x10, x11, x12, x13, es⟩, d2, b2⟩ => ?_) (fun σ1 G2 H2 e2 ⟨⟨x2, x3, x4, x5, x6, x7, x8, x9, x10, x11, x12, x13, es⟩, d2, b2⟩ => ?_)
  · subst es
    walk_at "go"
    refine ⟨c, a, ns, G2, rfl, d2, fun n0 G3 H3 e3 d3 m1 m10 => ?_⟩
    have b3 := b2.ext e3 d2.st (fun m h => List.mem_singleton.mp h)
    walk_at "go"
    refine ⟨2, n0, rfl, ?_⟩
    have hn : 2 ≤ (if n0 > 2 then n0 else 2) ∧ (if n0 > 2 then n0 else 2) ≤ 10 := by split <;> omega
    generalize (if n0 > 2 then n0 else 2) = n at *
    obtain ⟨n2, n10⟩ := hn
    walk_at "go"
    refine ⟨c, a, ns, G3, n, rfl, d3, by omega, n10, fun wl ws G4 H4 e4 d4 nwl lw gw => ?_⟩
    have b4 := b3.ext e4 d3.st (fun m h => List.mem_singleton.mp h)
    repeat (first | with_reducible refine MV.k_seq ?_ | with_reducible refine MV.k_asg ?_ | with_reducible refine MV.k_name ?_)
    refine moves_drawn d4 n2 n10 fun ml ts ms G5 H5 e5 d5 nml gml ta lms cb => ?_
    have b5 := b4.ext e5 d4.st (fun m h => List.mem_singleton.mp h)
    have gw5 := e5.g _ _ gw
    have E5 : Ext [a] G2 H2 G5 H5 := (e3.trans e4).trans e5
    walk_at "go"
    refine ⟨wl, _, rfl, .inl (SqL.of (d5.s _ _ gw5)), fun h1 nh1 => ?_⟩
    have e6 := (Ext.refl (M := []) d5.s).new (o := .lst (ws.map V.int)) nh1
    have d6 := d5.new (o := .lst (ws.map V.int)) nh1
    have b6 := b5.ext e6 d5.st (fun m h => nomatch h)
    have g6 : (upd G5 h1 (.lst (ws.map V.int))) h1 = some (.lst (ws.map V.int)) := upd_same
    generalize upd G5 h1 (.lst (ws.map V.int)) = G6 at *
    generalize upd H5 h1 (.lst (ws.map V.int)) = H6 at *
    walk_at "go"
    refine ⟨ml, _, rfl, .inl (SqL.of (d6.s _ _ (e6.g _ _ gml))), fun h2 nh2 => ?_⟩
    have e7 := (Ext.refl (M := []) d6.s).new (o := .lst (ts.map V.ref)) nh2
    have d7 := d6.new (o := .lst (ts.map V.ref)) nh2
    have b7 := b6.ext e7 d6.st (fun m h => nomatch h)
    have g7 : (upd G6 h2 (.lst (ts.map V.ref))) h2 = some (.lst (ts.map V.ref)) := upd_same
    generalize upd G6 h2 (.lst (ts.map V.ref)) = G7 at *
    generalize upd H6 h2 (.lst (ts.map V.ref)) = H7 at *
    walk_at "go"
    refine ⟨sz1 (by show 2 ≤ 100000; decide), fun hd nhd => ?_⟩
    have e8 := (Ext.refl (M := []) d7.s).new (o := .tup [.ref h1, .ref h2]) nhd
    have d8 := d7.new (o := .tup [.ref h1, .ref h2]) nhd
    have b8 := b7.ext e8 d7.st (fun m h => nomatch h)
    have g8 : (upd G7 hd (.tup [.ref h1, .ref h2])) hd = some (.tup [.ref h1, .ref h2]) := upd_same
    generalize upd G7 hd (.tup [.ref h1, .ref h2]) = G8 at *
    generalize upd H7 hd (.tup [.ref h1, .ref h2]) = H8 at *
    have E58 : Ext [] G5 H5 G8 H8 := (e6.trans e7).trans e8
    have E8 : Ext [a] G2 H2 G8 H8 := E5.trans E58.to
    have gh1 : G8 h1 = some (.lst (ws.map V.int)) := e8.g _ _ (e7.g _ _ g6)
    have gh2 : G8 h2 = some (.lst (ts.map V.ref)) := e8.g _ _ g7
    have gw8 := E58.g _ _ gw5
    have gm8 := E58.g _ _ gml
    have ta8 : TsAt K G8 ts ms := ta.mono E58.g
    have lw' : ws.length = n := lw
    have wfs : ∀ m, m ∈ ms → Wf m := fun m hm => by
      obtain ⟨u, i, j, e, _⟩ := canBe_in (cb m hm)
      exact .inr ⟨u, i, j, e⟩
    have cbl : ∀ m, m ∈ ms → canBe ((ws.length : Nat) : Int) m = true := fun m hm => by rw [lw']; exact cb m hm
    have w1 : 1 ≤ ws.length := by omega
    have w10 : ws.length ≤ 10 := by omega
    walk_at "go"
    refine ⟨_, rfl, by decide, by decide, ?_⟩
    refine forR (M := []) d8.s (fun j σ1 G9 H9 => G9 = G8 ∧ ∃ x7 x8 x9 x10 x11 x12 x13, σ1 = [some (.ref c), some (.ref a), some (.int (0 + (i : Int))), some (.int n), some (.ref wl), some (.ref ml), some (.ref hd), x7, x8, x9, x10, x11, x12, x13])
      ⟨rfl, x7, x8, x9, x10, x11, x12, x13, rfl⟩ (fun j σ1 G9 H9 hj e9 ⟨eG, y7, y8, y9, y10, y11, y12, y13, es⟩ => ?_) (fun σ1 G9 H9 e9 ⟨eG, y7, y8, y9, y10, y11, y12, y13, es⟩ => ?_)
    · subst es eG
      walk_at "go"
      refine k_ixT (SqT.of (e9.s _ _ g8)) rfl ?_
      walk_at "go"
      refine k_ixT (SqT.of (e9.s _ _ g8)) rfl ?_
      walk_at "go"
      refine ⟨G9, h1, ws, h2, ms, rfl, e9.s, SqL.of gh1, w1, w10, ta8.ms (SqL.of gh2), wfs, by omega, .inl ⟨cbl, fun p G10 H10 e10 np gp10 => ?_⟩⟩
      walk_at "go"
      refine ⟨G10, wl, ws, ml, ms, rfl, e10.s, SqL.of (e10.g _ _ gw8), w10, (ta8.mono e10.g).ms (SqL.of (e10.g _ _ gm8)), cbl, fun p2 G11 H11 e11 np2 gp11 => ?_⟩
      have sm : small (.list ((ms.foldl mvI ws).map .int)) = true := by
        show (decide (((ms.foldl mvI ws).map PyData.int).length ≤ 1000) && smallAll _) = true
        rw [decide_eq_true (by rw [List.length_map, mvs_len]; omega), smallAll_of fun d hd => by obtain ⟨x, _, rfl⟩ := List.mem_map.mp hd; rfl]; rfl
      have dep : (PyData.list ((ms.foldl mvI ws).map .int)).depth < 4 := by
        show PyData.depthAll _ + 1 < 4
        rw [depth_ints]; decide
      walk_at "go"
      refine ⟨G11, .list ((ms.foldl mvI ws).map .int), .ref p, .ref p2, rfl, e11.s, .lst (SqL.of (e11.g _ _ gp10)) (dpAll_ints _), .lst (SqL.of gp11) (dpAll_ints _), sm, dep, fun H12 e12 => ?_⟩
      walk_at "go"
      refine iteF ?_
      walk_at "go"
      refine ⟨sz1 (by show 2 ≤ 100000; decide), fun t nt => ?_⟩
      have E12 : Ext [] G9 H9 G11 H12 := (e10.trans e11).trans e12
      have E13 := E12.tmp (o := .tup [.ref wl, .ref ml]) nt
      have hs := hand_shaped (ws := ws) cb
      have dw : ∀ {G : Hp} {l : Addr}, G l = some (.lst (ws.map V.int)) → Dp K G (.ref l) (.list (ws.map .int)) := fun h => .lst (SqL.of h) (dpAll_ints _)
      have dm : ∀ {G : Hp} {l : Addr}, TsAt K G ts ms → G l = some (.lst (ts.map V.ref)) → Dp K G (.ref l) (.list (ms.map pdM)) := fun h1 h => .lst (SqL.of h) (dp_mvs h1 cb)
      have dx : Dp K G9 (.ref hd) (pdHand ws ms) := .tup (SqT.of g8) (.cons (dw gh1) (.cons (dm ta8 gh2) .nil))
      have dy : Dp K (upd H12 t (.tup [.ref wl, .ref ml])) (.ref t) (pdHand ws ms) := by
        have s13 : Same G9 (upd H12 t (.tup [.ref wl, .ref ml])) := E13.g.trans E13.s
        exact .tup (SqT.of upd_same) (.cons (dw (s13 _ _ gw8)) (.cons (dm (ta8.mono s13) (s13 _ _ gm8)) .nil))
      refine ⟨pdHand ws ms, pdHand ws ms, dp_mono (E13.g.trans E13.s) _ _ dx, dy, hs.1, hs.1, ?_⟩
      rw [SeqAt.eqv_refl _ hs.2]
      walk_at "go"
      refine iteF ?_
      walk_at "go"
      have hp12 : H12 p = some (.lst ((ms.foldl mvI ws).map V.int)) := e12.s _ _ (e11.g _ _ gp10)
      have hp13 : (upd H12 t (.tup [.ref wl, .ref ml])) p = some (.lst ((ms.foldl mvI ws).map V.int)) := by rw [upd_ne (ne_of_none hp12 nt)]; exact hp12
      refine ⟨tyL hp13, p, _, rfl, rfl, hp13, ?_⟩
      exact ⟨G9, (E13.back e9.s).mut np (e9.s.free np), rfl, _, _, _, _, _, _, _, rfl⟩
    · subst es eG
      have d9 := d8.pure e9 (by simp)
      have b9 := b8.ext e9 d8.st (fun m h => nomatch h)
      have E9 : Ext [a] G2 H2 G9 H9 := E8.trans e9.to
      walk_at "go"
      refine ⟨c, a, ns, G9, n - 1, rfl, d9, by omega, fun x G10 H10 e10 d10 hx10 => ?_⟩
      have b10 := b9.ext e10 d9.st (fun m h => List.mem_singleton.mp h)
      have E10 := E9.trans e10
      repeat (first | with_reducible refine MV.k_seq ?_ | with_reducible refine MV.k_asg ?_ | with_reducible refine MV.k_name ?_)
      refine k_lst ?_
      refine tups_new (As := [tCons (tC (.str "copy")) (tCons (tC (.int 0)) (tCons (tC (.int 0)) tNil)), tCons (tC (.str "swap")) (tCons (tC (.int 1)) (tCons (tC (.int 1)) tNil)), tCons (tC (.str "move")) (tCons (tC (.int 0)) (tCons (tC (.int 1)) tNil)), tCons (tC (.str "")) (tCons (tC (.int 0)) (tCons (tC (.int 1)) tNil)), tCons (tC (.str "copy")) (tCons (tVar 9) (tCons (tC (.int 0)) tNil)), tCons (tC (.str "copy")) (tCons (tC (.int 0)) (tCons (tVar 9) tNil)), tNil])
        (mss := [[.str "copy", .int 0, .int 0], [.str "swap", .int 1, .int 1], [.str "move", .int 0, .int 1], [.str "", .int 0, .int 1], [.str "copy", .int x, .int 0], [.str "copy", .int 0, .int x], []]) ?rd1 ?sm1 d10 fun ts1 G11 H11 e11 d11 t11 => ?_
      case rd1 => repeat (first | exact .nil | refine .cons (fun H QA h => by walk_at "go"; exact h) ?_)
      case sm1 =>
        intro m hm
        simp only [List.mem_cons, List.not_mem_nil, or_false] at hm
        rcases hm with rfl | rfl | rfl | rfl | rfl | rfl | rfl <;> simp
      have l1 : ts1.length = 7 := CX.paired_len t11
      have b11 := b10.ext e11 d10.st (fun m h => nomatch h)
      refine ⟨sz1 (by rw [List.length_map]; omega), fun o1 no1 => ?_⟩
      obtain ⟨G12, H12, -, eH, e12, d12, b12, g12⟩ := push d11 b11 (.lst (ts1.map V.ref)) no1
      rw [← eH]
      have E12 : Ext [a] G2 H2 G12 H12 := (E10.trans e11.to).trans e12.to
      repeat (first | with_reducible refine MV.k_seq ?_ | with_reducible refine MV.k_asg ?_ | with_reducible refine MV.k_name ?_)
      refine k_op (k_var rfl ?_)
      refine k_lst ?_
      refine tups_new (As := [tCons (tC (.str "swap")) (tCons (tVar 9) (tCons (tOp vAdd (tVar 9) (tC (.int 1))) tNil)), tCons (tC (.str "swap")) (tCons (tC (.int 0)) (tCons (tVar 9) tNil)), tCons (tC (.str "copy")) (tCons (tC (.int 0)) tNil), tCons (tC (.str "copy")) (tCons (tC (.int 0)) (tCons (tC (.int 1)) (tCons (tC (.int 0)) tNil))), tCons (tC (.str "call")) tNil, tCons (tC (.str "push")) (tCons (tC (.int 0)) tNil)])
        (mss := [[.str "swap", .int x, .int (x + 1)], [.str "swap", .int 0, .int x], [.str "copy", .int 0], [.str "copy", .int 0, .int 1, .int 0], [.str "call"], [.str "push", .int 0]]) ?rd2 ?sm2 d12 fun ts2 G13 H13 e13 d13 t13 => ?_
      case rd2 => repeat (first | exact .nil | refine .cons (fun H QA h => by walk_at "go"; exact h) ?_)
      case sm2 =>
        intro m hm
        simp only [List.mem_cons, List.not_mem_nil, or_false] at hm
        rcases hm with rfl | rfl | rfl | rfl | rfl | rfl <;> simp
      have l2 : ts2.length = 6 := CX.paired_len t13
      have b13 := b12.ext e13 d12.st (fun m h => nomatch h)
      refine ⟨sz1 (by rw [List.length_map]; omega), fun o2 no2 => ?_⟩
      obtain ⟨G14, H14, -, eH, e14, d14, b14, g14⟩ := push d13 b13 (.lst (ts2.map V.ref)) no2
      rw [← eH]
      refine ⟨o1, o2, _, _, rfl, rfl, d14.s _ _ (e14.g _ _ (e13.g _ _ g12)), d14.s _ _ g14, sz1 (by rw [List.length_map, List.length_map]; omega), fun o3 no3 => ?_⟩
      obtain ⟨G15, H15, -, eH, e15, d15, b15, g15⟩ := push d14 b14 (.lst (ts1.map V.ref ++ ts2.map V.ref)) no3
      rw [← eH]
      have E15 : Ext [a] G2 H2 G15 H15 := ((E12.trans e13.to).trans e14.to).trans e15.to
      have tO : TsAt K G15 (ts1 ++ ts2) (oddL x) := paired_both (((t11.mono e12.g).mono e13.g).mono (e14.g.trans e15.g)) (t13.mono (e14.g.trans e15.g))
      have gO : G15 o3 = some (.lst ((ts1 ++ ts2).map V.ref)) := by rw [g15, List.map_append]
      have K9 : Same G9 G15 := (e10.g.trans (e11.g.trans e12.g)).trans (e13.g.trans (e14.g.trans e15.g))
      walk_at "go"
      refine k_len (.inl (d15.s.seq (SqL.of (K9 _ _ gm8)))) ?_
      walk_at "go"
      have lts : ts.length = ms.length := CX.paired_len ta8
      refine d15.draw (M := [a]) (by simp) (by omega) (by rw [List.length_map]; omega) fun at0 H16 at1 at2 e16 d16 k16 => ?_
      have b16 := b15.ext e16 d15.st (fun m h => List.mem_singleton.mp h)
      rw [List.length_map] at at2
      have gw16 : G15 wl = some (.lst (ws.map V.int)) := K9 _ _ gw8
      have gm16 : G15 ml = some (.lst (ts.map V.ref)) := K9 _ _ gm8
      have ta16 : TsAt K G15 ts ms := ta8.mono K9
      have E16 : Ext [a] G2 H2 G15 H16 := E15.trans e16
      walk_at "go"
      refine ⟨ml, _, rfl, SqL.of (d16.s _ _ gm16), fun q1 nq1 => ?_⟩
      rw [cut_take at1 (by rw [List.length_map]; omega), ← List.map_take]
      obtain ⟨G17, H17, -, eH, e17, d17, b17, g17⟩ := push d16 b16 (.lst ((ts.take at0.toNat).map V.ref)) nq1
      rw [← eH]
      walk_at "go"
      refine d17.draw (M := [a]) (by simp) (by decide) (by decide) fun v H18 v0 v1 e18 d18 k18 => ?_
      have b18 := b17.ext e18 d17.st (fun m h => List.mem_singleton.mp h)
      have lO : (ts1 ++ ts2).length = 13 := by rw [List.length_append, l1, l2]
      have hv : v.toNat < (ts1 ++ ts2).length := by omega
      have hv2 : v.toNat < (oddL x).length := by show v.toNat < 13; omega
      have tv : SqT K G15 (ts1 ++ ts2)[v.toNat] (oddL x)[v.toNat] := paired_at tO v.toNat _ _ (List.getElem?_eq_getElem hv) (List.getElem?_eq_getElem hv2)
      have ov := odd_not (n := n) hx10 (oddL x)[v.toNat] (List.getElem_mem hv2)
      refine k_ixL (SqL.of (d18.s _ _ (e17.g _ _ gO))) (v := .ref (ts1 ++ ts2)[v.toNat]) ?_ ?_
      · have e := atI_nat (xs := (ts1 ++ ts2).map V.ref) (j := v.toNat) (v := V.ref (ts1 ++ ts2)[v.toNat]) (by rw [List.getElem?_map, List.getElem?_eq_getElem hv]; rfl)
        rw [show ((v.toNat : Nat) : Int) = v by omega] at e
        exact e
      generalize (ts1 ++ ts2)[v.toNat] = tt at *
      generalize (oddL x)[v.toNat] = om at *
      walk_at "go"
      refine ⟨sz1 (by show 1 ≤ 100000; decide), fun q2 nq2 => ?_⟩
      obtain ⟨G19, H19, -, eH, e19, d19, b19, g19⟩ := push d18 b18 (.lst [.ref tt]) nq2
      rw [← eH]
      refine ⟨q1, q2, _, _, rfl, rfl, d19.s _ _ (e19.g _ _ g17), d19.s _ _ g19, sz1 (by rw [List.length_map, List.length_take]; show min _ _ + 1 ≤ _; omega), fun q3 nq3 => ?_⟩
      obtain ⟨G20, H20, -, eH, e20, d20, b20, g20⟩ := push d19 b19 (.lst ((ts.take at0.toNat).map V.ref ++ [.ref tt])) nq3
      rw [← eH]
      walk_at "go"
      refine ⟨ml, _, rfl, SqL.of (d20.s _ _ (e20.g _ _ (e19.g _ _ (e17.g _ _ gm16)))), fun q4 nq4 => ?_⟩
      rw [cut_drop at1 (by rw [List.length_map]; omega), ← List.map_drop]
      obtain ⟨G21, H21, -, eH, e21, d21, b21, g21⟩ := push d20 b20 (.lst ((ts.drop at0.toNat).map V.ref)) nq4
      rw [← eH]
      refine ⟨q3, q4, _, _, rfl, rfl, d21.s _ _ (e21.g _ _ g20), d21.s _ _ g21, sz1 (by simp only [List.length_append, List.length_map, List.length_take, List.length_drop, List.length_singleton]; omega), fun q5 nq5 => ?_⟩
      obtain ⟨G22, H22, -, eH, e22, d22, b22, g22⟩ := push d21 b21 (.lst ((ts.take at0.toNat).map V.ref ++ [.ref tt] ++ (ts.drop at0.toNat).map V.ref)) nq5
      rw [← eH]
      walk_at "go"
      refine ⟨sz1 (Nat.zero_le _), fun te nte => ?_⟩
      obtain ⟨G23, H23, -, eH, e23, d23, b23, g23⟩ := push d22 b22 (.tup []) nte
      rw [← eH]
      walk_at "go"
      refine ⟨sz1 (by show 1 ≤ 100000; decide), fun q6 nq6 => ?_⟩
      obtain ⟨G24, H24, -, eH, e24, d24, b24, g24⟩ := push d23 b23 (.lst [.ref te]) nq6
      rw [← eH]
      walk_at "go"
      refine d24.draw (M := [a]) (by simp) (by decide) (by decide) fun r H25 r0 r1 e25 d25 k25 => ?_
      have b25 := b24.ext e25 d24.st (fun m h => List.mem_singleton.mp h)
      refine ⟨q6, r, _, rfl, rfl, d25.s _ _ g24, by omega, by omega, sz1 (by show 1 * r.toNat ≤ 100000; omega), fun q7 nq7 => ?_⟩
      have er : (List.replicate r.toNat [V.ref te]).flatten = (List.replicate r.toNat te).map V.ref := by
        have c : r = 0 ∨ r = 1 := by omega
        rcases c with rfl | rfl <;> rfl
      rw [er]
      obtain ⟨G26, H26, -, eH, e26, d26, b26, g26⟩ := push d25 b25 (.lst ((List.replicate r.toNat te).map V.ref)) nq7
      rw [← eH]
      refine ⟨q5, q7, _, _, rfl, rfl, d26.s _ _ (e26.g _ _ (e24.g _ _ (e23.g _ _ g22))), d26.s _ _ g26, sz1 (by simp only [List.length_append, List.length_map, List.length_take, List.length_drop, List.length_singleton, List.length_replicate]; omega), fun bd nbd => ?_⟩
      obtain ⟨G27, H27, -, eH, e27, d27, b27, g27⟩ := push d26 b26 (.lst ((ts.take at0.toNat).map V.ref ++ [.ref tt] ++ (ts.drop at0.toNat).map V.ref ++ (List.replicate r.toNat te).map V.ref)) nbd
      rw [← eH]
      have K22 : Same G15 G22 := (e17.g.trans e19.g).trans ((e20.g.trans e21.g).trans e22.g)
      have K27 : Same G22 G27 := (e23.g.trans e24.g).trans (e26.g.trans e27.g)
      have E27 : Ext [a] G2 H2 G27 H27 := ((((((((((E16.trans e17.to).trans e18).trans e19.to).trans e20.to).trans e21.to).trans e22.to).trans e23.to).trans e24.to).trans e25).trans e26.to).trans e27.to
      have gbd : G27 bd = some (.lst ((ts.take at0.toNat ++ [tt] ++ ts.drop at0.toNat ++ List.replicate r.toNat te).map V.ref)) := by rw [g27]; simp only [List.map_append]; rfl
      have K37 := K22.trans K27
      have tB : TsAt K G27 (ts.take at0.toNat ++ [tt] ++ ts.drop at0.toNat ++ List.replicate r.toNat te) (ms.take at0.toNat ++ [om] ++ ms.drop at0.toNat ++ List.replicate r.toNat []) := by
        have t1 := TsAt.mono (paired_take at0.toNat ta16) K37
        have t2 := TsAt.mono (paired_drop at0.toNat ta16) K37
        have t3 : TsAt K G27 [tt] [om] := .cons (sqT_mono K37 tv) .nil
        have t4 : TsAt K G27 (List.replicate r.toNat te) (List.replicate r.toNat []) := paired_rep (SqT.of ((e24.g.trans (e26.g.trans e27.g)) _ _ g23)) _
        exact paired_both (paired_both (paired_both t1 t3) t2) t4
      have lk : (ms.take at0.toNat).length = at0.toNat := by rw [List.length_take]; omega
      have lB : (ms.take at0.toNat ++ [om] ++ ms.drop at0.toNat ++ List.replicate r.toNat []).length ≤ 1000 := by
        simp only [List.length_append, List.length_take, List.length_drop, List.length_singleton, List.length_replicate]; omega
      have wfB : ∀ m, m ∈ ms.take at0.toNat ++ [om] ++ ms.drop at0.toNat ++ List.replicate r.toNat [] → Wf m := fun m hm => by
        rcases List.mem_append.mp hm with hm | hm
        · rcases List.mem_append.mp hm with hm | hm
          · rcases List.mem_append.mp hm with hm | hm
            · exact wfs m (List.mem_of_mem_take hm)
            · rw [List.mem_singleton.mp hm]; exact ov.1
          · exact wfs m (List.mem_of_mem_drop hm)
        · rw [(List.mem_replicate.mp hm).2]; exact .inl (by decide)
      have ekB : (ms.take at0.toNat ++ [om] ++ ms.drop at0.toNat ++ List.replicate r.toNat [])[at0.toNat]? = some om := by
        rw [List.append_assoc, List.append_assoc, List.getElem?_append_right (by omega), lk, Nat.sub_self]
        rfl
      have hkB : ∀ i m', i < at0.toNat → (ms.take at0.toNat ++ [om] ++ ms.drop at0.toNat ++ List.replicate r.toNat [])[i]? = some m' → canBe n m' = true := fun i m' h1 h2 => by
        rw [List.append_assoc, List.append_assoc, List.getElem?_append_left (by omega)] at h2
        exact cb m' (List.mem_of_mem_take (List.mem_of_getElem? h2))
      have maB := tB.ms (SqL.of gbd)
      have gw27 : G27 wl = some (.lst (ws.map V.int)) := K37 _ _ gw16
      have hat : ((at0.toNat : Nat) : Int) = at0 := by omega
      generalize ms.take at0.toNat ++ [om] ++ ms.drop at0.toNat ++ List.replicate r.toNat [] = msB at *
      clear tB
      subst lw'
      repeat (first | with_reducible refine MV.k_seq ?_ | with_reducible refine MV.k_asg ?_ | with_reducible refine MV.k_name ?_)
      have told : ∀ {p t : Addr} {H3 : Hp}, H3 p = some (.tup [.str "BadMove", .int ((at0.toNat : Nat) : Int)]) → H3 t = none → Dp K (upd H3 t (.tup [.str "BadMove", .int at0])) (.ref p) (.tuple [.str "BadMove", .int at0]) ∧ Dp K (upd H3 t (.tup [.str "BadMove", .int at0])) (.ref t) (.tuple [.str "BadMove", .int at0]) := fun hp nt => by
        rw [hat] at hp
        exact ⟨.tup (SqT.of (by rw [upd_ne (ne_of_none hp nt)]; exact hp)) (.cons (.str _) (.cons (.int _) .nil)), .tup (SqT.of upd_same) (.cons (.str _) (.cons (.int _) .nil))⟩
      refine k_ifS (k_not (k_B (k_call (k_cons ?_))))
      refine moved_told (k := at0.toNat) (m := om) d27 b27 (SqL.of gw27) w1 w10 maB wfB lB ekB ov.2 hkB fun p H28 e28 b28 d28 hp => ?_
      walk_at "go"
      refine ⟨sz1 (by show 2 ≤ 100000; decide), fun t nt => ?_⟩
      obtain ⟨dx, dy⟩ := told hp nt
      have e29 := (Ext.refl (M := []) d28.s).tmp (o := .tup [.str "BadMove", .int at0]) nt
      have d29 := d28.tmp (o := .tup [.str "BadMove", .int at0]) nt
      have b29 := b28.ext e29 d28.st (fun m h => nomatch h)
      generalize upd H28 t (.tup [.str "BadMove", .int at0]) = H29 at *
      refine ⟨H29, .tuple [.str "BadMove", .int at0], .ref p, .ref t, rfl, Same.refl _, dx, dy, rfl, (by show (1 : Nat) < 4; decide), fun H30 e30' => ?_⟩
      have e30 : Ext [] G27 H29 G27 H30 := ⟨Same.refl _, d29.s.trans e30'.s, e30'.h, e30'.d, fun b => .inl rfl⟩
      have d30 := d29.pure e30 (by simp)
      have b30 := b29.ext e30 d29.st (fun m h => nomatch h)
      walk_at "go"
      refine iteF ?_
      repeat (first | with_reducible refine MV.k_next ?_ | with_reducible refine MV.k_seq ?_ | with_reducible refine MV.k_asg ?_ | with_reducible refine MV.k_name ?_)
      dsimp only
      refine k_ifS (k_not (k_B (k_call (k_cons ?_))))
      refine does_told (k := at0.toNat) (m := om) d30 b30 w1 w10 maB wfB lB ekB ov.2 hkB fun p2 G31 H31 e31 b31 d31 hp2 => ?_
      walk_at "go"
      refine ⟨sz1 (by show 2 ≤ 100000; decide), fun t2 nt2 => ?_⟩
      obtain ⟨dx2, dy2⟩ := told hp2 nt2
      have e32 := (Ext.refl (M := []) d31.s).tmp (o := .tup [.str "BadMove", .int at0]) nt2
      have d32 := d31.tmp (o := .tup [.str "BadMove", .int at0]) nt2
      have b32 := b31.ext e32 d31.st (fun m h => nomatch h)
      generalize upd H31 t2 (.tup [.str "BadMove", .int at0]) = H32 at *
      refine ⟨H32, .tuple [.str "BadMove", .int at0], .ref p2, .ref t2, rfl, Same.refl _, dx2, dy2, rfl, (by show (1 : Nat) < 4; decide), fun H33 e33' => ?_⟩
      have e33 : Ext [] G31 H32 G31 H33 := ⟨Same.refl _, d32.s.trans e33'.s, e33'.h, e33'.d, fun b => .inl rfl⟩
      have d33 := d32.pure e33 (by simp)
      have b33 := b32.ext e33 d32.st (fun m h => nomatch h)
      walk_at "go"
      refine iteF ?_
      refine k_next ?_
      have wa : ∀ {G H G1 H1 : Hp}, Ext [a] G H G1 H1 → Ext [a, Pt] G H G1 H1 := fun e => e.wide fun x h => by rw [List.mem_singleton.mp h]; exact List.mem_cons_self ..
      have wp : ∀ {G H G1 H1 : Hp}, Ext [Pt] G H G1 H1 → Ext [a, Pt] G H G1 H1 := fun e => e.wide fun x h => by rw [List.mem_singleton.mp h]; exact List.mem_cons_of_mem _ (List.mem_cons_self ..)
      exact ⟨G31, ((((((wa E27).trans (wp e28)).trans e29.to).trans e30.to).trans (wp e31)).trans e32.to).trans e33.to, ⟨_, _, _, _, _, _, _, _, _, _, _, _, rfl⟩, d33, b33⟩
  · subst es
    walk_at "go"
    exact q _
end
end K03
namespace K03
open PySem PySem.Spec PyProof.Rows L2
def dd_is_count : He.FnD := ⟨("is_count", none), "is_count", "is_count", defArgs d_is_count, defBody d_is_count, defScope d_is_count⟩
def dd_check_boxes : He.FnD := ⟨("check_boxes", none), "check_boxes", "check_boxes", defArgs d_check_boxes, defBody d_check_boxes, defScope d_check_boxes⟩
def dd_is_box : He.FnD := ⟨("is_box", none), "is_box", "is_box", defArgs d_is_box, defBody d_is_box, defScope d_is_box⟩
def dd_check_lead : He.FnD := ⟨("check_lead", none), "check_lead", "check_lead", defArgs d_check_lead, defBody d_check_lead, defScope d_check_lead⟩
def dd_real_pairs : He.FnD := ⟨("real_pairs", none), "real_pairs", "real_pairs", defArgs d_real_pairs, defBody d_real_pairs, defScope d_real_pairs⟩
def dd_at_once : He.FnD := ⟨("at_once", none), "at_once", "at_once", defArgs d_at_once, defBody d_at_once, defScope d_at_once⟩
def dd_can_be : He.FnD := ⟨("can_be", none), "can_be", "can_be", defArgs d_can_be, defBody d_can_be, defScope d_can_be⟩
def dd_check_moves : He.FnD := ⟨("check_moves", none), "check_moves", "check_moves", defArgs d_check_moves, defBody d_check_moves, defScope d_check_moves⟩
def dd_do_move : He.FnD := ⟨("do_move", none), "do_move", "do_move", defArgs d_do_move, defBody d_do_move, defScope d_do_move⟩
def dd_moved : He.FnD := ⟨("moved", none), "moved", "moved", defArgs d_moved, defBody d_moved, defScope d_moved⟩
def dd_check_spares : He.FnD := ⟨("check_spares", none), "check_spares", "check_spares", defArgs d_check_spares, defBody d_check_spares, defScope d_check_spares⟩
def dd_does : He.FnD := ⟨("does", none), "does", "does", defArgs d_does, defBody d_does, defScope d_does⟩
def dd__law_start : He.FnD := ⟨("_law_start", none), "_law_start", "_law_start", defArgs d__law_start, defBody d__law_start, defScope d__law_start⟩
def dd__law_drawn : He.FnD := ⟨("_law_drawn", none), "_law_drawn", "_law_drawn", defArgs d__law_drawn, defBody d__law_drawn, defScope d__law_drawn⟩
def dd__law_same : He.FnD := ⟨("_law_same", none), "_law_same", "_law_same", defArgs d__law_same, defBody d__law_same, defScope d__law_same⟩
def dd__law_kind : He.FnD := ⟨("_law_kind", none), "_law_kind", "_law_kind", defArgs d__law_kind, defBody d__law_kind, defScope d__law_kind⟩
def dd__law_far : He.FnD := ⟨("_law_far", none), "_law_far", "_law_far", defArgs d__law_far, defBody d__law_far, defScope d__law_far⟩
def dd__law_boxes : He.FnD := ⟨("_law_boxes", none), "_law_boxes", "_law_boxes", defArgs d__law_boxes, defBody d__law_boxes, defScope d__law_boxes⟩
def dd__law_worths : He.FnD := ⟨("_law_worths", none), "_law_worths", "_law_worths", defArgs d__law_worths, defBody d__law_worths, defScope d__law_worths⟩
def dd__law_moved : He.FnD := ⟨("_law_moved", none), "_law_moved", "_law_moved", defArgs d__law_moved, defBody d__law_moved, defScope d__law_moved⟩
def dd__law_move : He.FnD := ⟨("_law_move", none), "_law_move", "_law_move", defArgs d__law_move, defBody d__law_move, defScope d__law_move⟩
def dd_law : He.FnD := ⟨("law", none), "law", "law", defArgs d_law, defBody d_law, defScope d_law⟩
def fn : List He.FnD := [dd_is_count, dd_check_boxes, dd_is_box, dd_check_lead, dd_real_pairs, dd_at_once, dd_can_be, dd_check_moves, dd_do_move, dd_moved, dd_check_spares, dd_does, dd__law_start, dd__law_drawn, dd__law_same, dd__law_kind, dd__law_far, dd__law_boxes, dd__law_worths, dd__law_moved, dd__law_move, dd_law]
def fa : List He.Fa := [.glo "is_count",
  .glo "check_boxes",
  .glo "is_box",
  .glo "check_lead",
  .glo "real_pairs",
  .glo "at_once",
  .glo "can_be",
  .glo "check_moves",
  .glo "do_move",
  .glo "moved",
  .glo "check_spares",
  .glo "does",
  .glo "_law_start",
  .glo "_law_drawn",
  .glo "_law_same",
  .glo "_law_kind",
  .glo "_law_far",
  .glo "_law_boxes",
  .glo "_law_worths",
  .glo "_law_moved",
  .glo "_law_move",
  .glo "law",
  .glo "BadCall",
  .glo "BadHouse",
  .glo "BadLead",
  .glo "BadMove",
  .glo "BadSpare",
  .glo "BadText",
  .glo "BadWord",
  .glo "MoveError",
  .glo "NoWay",
  .free "ValueError",
  .free "all",
  .free "bool",
  .free "enumerate",
  .free "int",
  .free "isinstance",
  .free "len",
  .free "list",
  .free "max",
  .free "range",
  .free "set",
  .free "str",
  .free "tuple",
  .int "FEWEST_BOXES" 1,
  .int "MOST_BOXES" 10,
  .keep "is_count",
  .keep "check_boxes",
  .keep "is_box",
  .keep "check_lead",
  .keep "real_pairs",
  .keep "at_once",
  .keep "can_be",
  .keep "check_moves",
  .keep "do_move",
  .keep "moved",
  .keep "check_spares",
  .keep "does",
  .keep "_law_start",
  .keep "_law_drawn",
  .keep "_law_same",
  .keep "_law_kind",
  .keep "_law_far",
  .keep "_law_boxes",
  .keep "_law_worths",
  .keep "_law_moved",
  .keep "_law_move",
  .keep "law"]
def bad_BadMove : EX.InitD := ⟨"BadMove", "number", "move ", " can't be", ⟨⟨10, 17, 10, 21⟩, ⟨10, 23, 10, 29⟩, ⟨11, 8, 11, 13⟩, ⟨11, 8, 11, 15⟩, ⟨11, 8, 11, 24⟩, ⟨11, 27, 11, 32⟩, ⟨11, 33, 11, 39⟩, ⟨11, 32, 11, 40⟩, ⟨11, 40, 11, 49⟩, ⟨11, 25, 11, 50⟩, ⟨11, 8, 11, 51⟩, ⟨12, 8, 12, 12⟩, ⟨12, 8, 12, 19⟩, ⟨12, 22, 12, 28⟩, ⟨12, 8, 12, 28⟩⟩, "BadMove.__init__"⟩
def bad_BadText : EX.InitD := ⟨"BadText", "place", "word ", " is no pair", ⟨⟨23, 17, 23, 21⟩, ⟨23, 23, 23, 28⟩, ⟨24, 8, 24, 13⟩, ⟨24, 8, 24, 15⟩, ⟨24, 8, 24, 24⟩, ⟨24, 27, 24, 32⟩, ⟨24, 33, 24, 38⟩, ⟨24, 32, 24, 39⟩, ⟨24, 39, 24, 50⟩, ⟨24, 25, 24, 51⟩, ⟨24, 8, 24, 52⟩, ⟨25, 8, 25, 12⟩, ⟨25, 8, 25, 18⟩, ⟨25, 21, 25, 26⟩, ⟨25, 8, 25, 26⟩⟩, "BadText.__init__"⟩
def bad : List EX.InitD := [bad_BadMove, bad_BadText]
def tf : List He.Defn := [("law", none)]
def plainNames : List Str := ["BadCall", "BadHouse", "BadLead", "BadSpare", "BadWord", "NoWay"]
abbrev R : PySem.W.OpenRow := PySem.W.OpenLaw.row PySem.Challenge.rw_movesatonce_k03_single_moves
def exB (K : PySem.W.Frag) : Bool := EX.kindB K && (bad.all (fun d => EX.badB K PySem.Challenge.pw_movesatonce_k03_single_moves d) && plainNames.all fun x => EX.plainB K x)
abbrev hk : PySem.W.Hook := EX.hookZ 6 fa fn tf bad exB
def ob (s : PySem.W.SharedT) : EX.AlZ := EX.obsZ 6 fa fn tf bad exB (HandSHeadRun.getT s)
theorem ob_eq (s : PySem.W.SharedT) : ob s = hk.obs s.abs := EX.obsZ_eq (HandSHeadRun.getT_eq s)
def names_0 : List Str := ["MoveError", "BadLead", "BadSpare", "BadMove", "NoWay", "BadWord", "BadHouse", "BadCall", "BadText", "FEWEST_BOXES", "MOST_BOXES", "is_count", "check_boxes", "is_box", "check_lead", "real_pairs", "at_once", "can_be", "check_moves", "do_move", "moved", "check_spares", "does", "_law_start", "_law_drawn", "_law_same", "_law_kind", "_law_far", "_law_order", "_law_lead"]
def names_1 : List Str := ["_law_boxes", "_law_worths", "_law_at_once", "_law_moved", "_law_move"]
def loose : List Str := names_0 ++ names_1
theorem run (w : World) : HandSHeadRun.RunEq R (PySem.W.view R.prog [39]) hk ob 4000 loose w := by
  intro os
  kernel_rfl
end K03
namespace K03
open PySem PySem.Spec PyProof.Rows L2 MV
local macro_rules | `(tactic| walk_at "len") => `(tactic| (intro vs H Q E h; first
  | (obtain ⟨_, e, _⟩ := h; subst e; rfl) | (obtain ⟨_, _, e, _⟩ := h; subst e; rfl) | (obtain ⟨_, _, _, e, _⟩ := h; subst e; rfl) | (obtain ⟨_, _, _, _, e, _⟩ := h; subst e; rfl) | (obtain ⟨_, _, _, _, _, e, _⟩ := h; subst e; rfl) | (obtain ⟨_, _, _, _, _, _, e, _⟩ := h; subst e; rfl) | (obtain ⟨_, _, _, _, _, _, _, e, _⟩ := h; subst e; rfl) | (obtain ⟨_, _, _, _, _, _, _, _, e, _⟩ := h; subst e; rfl) | (obtain ⟨_, _, _, _, _, _, _, _, _, e, _⟩ := h; subst e; rfl) | (obtain ⟨_, _, _, _, _, _, _, _, _, _, e, _⟩ := h; subst e; rfl) | (obtain ⟨_, _, _, _, _, _, _, _, _, _, _, e, _⟩ := h; subst e; rfl) | (obtain ⟨_, _, _, _, _, _, _, _, _, _, _, _, e, _⟩ := h; subst e; rfl)))
theorem facts {w : World} {K : PySem.W.Frag} {h : Heap} {mg : Str → Option Value} {f0 : Addr} (X : K.In h) (G : h.Ns mainGlobals mg) (hfa : mg ("law" : Str) = some (.ref f0)) (c : EX.SaysZ fa fn tf bad exB h K) :
    LamX.LawAtS PySem.Challenge.rw_movesatonce_k03_single_moves w K CX0 13 63 "_law_script" mg f0 h := by
  have e := hfa.symm.trans (He.glo_ok X G (c.t.fact 21 (f := .glo "law") rfl))
  cases e
  obtain ⟨kc, bad1, pl⟩ : EX.KindC K ∧ (∀ d ∈ bad, EX.badB K PySem.Challenge.pw_movesatonce_k03_single_moves d = true) ∧ ∀ x ∈ plainNames, EX.plainB K x = true := by
    obtain ⟨h1, h2⟩ := He.ba c.more
    obtain ⟨h3, h4⟩ := He.ba h2
    exact ⟨EX.kindB_ok h1, List.all_eq_true.mp h3, List.all_eq_true.mp h4⟩
  have badE : ∀ (i : Nat) (d : EX.InitD), bad[i]? = some d → EX.initV K d.x = d.val := fun i d hd => by
    have e2 : (bad.map fun d => EX.initV K d.x)[i]? = (bad.map EX.InitD.val)[i]? := by rw [c.init]
    rw [List.getElem?_map, List.getElem?_map, hd] at e2
    exact Option.some.inj e2
  have T : Txt PySem.Challenge.pw_movesatonce_k03_single_moves K mg := { m_ValueError := He.free_ok X G (c.t.fact 31 (f := .free "ValueError") rfl), m_all := He.free_ok X G (c.t.fact 32 (f := .free "all") rfl), m_bool := He.free_ok X G (c.t.fact 33 (f := .free "bool") rfl), m_enumerate := He.free_ok X G (c.t.fact 34 (f := .free "enumerate") rfl), m_int := He.free_ok X G (c.t.fact 35 (f := .free "int") rfl), m_isinstance := He.free_ok X G (c.t.fact 36 (f := .free "isinstance") rfl), m_len := He.free_ok X G (c.t.fact 37 (f := .free "len") rfl), m_list := He.free_ok X G (c.t.fact 38 (f := .free "list") rfl), m_max := He.free_ok X G (c.t.fact 39 (f := .free "max") rfl), m_range := He.free_ok X G (c.t.fact 40 (f := .free "range") rfl), m_set := He.free_ok X G (c.t.fact 41 (f := .free "set") rfl), m_str := He.free_ok X G (c.t.fact 42 (f := .free "str") rfl), m_tuple := He.free_ok X G (c.t.fact 43 (f := .free "tuple") rfl), g_FEWEST_BOXES := (by obtain ⟨t, e⟩ := He.int_ok X G (c.t.fact 44 (f := .int "FEWEST_BOXES" 1) rfl); exact ⟨_, e, _, rfl⟩), g_MOST_BOXES := (by obtain ⟨t, e⟩ := He.int_ok X G (c.t.fact 45 (f := .int "MOST_BOXES" 10) rfl); exact ⟨_, e, _, rfl⟩), x_BadCall := He.glo_ok X G (c.t.fact 22 (f := .glo "BadCall") rfl), q_BadCall := EX.plainB_ok (pl _ (by simp [plainNames])), x_BadHouse := He.glo_ok X G (c.t.fact 23 (f := .glo "BadHouse") rfl), q_BadHouse := EX.plainB_ok (pl _ (by simp [plainNames])), x_BadLead := He.glo_ok X G (c.t.fact 24 (f := .glo "BadLead") rfl), q_BadLead := EX.plainB_ok (pl _ (by simp [plainNames])), x_BadMove := He.glo_ok X G (c.t.fact 25 (f := .glo "BadMove") rfl), b_BadMove := EX.badB_ok (d := bad_BadMove) (bad1 _ (by simp [bad])) (badE 0 _ rfl), x_BadSpare := He.glo_ok X G (c.t.fact 26 (f := .glo "BadSpare") rfl), q_BadSpare := EX.plainB_ok (pl _ (by simp [plainNames])), x_BadText := He.glo_ok X G (c.t.fact 27 (f := .glo "BadText") rfl), b_BadText := EX.badB_ok (d := bad_BadText) (bad1 _ (by simp [bad])) (badE 1 _ rfl), x_BadWord := He.glo_ok X G (c.t.fact 28 (f := .glo "BadWord") rfl), q_BadWord := EX.plainB_ok (pl _ (by simp [plainNames])), x_MoveError := He.glo_ok X G (c.t.fact 29 (f := .glo "MoveError") rfl), x_NoWay := He.glo_ok X G (c.t.fact 30 (f := .glo "NoWay") rfl), q_NoWay := EX.plainB_ok (pl _ (by simp [plainNames])) }
  obtain ⟨fd_is_count, F_is_count, z_is_count⟩ := EX.fun_of (st := d_is_count) c.t 0 (x := "is_count") rfl (He.keep_ok (c.t.fact 46 (f := .keep "is_count") rfl))
  have b_is_count := F_is_count.binds (ps := ["boxes"]) fun _ _ _ _ _ _ us hl => match us, hl with | [_], _ => rfl
  have g_is_count := He.glo_ok X G (c.t.fact 0 (f := .glo "is_count") rfl)
  obtain ⟨fd_check_boxes, F_check_boxes, z_check_boxes⟩ := EX.fun_of (st := d_check_boxes) c.t 1 (x := "check_boxes") rfl (He.keep_ok (c.t.fact 47 (f := .keep "check_boxes") rfl))
  have b_check_boxes := F_check_boxes.binds (ps := ["boxes"]) fun _ _ _ _ _ _ us hl => match us, hl with | [_], _ => rfl
  have g_check_boxes := He.glo_ok X G (c.t.fact 1 (f := .glo "check_boxes") rfl)
  obtain ⟨fd_is_box, F_is_box, z_is_box⟩ := EX.fun_of (st := d_is_box) c.t 2 (x := "is_box") rfl (He.keep_ok (c.t.fact 48 (f := .keep "is_box") rfl))
  have b_is_box := F_is_box.binds (ps := ["boxes", "box"]) fun _ _ _ _ _ _ us hl => match us, hl with | [_, _], _ => rfl
  have g_is_box := He.glo_ok X G (c.t.fact 2 (f := .glo "is_box") rfl)
  obtain ⟨fd_check_lead, F_check_lead, z_check_lead⟩ := EX.fun_of (st := d_check_lead) c.t 3 (x := "check_lead") rfl (He.keep_ok (c.t.fact 49 (f := .keep "check_lead") rfl))
  have b_check_lead := F_check_lead.binds (ps := ["boxes", "lead"]) fun _ _ _ _ _ _ us hl => match us, hl with | [_, _], _ => rfl
  have g_check_lead := He.glo_ok X G (c.t.fact 3 (f := .glo "check_lead") rfl)
  obtain ⟨fd_real_pairs, F_real_pairs, z_real_pairs⟩ := EX.fun_of (st := d_real_pairs) c.t 4 (x := "real_pairs") rfl (He.keep_ok (c.t.fact 50 (f := .keep "real_pairs") rfl))
  have b_real_pairs := F_real_pairs.binds (ps := ["lead"]) fun _ _ _ _ _ _ us hl => match us, hl with | [_], _ => rfl
  have g_real_pairs := He.glo_ok X G (c.t.fact 4 (f := .glo "real_pairs") rfl)
  obtain ⟨fd_at_once, F_at_once, z_at_once⟩ := EX.fun_of (st := d_at_once) c.t 5 (x := "at_once") rfl (He.keep_ok (c.t.fact 51 (f := .keep "at_once") rfl))
  have b_at_once := F_at_once.binds (ps := ["worths", "lead"]) fun _ _ _ _ _ _ us hl => match us, hl with | [_, _], _ => rfl
  have g_at_once := He.glo_ok X G (c.t.fact 5 (f := .glo "at_once") rfl)
  obtain ⟨fd_can_be, F_can_be, z_can_be⟩ := EX.fun_of (st := d_can_be) c.t 6 (x := "can_be") rfl (He.keep_ok (c.t.fact 52 (f := .keep "can_be") rfl))
  have b_can_be := F_can_be.binds (ps := ["boxes", "move"]) fun _ _ _ _ _ _ us hl => match us, hl with | [_, _], _ => rfl
  have g_can_be := He.glo_ok X G (c.t.fact 6 (f := .glo "can_be") rfl)
  obtain ⟨fd_check_moves, F_check_moves, z_check_moves⟩ := EX.fun_of (st := d_check_moves) c.t 7 (x := "check_moves") rfl (He.keep_ok (c.t.fact 53 (f := .keep "check_moves") rfl))
  have b_check_moves := F_check_moves.binds (ps := ["boxes", "moves"]) fun _ _ _ _ _ _ us hl => match us, hl with | [_, _], _ => rfl
  have g_check_moves := He.glo_ok X G (c.t.fact 7 (f := .glo "check_moves") rfl)
  obtain ⟨fd_do_move, F_do_move, z_do_move⟩ := EX.fun_of (st := d_do_move) c.t 8 (x := "do_move") rfl (He.keep_ok (c.t.fact 54 (f := .keep "do_move") rfl))
  have b_do_move := F_do_move.binds (ps := ["held", "move"]) fun _ _ _ _ _ _ us hl => match us, hl with | [_, _], _ => rfl
  have g_do_move := He.glo_ok X G (c.t.fact 8 (f := .glo "do_move") rfl)
  obtain ⟨fd_moved, F_moved, z_moved⟩ := EX.fun_of (st := d_moved) c.t 9 (x := "moved") rfl (He.keep_ok (c.t.fact 55 (f := .keep "moved") rfl))
  have b_moved := F_moved.binds (ps := ["worths", "moves"]) fun _ _ _ _ _ _ us hl => match us, hl with | [_, _], _ => rfl
  have g_moved := He.glo_ok X G (c.t.fact 9 (f := .glo "moved") rfl)
  obtain ⟨fd_check_spares, F_check_spares, z_check_spares⟩ := EX.fun_of (st := d_check_spares) c.t 10 (x := "check_spares") rfl (He.keep_ok (c.t.fact 56 (f := .keep "check_spares") rfl))
  have b_check_spares := F_check_spares.binds (ps := ["boxes", "lead", "spares"]) fun _ _ _ _ _ _ us hl => match us, hl with | [_, _, _], _ => rfl
  have g_check_spares := He.glo_ok X G (c.t.fact 10 (f := .glo "check_spares") rfl)
  obtain ⟨fd_does, F_does, z_does⟩ := EX.fun_of (st := d_does) c.t 11 (x := "does") rfl (He.keep_ok (c.t.fact 57 (f := .keep "does") rfl))
  have b_does := F_does.binds (ps := ["boxes", "lead", "spares", "moves"]) fun _ _ _ _ _ _ us hl => match us, hl with | [_, _, _, _], _ => rfl
  have g_does := He.glo_ok X G (c.t.fact 11 (f := .glo "does") rfl)
  obtain ⟨fd__law_start, F__law_start, z__law_start⟩ := EX.fun_of (st := d__law_start) c.t 12 (x := "_law_start") rfl (He.keep_ok (c.t.fact 58 (f := .keep "_law_start") rfl))
  have b__law_start := F__law_start.binds (ps := ["_law_script"]) fun _ _ _ _ _ _ us hl => match us, hl with | [_], _ => rfl
  have g__law_start := He.glo_ok X G (c.t.fact 12 (f := .glo "_law_start") rfl)
  obtain ⟨fd__law_drawn, F__law_drawn, z__law_drawn⟩ := EX.fun_of (st := d__law_drawn) c.t 13 (x := "_law_drawn") rfl (He.keep_ok (c.t.fact 59 (f := .keep "_law_drawn") rfl))
  have b__law_drawn := F__law_drawn.binds (ps := ["_law_state", "_law_many"]) fun _ _ _ _ _ _ us hl => match us, hl with | [_, _], _ => rfl
  have g__law_drawn := He.glo_ok X G (c.t.fact 13 (f := .glo "_law_drawn") rfl)
  obtain ⟨fd__law_same, F__law_same, z__law_same⟩ := EX.fun_of (st := d__law_same) c.t 14 (x := "_law_same") rfl (He.keep_ok (c.t.fact 60 (f := .keep "_law_same") rfl))
  have b__law_same := F__law_same.binds (ps := ["_law_found", "_law_due"]) fun _ _ _ _ _ _ us hl => match us, hl with | [_, _], _ => rfl
  have g__law_same := He.glo_ok X G (c.t.fact 14 (f := .glo "_law_same") rfl)
  obtain ⟨fd__law_kind, F__law_kind, z__law_kind⟩ := EX.fun_of (st := d__law_kind) c.t 15 (x := "_law_kind") rfl (He.keep_ok (c.t.fact 61 (f := .keep "_law_kind") rfl))
  have b__law_kind := F__law_kind.binds (ps := ["_law_work"]) fun _ _ _ _ _ _ us hl => match us, hl with | [_], _ => rfl
  have g__law_kind := He.glo_ok X G (c.t.fact 15 (f := .glo "_law_kind") rfl)
  obtain ⟨fd__law_far, F__law_far, z__law_far⟩ := EX.fun_of (st := d__law_far) c.t 16 (x := "_law_far") rfl (He.keep_ok (c.t.fact 62 (f := .keep "_law_far") rfl))
  have b__law_far := F__law_far.binds (ps := ["_law_state", "_law_most"]) fun _ _ _ _ _ _ us hl => match us, hl with | [_, _], _ => rfl
  have g__law_far := He.glo_ok X G (c.t.fact 16 (f := .glo "_law_far") rfl)
  obtain ⟨fd__law_boxes, F__law_boxes, z__law_boxes⟩ := EX.fun_of (st := d__law_boxes) c.t 17 (x := "_law_boxes") rfl (He.keep_ok (c.t.fact 63 (f := .keep "_law_boxes") rfl))
  have b__law_boxes := F__law_boxes.binds (ps := ["_law_state"]) fun _ _ _ _ _ _ us hl => match us, hl with | [_], _ => rfl
  have g__law_boxes := He.glo_ok X G (c.t.fact 17 (f := .glo "_law_boxes") rfl)
  obtain ⟨fd__law_worths, F__law_worths, z__law_worths⟩ := EX.fun_of (st := d__law_worths) c.t 18 (x := "_law_worths") rfl (He.keep_ok (c.t.fact 64 (f := .keep "_law_worths") rfl))
  have b__law_worths := F__law_worths.binds (ps := ["_law_state", "_law_boxes_here"]) fun _ _ _ _ _ _ us hl => match us, hl with | [_, _], _ => rfl
  have g__law_worths := He.glo_ok X G (c.t.fact 18 (f := .glo "_law_worths") rfl)
  obtain ⟨fd__law_moved, F__law_moved, z__law_moved⟩ := EX.fun_of (st := d__law_moved) c.t 19 (x := "_law_moved") rfl (He.keep_ok (c.t.fact 65 (f := .keep "_law_moved") rfl))
  have b__law_moved := F__law_moved.binds (ps := ["_law_worths_here", "_law_moves"]) fun _ _ _ _ _ _ us hl => match us, hl with | [_, _], _ => rfl
  have g__law_moved := He.glo_ok X G (c.t.fact 19 (f := .glo "_law_moved") rfl)
  obtain ⟨fd__law_move, F__law_move, z__law_move⟩ := EX.fun_of (st := d__law_move) c.t 20 (x := "_law_move") rfl (He.keep_ok (c.t.fact 66 (f := .keep "_law_move") rfl))
  have b__law_move := F__law_move.binds (ps := ["_law_state", "_law_boxes_here"]) fun _ _ _ _ _ _ us hl => match us, hl with | [_, _], _ => rfl
  have g__law_move := He.glo_ok X G (c.t.fact 20 (f := .glo "_law_move") rfl)
  obtain ⟨oc, od, osl, kV, doc, pm, an, cc, ct, lk, hcd, ec⟩ := EX.law_of (st := d_law) c.t 21 (x := "law") rfl
  refine ⟨PySem.W.fnOf "law" "law" (defArgs d_law) (defBody d_law) (defScope d_law) .none kV doc pm an (.ref cc) ct, [He.cT K ("law", none)], spLaw K (He.cT K ("law", none)).2, fun p hp => ?_, fun p hp => ?_, fun p hp => ?_, fun s u => .of_eq rfl, fun H a ns hl _ hH hS => ⟨a, ns, rfl, hS, hl, hH _ (List.mem_singleton.mpr rfl), fun _ => rfl⟩, fun base hK hB hTB => ?_⟩
  · rw [List.mem_singleton.mp hp]; exact c.empty _ (List.mem_singleton.mpr rfl)
  · rw [List.mem_singleton.mp hp]; exact c.out _ (List.mem_singleton.mpr rfl)
  · rw [List.mem_singleton.mp hp]; exact PySem.W.codeHd_of_K X (c.hd _ (List.mem_singleton.mpr rfl))
  · have TB := hTB _ (List.mem_singleton.mpr rfl)
    rw [ec] at TB
    have c0 : C8.Cal PySem.Challenge.pw_movesatonce_k03_single_moves w K mg base 1 "is_count" MV.spIsCount [] := cal_is_count T F_is_count b_is_count g_is_count (by walk_at "len") (fun vs H Q E h => MV.pure_is_count (K := K) (w := w) vs Q E h)
    have c1 : EX.CalX PySem.Challenge.pw_movesatonce_k03_single_moves w K mg base 2 "check_boxes" (MV.spCheckBoxes) := cal_check_boxes T F_check_boxes b_check_boxes g_check_boxes c0 (by omega) (by walk_at "len") (fun vs H Q E h => CX.pure_check_boxes (K := K) (w := w) vs Q E h)
    have c2 : C8.Cal PySem.Challenge.pw_movesatonce_k03_single_moves w K mg base 1 "is_box" (MV.spIsBox) [] := cal_is_box T F_is_box b_is_box g_is_box (by walk_at "len") (fun vs H Q E h => MV.pure_is_box (K := K) (w := w) vs Q E h)
    have c3 : EX.CalX PySem.Challenge.pw_movesatonce_k03_single_moves w K mg base 3 "check_lead" (MV.spCheckLead K) := cal_check_lead T F_check_lead b_check_lead g_check_lead c1 (by omega) c2 (by omega) (by walk_at "len") (fun vs H Q E h => CX.pure_check_lead (K := K) (w := w) vs Q E h)
    have c4 : C8.Cal PySem.Challenge.pw_movesatonce_k03_single_moves w K mg base 1 "real_pairs" (MV.spRealPairs K) [] := cal_real_pairs T F_real_pairs b_real_pairs g_real_pairs (by walk_at "len") (fun vs H Q E h => MV.pure_real_pairs (K := K) (w := w) vs Q E h)
    have c5 : EX.CalX PySem.Challenge.pw_movesatonce_k03_single_moves w K mg base 4 "at_once" (CX.spAtOnce K) := cal_at_once T F_at_once b_at_once g_at_once c3 (by omega) (by walk_at "len") (fun vs H Q E h => CX.pure_at_once (K := K) (w := w) vs Q E h)
    have c6 : C8.Cal PySem.Challenge.pw_movesatonce_k03_single_moves w K mg base 2 "can_be" (CX.spCanBe K) [] := cal_can_be T F_can_be b_can_be g_can_be c2 (by omega) (by walk_at "len") (fun vs H Q E h => CX.pure_can_be (K := K) (w := w) vs Q E h)
    have c7 : EX.CalX PySem.Challenge.pw_movesatonce_k03_single_moves w K mg base 3 "check_moves" (CX.spCheckMoves K) := cal_check_moves T F_check_moves b_check_moves g_check_moves c6 (by omega) (by walk_at "len") (fun vs H Q E h => CX.pure_check_moves (K := K) (w := w) vs Q E h)
    have c7b : C8.Cal PySem.Challenge.pw_movesatonce_k03_single_moves w K mg base 1 "do_move" (CX.spDoMove K) [] := cal_do_move T F_do_move b_do_move g_do_move (by walk_at "len") (fun vs H Q E h => CX.pure_do_move (K := K) (w := w) vs Q E h)
    have c8 : EX.CalX PySem.Challenge.pw_movesatonce_k03_single_moves w K mg base 4 "moved" (CX.spMoved K) := cal_moved T F_moved b_moved g_moved c1 (by omega) c7 (by omega) c7b (by omega) (by walk_at "len") (fun vs H Q E h => CX.pure_moved (K := K) (w := w) vs Q E h)
    have c9 : EX.CalX PySem.Challenge.pw_movesatonce_k03_single_moves w K mg base 2 "check_spares" (CX.spCheckSpares0 K) := cal_check_spares T F_check_spares b_check_spares g_check_spares c4 (by omega) c2 (by omega) (by walk_at "len") (fun vs H Q E h => CX.pure_check_spares0 (K := K) (w := w) vs Q E h)
    have c10 : EX.CalX PySem.Challenge.pw_movesatonce_k03_single_moves w K mg base 6 "does" (CX.spDoes0 K) := cal_does T F_does b_does g_does c3 (by omega) c9 (by omega) c5 (by omega) c8 (by omega) (by walk_at "len") (fun vs H Q E h => CX.pure_does0 (K := K) (w := w) vs Q E h)
    have c11 : C8.Cal PySem.Challenge.pw_movesatonce_k03_single_moves w K mg base 1 "_law_start" (MV.spStart K) [] := cal__law_start T F__law_start b__law_start g__law_start (by walk_at "len") (fun vs H Q E h => MV.pure_start (K := K) (w := w) vs H Q E h)
    have c12 : C8.Cal PySem.Challenge.pw_movesatonce_k03_single_moves w K mg base 1 "_law_drawn" (MV.spDrawn K) [] := cal__law_drawn T F__law_drawn b__law_drawn g__law_drawn (by walk_at "len") (fun vs H Q E h => MV.pure_drawn (K := K) (w := w) vs H Q E h)
    have c13 : ∀ n, C8.Cal PySem.Challenge.pw_movesatonce_k03_single_moves w K mg base n "_law_same" (MV.spSame K n) [] := fun n => by
      induction n with
      | zero => exact EX.cal_none F__law_same b__law_same g__law_same (fun vs H Q E h => by obtain ⟨G, d, x, y, _, _, _, _, _, z, _⟩ := h; exact absurd z (Nat.not_lt_zero _))
      | succ n ih => exact cal__law_same T F__law_same b__law_same g__law_same ih (Nat.le_refl _) (by walk_at "len") (fun vs H Q E h => MV.pure_same (K := K) (w := w) vs Q E h)
    have c14 : C8.Cal PySem.Challenge.pw_movesatonce_k03_single_moves w K mg base 2 "_law_boxes" (MV.spBoxes K) [] := cal__law_boxes T F__law_boxes b__law_boxes g__law_boxes c12 (by omega) (by walk_at "len") (fun vs H Q E h => MV.pure_boxes (K := K) (w := w) vs H Q E h)
    have c15 : C8.Cal PySem.Challenge.pw_movesatonce_k03_single_moves w K mg base 2 "_law_far" (CX.spFar K) [] := cal__law_far T F__law_far b__law_far g__law_far c12 (by omega) (by walk_at "len") (fun vs H Q E h => CX.pure_far (K := K) (w := w) vs Q E h)
    have c16 : C8.Cal PySem.Challenge.pw_movesatonce_k03_single_moves w K mg base 2 "_law_worths" (CX.spLawWorths K) [] := cal__law_worths T F__law_worths b__law_worths g__law_worths c12 (by omega) (by walk_at "len") (fun vs H Q E h => CX.pure_law_worths (K := K) (w := w) vs Q E h)
    have c17 : C8.Cal PySem.Challenge.pw_movesatonce_k03_single_moves w K mg base 1 "_law_moved" (CX.spLawMoved K) [] := cal__law_moved T F__law_moved b__law_moved g__law_moved (by walk_at "len") (fun vs H Q E h => CX.pure_law_moved (K := K) (w := w) vs Q E h)
    have c18 : C8.Cal PySem.Challenge.pw_movesatonce_k03_single_moves w K mg base 2 "_law_move" (CX.spLawMove K) [] := cal__law_move T F__law_move b__law_move g__law_move c12 (by omega) (by walk_at "len") (fun vs H Q E h => CX.pure_law_move (K := K) (w := w) vs Q E h)
    exact fn_law T (kl := 6) (by omega) c11 (by omega) c16 (by omega) c15 (by omega) c12 (by omega) c14 (by omega) c18 (by omega) c8 (by omega) (c13 4) (by omega) c17 (by omega) c10 (by omega) kc F__law_kind b__law_kind g__law_kind
      (fun cls d H Q h σ a D hl ha hD => EX.pure_kind (w := w) kc cls d H Q h σ a D hl ha hD) TB lk hcd (by walk_at "len") (fun vs H Q E h => pure_law (K := K) (w := w) _ vs Q E h)
end K03
open PySem PySem.W PySem.Calls PyProof.Rows
set_option maxHeartbeats 0 in
theorem PySem.Challenge.cw_movesatonce_k03_single_moves_holds : PySem.Challenge.rw_movesatonce_k03_single_moves.Holds := by
  w_on; o_law
  refine HandSHeadRun.head_any (r := OpenLaw.row PySem.Challenge.rw_movesatonce_k03_single_moves) (q := view (OpenLaw.row PySem.Challenge.rw_movesatonce_k03_single_moves).prog [39]) (H := K03.hk) (ob := K03.ob) (M := 4000) (loose := K03.loose) (d := HandSHeadRun.topDef (OpenLaw.row PySem.Challenge.rw_movesatonce_k03_single_moves).prog 39) (kwd := []) K03.ob_eq
    (by kernel_rfl) (fun s => by kernel_rfl) K03.run (by kernel_rfl) (by kernel_rfl) (by kernel_rfl) (by rfl) (by first | assumption | decide +kernel) (by decide +kernel) ⟨rfl, rfl, rfl, rfl, rfl, by decide +kernel⟩ ?hw ?hc
  case hw => w_witness2
  case hc =>
    refine LamX.walk_ofTsE (l := PySem.Challenge.rw_movesatonce_k03_single_moves) (n := 63) (k := 13) (x := "_law_script") (CX := fun _ => L2.CX0) rfl (by decide) (by kernel_rfl) ⟨rfl, by decide, by decide⟩ ?F (fun _ _ _ _ _ z => z)
    intro w mg f0 h Y G hmg0
    obtain ⟨K, KX, c⟩ := Y
    have hmg : mg ("law" : PySem.Str) = some (.ref f0) := by
      have e : (HandSHeadRun.topDef (OpenLaw.row PySem.Challenge.rw_movesatonce_k03_single_moves).prog 39).name = ("law" : PySem.Str) := by kernel_rfl
      rw [← e]
      exact hmg0
    exact ⟨K, KX, K03.facts KX G hmg c⟩
