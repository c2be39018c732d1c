import PyProof.Rows.All
import Wide.All
import OpenK.AllK
import Wide.FinOn
import HandS.ForMost
import HandS.Codes
import HandS.IsInst
import HandS.Strs
import HandS.Star
import HandS.Style
import HandS.SortInts
import HandS.Conv
import HandS.More
import HandS.Wide
import HandS.TupAny
import HandS.Flow
import PyProof.EqAt
import PyProof.EqKinds
import PyProof.TupleCall
import KE.KFromBytes
import KE.KExcSuper
import HandS.Base
import HandS.Call
import HandS.List
import HandS.Ends
import HandS.Exc
import HandS.ExcInit
import HandS.FStr
import KE.KExcIs
import HandS.ExcIs
import HandS.ExcField
import HandS.SetFor
import HandS.Lambda
import HandS.WordsExc
import HandS.ExcOwn
import HandS.HeadHook1
import HandS.Head0
import HandS.Head1
import HandS.Head2
import HandS.HeadEnd
import HandS.HeadHook2
import HandS.HeadHook3
import HandS.HeadHook4
import HandS.HeadWalk
import HandS.Deep
import HandS.TupSets
import HandS.Zip
import KE.GoesMore
import KE.GoesEnum
import KE.KDictZip
import HandS.GenList
import HandS.Text
import HandS.StrMore
import PySem.Challenge.RW_movesatonce_k13_written_and_read
set_option Elab.async false
set_option linter.all false
set_option maxRecDepth 100000
set_option maxHeartbeats 4000000
namespace MV
open PySem PySem.Spec PyProof.Rows L2
/-! ### what is known and stays (G), what stands (H); M: the addresses that may be written -/
structure Ext (M : List Addr) (G H G1 H1 : Hp) : Prop where
  g : Same G G1
  s : Same G1 H1
  h : ∀ b o, b ∉ M → H b = some o → H1 b = some o
  d : ∀ b, H1 b = none → H b = none
  n : ∀ b, G1 b = G b ∨ H b = none
section
variable {M : List Addr} {G H G1 H1 G2 H2 : Hp} {p : Addr} {o : HO}
theorem Ext.refl (s : Same G H) : Ext M G H G H := ⟨Same.refl _, s, fun _ _ _ h => h, fun _ h => h, fun _ => .inl rfl⟩
theorem Ext.trans (a : Ext M G H G1 H1) (b : Ext M G1 H1 G2 H2) : Ext M G H G2 H2 :=
  ⟨a.g.trans b.g, b.s, fun c u m h => b.h c u m (a.h c u m h), fun c h => a.d c (b.d c h), fun c => (b.n c).elim (fun e => (a.n c).elim (fun f => .inl (e.trans f)) .inr) fun e => .inr (a.d c e)⟩
theorem Ext.wide {M2 : List Addr} (a : Ext M G H G1 H1) (h : ∀ x, x ∈ M → x ∈ M2) : Ext M2 G H G1 H1 := ⟨a.g, a.s, fun c u m e => a.h c u (fun z => m (h c z)) e, a.d, a.n⟩
theorem Ext.to (a : Ext [] G H G1 H1) : Ext M G H G1 H1 := a.wide fun _ h => nomatch h
theorem Ext.same (a : Ext [] G H G1 H1) : Same H H1 := fun b u e => a.h b u (fun h => nomatch h) e
theorem Ext.keep (a : Ext M G H G1 H1) (h : H p = some o) (m : p ∉ M) : H1 p = some o := a.h p o m h
theorem Ext.keep0 (a : Ext [] G H G1 H1) (h : H p = some o) : H1 p = some o := a.same p o h
/-- what G does not know and stands stays unknown -/
theorem Ext.un (a : Ext M G H G1 H1) (g : G p = none) (h : H p = some o) : G1 p = none := by
  rcases a.n p with e | e
  · rw [e]; exact g
  · rw [h] at e; cases e
theorem same_put (s : Same G H) : Same (upd G p o) (upd H p o) := fun b u e => by
  by_cases h : b = p
  · subst h; rw [upd_same] at e ⊢; exact e
  · rw [upd_ne h] at e ⊢; exact s b u e
theorem same_new (h : H p = none) : Same H (upd H p o) := fun b u q => by rw [upd_ne (ne_of_none q h)]; exact q
theorem same_none (s : Same G H) (h : H p = none) : G p = none := s.free h
/-- a new object that nothing will write -/
theorem Ext.new (a : Ext M G H G1 H1) (h : H1 p = none) : Ext M G H (upd G1 p o) (upd H1 p o) :=
  ⟨a.g.trans (same_new (a.s.free h)), same_put a.s, fun b u m e => by rw [upd_ne (ne_of_none (a.h b u m e) h)]; exact a.h b u m e, fun b e => by
    by_cases q : b = p
    · subst q; rw [upd_same] at e; cases e
    · rw [upd_ne q] at e; exact a.d b e, fun b => by
    by_cases q : b = p
    · subst q; exact .inr (a.d _ h)
    · rw [upd_ne q]; exact a.n b⟩
/-- a new object that will be written -/
theorem Ext.tmp (a : Ext M G H G1 H1) (h : H1 p = none) : Ext M G H G1 (upd H1 p o) :=
  ⟨a.g, a.s.trans (same_new h), fun b u m e => by rw [upd_ne (ne_of_none (a.h b u m e) h)]; exact a.h b u m e, fun b e => by
    by_cases q : b = p
    · subst q; rw [upd_same] at e; cases e
    · rw [upd_ne q] at e; exact a.d b e, a.n⟩
theorem same_mut (s : Same G H) (g : G p = none) : Same G (upd H p o) := fun b u e => by rw [upd_ne (ne_of_none e g)]; exact s b u e
/-- .. is written -/
theorem Ext.mut (a : Ext M G H G1 H1) (h : H p = none) (g : G1 p = none) : Ext M G H G1 (upd H1 p o) :=
  ⟨a.g, same_mut a.s g, fun b u m e => by rw [upd_ne (ne_of_none e h)]; exact a.h b u m e, fun b e => by
    by_cases q : b = p
    · subst q; exact h
    · rw [upd_ne q] at e; exact a.d b e, a.n⟩
/-- one of M is written -/
theorem Ext.mutM (a : Ext M G H G1 H1) (m : p ∈ M) (g : G1 p = none) : Ext M G H G1 (upd H1 p o) :=
  ⟨a.g, same_mut a.s g, fun b u m2 e => by rw [upd_ne (fun z => m2 (by rw [z]; exact m))]; exact a.h b u m2 e, fun b e => by
    by_cases q : b = p
    · subst q; rw [upd_same] at e; cases e
    · rw [upd_ne q] at e; exact a.d b e, a.n⟩
/-- .. is written no more -/
theorem Ext.frz (a : Ext M G H G1 H1) (h : H p = none) (g : G1 p = none) (e : H1 p = some o) : Ext M G H (upd G1 p o) H1 :=
  ⟨a.g.trans (same_new g), fun b u q => by
    by_cases z : b = p
    · subst z; rw [upd_same] at q; cases q; exact e
    · rw [upd_ne z] at q; exact a.s b u q, a.h, a.d, fun b => by
    by_cases z : b = p
    · subst z; exact .inr h
    · rw [upd_ne z]; exact a.n b⟩
end
/-! ### data -/
section
variable {K : PySem.W.Frag} {H H1 : Hp}
theorem sqT_mono (e : Same H H1) {a : Addr} {xs : List V} (h : SqT K H a xs) : SqT K H1 a xs := by
  rcases h with (h | ⟨o, h⟩) | h
  · exact .inl (.inl (e _ _ h))
  · exact .inl (.inr ⟨o, e _ _ h⟩)
  · exact .inr h
mutual
theorem dp_mono (e : Same H H1) : ∀ (d : PyData) (v : V), Dp K H v d → Dp K H1 v d
  | .none, v, h => by cases h; exact .non
  | .bool b, v, h => by cases h; exact .bl b
  | .int i, v, h => by cases h; exact .int i
  | .str x, v, h => by cases h; exact .str x
  | .list ds, v, h => by
    cases h with
    | lst hs ha => exact .lst (e.seq hs) (dpAll_mono e ds _ ha)
  | .tuple ds, v, h => by
    cases h with
    | tup hs ha => exact .tup (sqT_mono e hs) (dpAll_mono e ds _ ha)
  | .dict _, v, h => nomatch h
theorem dpAll_mono (e : Same H H1) : ∀ (ds : List PyData) (vs : List V), DpAll K H vs ds → DpAll K H1 vs ds
  | [], vs, h => by cases h; exact .nil
  | d :: ds, vs, h => by
    cases h with
    | cons h1 h2 => exact .cons (dp_mono e d _ h1) (dpAll_mono e ds _ h2)
end
end
end MV
namespace MV
open PySem PySem.Spec PyProof.Rows L2
/-! ### min of a tuple of whole numbers -/
section
variable {prog : Program} {w : World} {A : Around} {E : Value → Shared → Prop} {s : Shared} {l : Addr} {xs : Array (Int × Tok)}
theorem iter_intTup {Q : Value → Shared → Prop} (hl : s.heap.IsTuple l (intItems xs))
    (h : ∀ s₂ : Shared, s₂ = { s with heap := s.heap.push { cls := .type "tuple_iterator", data := .fields #[.ref l, .int 0 0] } } →
      (s₂.heap.IsTupleIter s.heap.objs.size l 0 ∧ s₂.heap.IsTuple l (intItems xs)) → (∀ b ∈ [s.heap.objs.size, l], b < s₂.heap.objs.size) → l ≠ s.heap.objs.size → Q (.ref s.heap.objs.size) s₂) :
    wpAny (model prog w) A (pyIter (.ref l)) Q E s := by
  have hlt : l < s.heap.objs.size := by obtain ⟨_, e, _⟩ := hl; exact Heap.lt_size e
  refine wpAny_pyIter_tuple hl (h _ rfl ⟨⟨_, Heap.get?_push_size _ rfl, rfl, rfl⟩, hl.push _⟩ (fun b hb => ?_) (Nat.ne_of_lt hlt))
  show b < (s.heap.push _).objs.size
  rw [Heap.size_push]
  rcases List.mem_cons.mp hb with rfl | hb
  · exact Nat.lt_succ_self _
  · rcases List.mem_cons.mp hb with rfl | hb
    · exact Nat.lt_succ_of_lt hlt
    · cases hb
theorem old_keptT {h' : Heap} (hk : ∀ b o, b ∉ [s.heap.objs.size] → (s.heap.push { cls := .type "tuple_iterator", data := .fields #[.ref l, .int 0 0] }).get? b = some o → h'.get? b = some o) :
    ∀ b o, s.heap.get? b = some o → h'.get? b = some o := fun b o e => by
  refine hk b o (fun hm => ?_) (Heap.get?_push_of_some _ e)
  rcases List.mem_cons.mp hm with e1 | hm
  · exact absurd (e1 ▸ Heap.lt_size e) (Nat.lt_irrefl _)
  · cases hm
theorem min_intTup {Q : Value → Shared → Prop} (hh : A.handled = none) (hl : s.heap.IsTuple l (intItems xs)) (hne : 0 < xs.size)
    (h : ∀ v h' tk, (intItems xs)[argBest (fun i j => decide (numAt xs i < numAt xs j)) (xs.size - 1)]? = some v → (∀ b o, s.heap.get? b = some o → h'.get? b = some o) → Q v { s with heap := h', toks := tk }) :
    wpAny (model prog w) A (call (.builtin "min") [.ref l]) Q E s := by
  refine call_min_walk (iter_intTup hl fun s₂ e st hfp hlI => ?_)
  subst e
  refine ⟨_, _, _, _, _, _, _, rfl, Walks.tuple (A := A.in1) hh _ l hlI (intItems xs), st, hfp, by simpa [intItems] using hne, CmpOf.ints_lt (numAt xs) (fun _ _ => intItems_at), fun v h' tk hP hk => ?_⟩
  exact h v h' tk (by simpa [intItems] using hP) (old_keptT hk)
theorem min_rawT {its : List Value} {ns : List Int} {Q : Value → Shared → Prop} (hh : A.handled = none) (hl : s.heap.IsTuple l its.toArray) (hi : IntsAre its ns) (hne : 0 < ns.length)
    (h : ∀ h' tk M t', (∀ b o, s.heap.get? b = some o → h'.get? b = some o) → M ∈ ns → (∀ a, a ∈ ns → M ≤ a) → Q (.int M t') { s with heap := h', toks := tk }) : wpAny (model prog w) A (call (.builtin "min") [.ref l]) Q E s := by
  obtain ⟨xs, e⟩ := hi.allInts.items
  have hn : numsOf (intItems xs).toList = ns := by rw [← e]; exact hi.numsOf
  rw [nums_intItems] at hn
  subst hn
  rw [e] at hl
  have hsz : 0 < xs.size := by simpa using hne
  refine min_intTup hh hl hsz fun v h' tk hv hk => ?_
  obtain ⟨t, rfl⟩ := intItems_at hv
  obtain ⟨h1, h2⟩ := argBest_lt (numAt xs) (xs.size - 1)
  refine h h' tk _ t hk ?_ fun a ha => ?_
  · rw [numAt_eq]; exact PySem.getD_mem (by rw [List.length_map, Array.length_toList]; omega)
  · obtain ⟨j, hj, rfl⟩ := mem_getD ha
    rw [List.length_map, Array.length_toList] at hj
    rw [← numAt_eq]; exact h2 j (by omega)
end
section
variable {X : Cx}
def rMinT (K : PySem.W.Frag) : List V → Hp → VK → Prop := fun vs H Q => ∃ (a : Addr) (ns : List Int), vs = [V.ref a] ∧ SqT K H a (ns.map V.int) ∧ 0 < ns.length ∧ ∀ m, m ∈ ns → (∀ y, y ∈ ns → m ≤ y) → Q (.int m) H
theorem cr_minT (hc : X.calm = true) : CallR X (.builtin "min") (rMinT X.K) := by
  intro pins s σ H vs us Q I r h
  obtain ⟨a, ns, rfl, hs, hne, q⟩ := h
  obtain ⟨its, rv, hl, _⟩ := I.tuple hs
  rw [Vals.ref1 r]
  exact min_rawT (I.ok.hd hc) hl rv.ints hne fun h' tk m t' hk h1 h2 => ⟨.int _, H, I.kept hk, ⟨_, rfl⟩, q m h1 h2⟩
/-! ### xs[:0:-1] -/
theorem bounds_tailrev (n : Nat) : sliceBounds none (some 0) (some (-1)) n = ((n : Int) - 1, (if n = 0 then -1 else 0), -1) := by
  unfold sliceBounds
  by_cases h : n = 0
  · subst h; rfl
  · simp [h]
    try omega
theorem range_tailrev (n : Nat) (h : 0 < n) : sliceRange ((n : Int) - 1) 0 (-1) = (List.range (n - 1)).map fun k => n - 1 - k := by
  unfold sliceRange
  have h1 : ¬ ((-1 : Int) > 0) := by decide
  by_cases h2 : (n : Int) - 1 > 0
  · have e : ((n : Int) - 1 - 0 - -1 - 1) / (- -1) = ((n - 1 : Nat) : Int) := by
      rw [show (- -1 : Int) = 1 by decide, Int.ediv_one]
      omega
    simp only [h1, if_false, h2, if_true, e, Int.toNat_natCast]
    apply List.map_congr_left
    intro k hk
    have := List.mem_range.mp hk
    omega
  · have e : n = 1 := by omega
    subst e
    simp
theorem pick_tailrev (items : Array Value) : slicePick items none (some 0) (some (-1)) = (items.toList.drop 1).reverse.toArray := by
  unfold slicePick
  rw [bounds_tailrev]
  by_cases h : items.size = 0
  · have e : items = #[] := Array.eq_empty_of_size_eq_zero h
    subst e
    rfl
  · rw [if_neg h]
    show ((sliceRange ((items.size : Int) - 1) 0 (-1)).filterMap (items[·]?)).toArray = _
    rw [range_tailrev items.size (by omega)]
    have h0 := pick_run items 1 (items.size - 1)
    have hr : (List.range (items.size - 1)).map (fun k => items.size - 1 - k) = ((List.range (items.size - 1)).map (1 + ·)).reverse := by
      apply List.ext_getElem
      · simp
      · intro i h1 h2
        rw [List.length_map, List.length_range] at h1
        rw [List.getElem_map, List.getElem_reverse]
        simp
        omega
    rw [hr, List.filterMap_reverse, h0, List.take_of_length_le (by simp)]
/-- xs[:0:-1]: from the last one back to the second one -/
def tTailRev (K : PySem.W.Frag) (te : TE) : TE := fun σ H Q => te σ H fun x H1 => ∃ a xs, x = .ref a ∧ SqL K H1 a xs ∧ ∀ p, H1 p = none → Q (.ref p) (upd H1 p (.lst (xs.drop 1).reverse))
theorem pe_tailRev {e : Expr} {te : TE} {k k0 : Nat} {p0 p1 p2 p3 pos : Pos} (he : PE X e te) : PE X (.Subscript e (.Slice none (some (.Constant (.int 0) k0 p0)) (some (.UnaryOp .USub (.Constant (.int 1) k p1) p2)) p3) pos) (tTailRev X.K te) := by
  refine ⟨fun pins s σ H Q I h => ?_⟩
  refine Subscript_ (thn (he.run pins s σ H _ I h) fun v s1 ⟨x, H1, I1, r1, q1⟩ => ?_)
  obtain ⟨a, xs, ex, hx, q⟩ := q1
  subst ex
  cases r1
  have hu : PO X (some (.Constant (.int 0) k0 p0)) (tPart (tC (.int 0))) := po_some pe_int
  have hst : PO X (some (.UnaryOp .USub (.Constant (.int 1) k p1) p2)) (tPart (tUn (rU fun i => .int (-i)) (tC (.int 1)))) := po_some (pe_un un_neg pe_int)
  refine wpAny_Slice (thn (po_none.run pins s1 σ H1 (fun o H2 => o = none ∧ H2 = H1) I1 ⟨rfl, rfl⟩) fun vl s2 ⟨l, H2, I2, pl, el, e2⟩ => ?_)
  subst el e2
  refine thn (hu.run pins s2 σ H2 (fun o H3 => o = some 0 ∧ H3 = H2) I2 ⟨0, rfl, rfl, rfl⟩) fun vu s3 ⟨u, H3, I3, pu, eu, e3⟩ => ?_
  subst eu e3
  refine thn (hst.run pins s3 σ H3 (fun o H4 => o = some (-1) ∧ H4 = H3) I3 ⟨1, rfl, -1, rfl, rfl, rfl⟩) fun vs s4 ⟨o, H4, I4, ps, eo, e4⟩ => ?_
  subst eo e4
  have I5 : Inv X pins σ H4 { s4 with heap := s4.heap.push { cls := .type "slice", data := .fields #[vl, vu, vs] } } := I4.kept (t' := s4.toks) fun b ob q => Heap.get?_push_of_some _ q
  obtain ⟨its, r, ht, hz⟩ := I5.list hx
  have hlen := r.length
  show wpAny (model X.prog X.w) X.A (subscriptTail e (.Slice none (some (.Constant (.int 0) k0 p0)) (some (.UnaryOp .USub (.Constant (.int 1) k p1) p2)) p3) (.ref a) (.ref s4.heap.objs.size)) (EP X pins σ Q) X.xe { s4 with heap := s4.heap.push { cls := .type "slice", data := .fields #[vl, vu, vs] } }
  refine tail_any (ops := [.ref a, .ref s4.heap.objs.size]) ht.isList.typeIs (PySem.slot_list_getitem.lookup) ?_ (by with_unfolding_all rfl)
  refine wpAny_getItem_list_slice ht.isList (Heap.IsSliceOf.new _ vl vu vs) pl pu ps (by decide) ?_ (by rw [List.size_toArray]; omega)
  rw [pick_tailrev]
  refine ⟨.ref _, _, I5.laid (t' := s4.toks) (o := .lst (xs.drop 1).reverse) (fun b ob q => Heap.get?_push_of_some _ q) (Nat.le_refl _) ?_, rfl, q _ (I5.hok.fresh (Nat.le_refl _))⟩
  refine ⟨by rw [List.length_reverse, List.length_drop]; omega, _, 0, (r.drop 1).reverse, Heap.get?_push_size _ rfl⟩
end
end MV
namespace MV
open PySem PySem.Spec PyProof.Rows L2
def vAdd : R2 := rI0 fun i j => .int (i + j)
def vSub : R2 := rI0 fun i j => .int (i - j)
def vMul : R2 := rI CMul fun i j => .int (i * j)
def vMod : R2 := rI (fun _ j => 0 < j) fun i j => .int (i % j)
def vDiv : R2 := rI CDivW fun i j => .int (i / j)
def vPow : R2 := rI CPow fun i j => .int (i ^ j.toNat)
def vNeg : V → Hp → VK → Prop := rU fun i => .int (-i)
def vLt : R2 := rI0 fun i j => .bl (decide (i < j))
def vLe : R2 := rI0 fun i j => .bl (decide (i ≤ j))
def vGt : R2 := rI0 fun i j => .bl (decide (j < i))
def vGe : R2 := rI0 fun i j => .bl (decide (j ≤ i))
def vIsN : R2 := fun x y H Q => y = .non ∧ Q (.bl (decide (x = .non))) H
def vNotN : R2 := fun x y H Q => y = .non ∧ Q (.bl (!decide (x = .non))) H
def vLen (K : PySem.W.Frag) : List V → Hp → VK → Prop := fun xs H Q => ∃ p ys, xs = [.ref p] ∧ (SqL K H p ys ∨ SqT K H p ys) ∧ Q (.int ys.length) H
def vLenD : List V → Hp → VK → Prop := fun xs H Q => ∃ a kvs, xs = [V.ref a] ∧ H a = some (.dK kvs) ∧ Q (.int kvs.length) H
def vListOf (K : PySem.W.Frag) : List V → Hp → VK → Prop := fun xs H Q => ∃ p ys, xs = [.ref p] ∧ (SqL K H p ys ∨ SqT K H p ys) ∧ ∀ l, H l = none → Q (.ref l) (upd H l (.lst ys))
def vTupleOf (K : PySem.W.Frag) : List V → Hp → VK → Prop := fun xs H Q => ∃ p ys, xs = [.ref p] ∧ ((SqL K H p ys ∧ ∀ l, H l = none → Q (.ref l) (upd H l (.tup ys))) ∨ (SqT K H p ys ∧ Q (.ref p) H))
def vDictP (K : PySem.W.Frag) : List V → Hp → VK → Prop := fun xs H Q => ∃ (a : Addr) (ps : List Addr) (kvs : List (Key × V)), xs = [.ref a] ∧ SqL K H a (ps.map V.ref) ∧ Paired (fun p kv => SqT K H p [kV kv.1, kv.2]) ps kvs ∧
    ∀ p, H p = none → Q (.ref p) (upd H p (.dK (mergeK [] kvs)))
def vSortedDI : List V → Hp → VK → Prop := fun xs H Q => ∃ (a : Addr) (kvs : List (Key × V)) (ks : List Int), xs = [.ref a] ∧ Rd H a (.dK kvs) ∧ kvs.map (·.1) = ks.map Sum.inl ∧ ks.length < 64 ∧
    ∀ (ys : List Int) (p : Addr), ys.Perm ks → ys.Pairwise (· ≤ ·) → H p = none → Q (.ref p) (upd H p (.lst (ys.map V.int)))
def vMax2 : List V → Hp → VK → Prop := fun xs H Q => ∃ i j, xs = [.int i, .int j] ∧ Q (.int (if j > i then j else i)) H
def vMin2 : List V → Hp → VK → Prop := fun xs H Q => ∃ i j, xs = [.int i, .int j] ∧ Q (.int (if j < i then j else i)) H
def vTru (K : PySem.W.Frag) (ta : TE) : TT := fun σ H Q => ta σ H fun x H' => ∃ k, TruV K x H' k ∧ Q k H'
def vAddS : R2 := fun x y H Q => ∃ i j, x = .str i ∧ y = .str j ∧ i.length + j.length ≤ sizeLine ∧ Q (.str (i ++ j)) H
def vLtS : R2 := fun x y H Q => ∃ i j, x = .str i ∧ y = .str j ∧ Q (.bl (decide (i.cps.toList < j.cps.toList))) H
section
variable {σ : L2.St} {H : Hp} {Q : VK} {QB : Bool → Hp → Prop} {QA : List V → Hp → Prop} {i j : Int} {v x y : V} {r : R2} {ta tb te : TE} {t u : TT} {D : Ends} {ts tu : TS} {K : PySem.W.Frag} {n : Nat} {g : TG} {A : TA}
theorem k_var {m : Nat} (h : σ[m]? = some (some v)) (q : Q v H) : tVar m σ H Q := ⟨v, h, q⟩
theorem k_c (q : Q v H) : tC v σ H Q := q
theorem k_op (q : ta σ H fun x H1 => tb σ H1 fun y H2 => r x y H2 Q) : tOp r ta tb σ H Q := q
theorem k_un {r : V → Hp → VK → Prop} (q : ta σ H fun x H1 => r x H1 Q) : tUn r ta σ H Q := q
theorem k_add (q : Q (.int (i + j)) H) : vAdd (.int i) (.int j) H Q := ⟨i, j, rfl, rfl, q⟩
theorem k_sub (q : Q (.int (i - j)) H) : vSub (.int i) (.int j) H Q := ⟨i, j, rfl, rfl, q⟩
theorem k_mul (h : CMul i j) (q : Q (.int (i * j)) H) : vMul (.int i) (.int j) H Q := ⟨i, j, rfl, rfl, h, q⟩
theorem k_mod (h : 0 < j) (q : Q (.int (i % j)) H) : vMod (.int i) (.int j) H Q := ⟨i, j, rfl, rfl, h, q⟩
theorem k_div (h : CDivW i j) (q : Q (.int (i / j)) H) : vDiv (.int i) (.int j) H Q := ⟨i, j, rfl, rfl, h, q⟩
theorem k_pow (h : CPow i j) (q : Q (.int (i ^ j.toNat)) H) : vPow (.int i) (.int j) H Q := ⟨i, j, rfl, rfl, h, q⟩
theorem k_neg (q : Q (.int (-i)) H) : vNeg (.int i) H Q := ⟨i, rfl, q⟩
theorem k_lt (q : Q (.bl (decide (i < j))) H) : vLt (.int i) (.int j) H Q := ⟨i, j, rfl, rfl, q⟩
theorem k_le (q : Q (.bl (decide (i ≤ j))) H) : vLe (.int i) (.int j) H Q := ⟨i, j, rfl, rfl, q⟩
theorem k_gt (q : Q (.bl (decide (j < i))) H) : vGt (.int i) (.int j) H Q := ⟨i, j, rfl, rfl, q⟩
theorem k_ge (q : Q (.bl (decide (j ≤ i))) H) : vGe (.int i) (.int j) H Q := ⟨i, j, rfl, rfl, q⟩
theorem k_eqI (q : Q (.bl (decide (i = j))) H) : rEq (.int i) (.int j) H Q := ⟨rfl, by
  have e : decide (V.int i = V.int j) = decide (i = j) := by
    by_cases h : i = j
    · subst h; simp
    · have : ¬ V.int i = V.int j := fun z => h (V.int.inj z)
      rw [decide_eq_false h, decide_eq_false this]
  rw [e]; exact q⟩
theorem k_neI (q : Q (.bl (!decide (i = j))) H) : rNe (.int i) (.int j) H Q := ⟨rfl, by
  have e : decide (V.int i = V.int j) = decide (i = j) := by
    by_cases h : i = j
    · subst h; simp
    · have : ¬ V.int i = V.int j := fun z => h (V.int.inj z)
      rw [decide_eq_false h, decide_eq_false this]
  rw [e]; exact q⟩
theorem k_eq (s : scal x y = true) (q : Q (.bl (decide (x = y))) H) : rEq x y H Q := ⟨s, q⟩
theorem k_ne (s : scal x y = true) (q : Q (.bl (!decide (x = y))) H) : rNe x y H Q := ⟨s, q⟩
theorem k_isN (q : Q (.bl (decide (x = .non))) H) : vIsN x .non H Q := ⟨rfl, q⟩
theorem k_notN (q : Q (.bl (!decide (x = .non))) H) : vNotN x .non H Q := ⟨rfl, q⟩
theorem k_test (q : ta σ H fun x H1 => ∃ k, x = .bl k ∧ QB k H1) : tTest ta σ H QB := q
theorem k_B (q : ta σ H fun x H1 => ∃ k, x = .bl k ∧ QB k H1) : tB ta σ H QB := q
theorem k_bl {k : Bool} (q : QB k H) : ∃ k', V.bl k = .bl k' ∧ QB k' H := ⟨k, rfl, q⟩
theorem k_blV {k : Bool} {R : Bool → Prop} (q : R k) : ∃ k', V.bl k = .bl k' ∧ R k' := ⟨k, rfl, q⟩
theorem k_and (q : t σ H fun c H1 => if c = true then u σ H1 QB else QB false H1) : tAnd t u σ H QB := q
theorem k_or (q : t σ H fun c H1 => if c = true then QB true H1 else u σ H1 QB) : tOr t u σ H QB := q
theorem k_not (q : t σ H fun c H1 => QB (!c) H1) : tNot t σ H QB := q
theorem k_andV (q : ta σ H fun x H1 => ∃ c, x = .bl c ∧ if c = true then tb σ H1 Q else Q (.bl false) H1) : tAndV ta tb σ H Q := q
theorem k_orV (q : ta σ H fun x H1 => ∃ c, x = .bl c ∧ if c = true then Q (.bl true) H1 else tb σ H1 Q) : tOrV ta tb σ H Q := q
theorem k_notV (q : ta σ H fun x H1 => ∃ c, x = .bl c ∧ Q (.bl (!c)) H1) : tNotV ta σ H Q := q
theorem k_if (q : t σ H fun c H1 => if c = true then ta σ H1 Q else tb σ H1 Q) : tIf t ta tb σ H Q := q
theorem k_tru (q : ta σ H fun x H1 => ∃ k, TruV K x H1 k ∧ QB k H1) : vTru K ta σ H QB := q
theorem k_chain {r' : R2} {tc : TE} (q : ta σ H fun x H1 => tb σ H1 fun y H2 => r x y H2 fun z H3 => ∃ k, z = .bl k ∧ (if k = true then tc σ H3 fun w' H4 => r' y w' H4 Q else Q (.bl false) H3)) : tChain r r' ta tb tc σ H Q := q
theorem k_seq (q : ts { D with nx := tu D } σ H) : tSeq ts tu D σ H := q
theorem k_next (q : D.nx σ H) : tNext D σ H := q
theorem k_asg (q : te σ H fun x H1 => g x σ H1 D.nx) : tAsg te g D σ H := q
theorem k_name {R : L2.St → Hp → Prop} (q : R (σ.set n (some v)) H) : gName n v σ H R := q
theorem k_drop (q : te σ H fun _ H1 => D.nx σ H1) : tDrop te D σ H := q
theorem k_ret (q : te σ H D.rt) : tRet te D σ H := q
theorem k_retN (q : D.rt .non H) : tRetN D σ H := q
theorem k_ifS (q : t σ H fun b H1 => if b = true then ts D σ H1 else tu D σ H1) : tIfS t ts tu D σ H := q
theorem k_brk (q : D.bk σ H) : tBreak D σ H := q
theorem k_cont (q : D.ct σ H) : tCont D σ H := q
theorem k_nil (q : QA [] H) : tNil σ H QA := q
theorem k_cons (q : te σ H fun x H1 => A σ H1 fun xs H2 => QA (x :: xs) H2) : tCons te A σ H QA := q
theorem k_tup (q : A σ H fun xs H1 => xs.length ≤ sizeLine ∧ ∀ p, H1 p = none → Q (.ref p) (upd H1 p (.tup xs))) : tTup A σ H Q := q
theorem k_lst (q : A σ H fun xs H1 => xs.length ≤ sizeLine ∧ ∀ p, H1 p = none → Q (.ref p) (upd H1 p (.lst xs))) : tLst A σ H Q := q
theorem k_cb {r : List V → Hp → VK → Prop} (q : A σ H fun vs H1 => r vs H1 Q) : tCB r A σ H Q := q
theorem k_call {sp : Sp} {E : XK} (q : A σ H fun vs H1 => sp vs H1 Q E) : tCall sp [] E A σ H Q := by
  have e : (fun vs H1 => sp (vs ++ []) H1 Q E) = fun vs H1 => sp vs H1 Q E := by funext vs H1; rw [List.append_nil]
  show A σ H fun vs H1 => sp (vs ++ []) H1 Q E
  rw [e]; exact q
theorem k_tupN {K : PySem.W.Frag} {a : Addr} {xs : List V} {gs : TGs} {R : L2.St → Hp → Prop} (h : SqT K H a xs) (hl : xs.length = n) (q : gs xs σ H R) : gTup K n gs (.ref a) σ H R := ⟨a, xs, rfl, h, hl, q⟩
theorem k_gnil {R : L2.St → Hp → Prop} (q : R σ H) : gNil [] σ H R := ⟨rfl, q⟩
theorem k_gcons {vs : List V} {gs : TGs} {R : L2.St → Hp → Prop} (q : g v σ H fun σ' H' => gs vs σ' H' R) : gCons g gs (v :: vs) σ H R := ⟨v, vs, rfl, q⟩
theorem k_gsub {o ti : TE} {w : TSet} {R : L2.St → Hp → Prop} (q : o σ H fun o H1 => ti σ H1 fun i H2 => w o i v H2 fun H3 => R σ H3) : gSub o ti w v σ H R := q
theorem k_bm {T : String} {r : V → List V → Hp → VK → Prop} (q : ta σ H fun x H1 => tyV K T x H1 ∧ A σ H1 fun xs H2 => r x xs H2 Q) : tBM K T r ta A σ H Q := q
theorem k_bm0 {T : String} {r : V → List V → Hp → VK → Prop} (q : ta σ H fun x H1 => tyV K T x H1 ∧ r x [] H1 Q) : tBM0 K T r ta σ H Q := q
theorem k_ixL {p : Addr} {xs : List V} (h : SqL K H p xs) (ha : atI xs i = some v) (q : Q v H) : rIxL K (.ref p) (.int i) H Q := ⟨p, xs, i, v, rfl, rfl, h, ha, q⟩
theorem k_ixT {p : Addr} {xs : List V} (h : SqT K H p xs) (ha : atI xs i = some v) (q : Q v H) : rIxT K (.ref p) (.int i) H Q := ⟨p, xs, i, v, rfl, rfl, h, ha, q⟩
theorem k_setL {p : Addr} {xs : List V} {j : Nat} {R : Hp → Prop} (h : H p = some (.lst xs)) (hj : ixN xs.length i = some j) (q : R (upd H p (.lst (xs.set j v)))) : rSetL (.ref p) (.int i) v H R := ⟨p, xs, i, j, rfl, rfl, h, hj, q⟩
theorem k_len {p : Addr} {ys : List V} (h : SqL K H p ys ∨ SqT K H p ys) (q : Q (.int ys.length) H) : vLen K [.ref p] H Q := ⟨p, ys, rfl, h, q⟩
theorem k_append {l : Addr} {xs : List V} (h : H l = some (.lst xs)) (hz : xs.length < sizeLine) (q : Q .non (upd H l (.lst (xs ++ [y])))) : rAppend (.ref l) [y] H Q := ⟨l, xs, y, rfl, rfl, h, hz, q⟩
theorem k_seqTrue {A B : Prop} (h : A) : if true = true then A else B := iteT h
theorem k_seqFalse {A B : Prop} (h : B) : if false = true then A else B := iteF h
theorem k_true {c : Prop} [Decidable c] {A B : Prop} (hc : c) (h : A) : if decide c = true then A else B := by rw [decide_eq_true hc]; exact iteT h
theorem k_false {c : Prop} [Decidable c] {A B : Prop} (hc : ¬ c) (h : B) : if decide c = true then A else B := by rw [decide_eq_false hc]; exact iteF h
theorem k_both {c : Prop} [Decidable c] {A B : Prop} (h : c → A) (h2 : ¬ c → B) : if decide c = true then A else B := by
  by_cases hc : c
  · exact k_true hc (h hc)
  · exact k_false hc (h2 hc)
theorem k_ntrue {c : Prop} [Decidable c] {A B : Prop} (hc : ¬ c) (h : A) : if (!decide c) = true then A else B := by rw [decide_eq_false hc]; exact iteT h
theorem k_nfalse {c : Prop} [Decidable c] {A B : Prop} (hc : c) (h : B) : if (!decide c) = true then A else B := by rw [decide_eq_true hc]; exact iteF h
theorem k_nboth {c : Prop} [Decidable c] {A B : Prop} (h : ¬ c → A) (h2 : c → B) : if (!decide c) = true then A else B := by
  by_cases hc : c
  · exact k_nfalse hc (h2 hc)
  · exact k_ntrue hc (h hc)
theorem sz1 {n : Nat} (h : n ≤ 100000) : n ≤ sizeLine := by rw [sizeLine_eq]; omega
theorem sz2 {n : Nat} (h : n < 100000) : n < sizeLine := by rw [sizeLine_eq]; omega
end
local macro_rules | `(tactic| walk_at "go") => `(tactic| repeat (first
  | with_reducible refine k_seq ?_ | with_reducible refine k_asg ?_ | with_reducible refine k_name ?_ | with_reducible refine k_op ?_ | (with_reducible refine k_var ?hv ?_; (case hv => exact rfl)) | with_reducible refine k_c ?_
  | with_reducible refine k_add ?_ | with_reducible refine k_sub ?_ | with_reducible refine k_lt ?_ | with_reducible refine k_le ?_ | with_reducible refine k_gt ?_ | with_reducible refine k_ge ?_ | with_reducible refine k_eqI ?_ | with_reducible refine k_neI ?_
  | with_reducible refine k_test ?_ | with_reducible refine k_B ?_ | with_reducible refine k_bl ?_ | with_reducible refine k_blV ?_ | with_reducible refine k_and ?_ | with_reducible refine k_or ?_ | with_reducible refine k_not ?_ | with_reducible refine k_andV ?_ | with_reducible refine k_orV ?_ | with_reducible refine k_notV ?_
  | with_reducible refine k_if ?_ | with_reducible refine k_tru ?_ | with_reducible refine k_chain ?_ | with_reducible refine k_next ?_ | with_reducible refine k_drop ?_ | with_reducible refine k_ret ?_ | with_reducible refine k_retN ?_ | with_reducible refine k_ifS ?_ | with_reducible refine k_brk ?_ | with_reducible refine k_cont ?_
  | with_reducible refine k_nil ?_ | with_reducible refine k_cons ?_ | with_reducible refine k_tup ?_ | with_reducible refine k_lst ?_ | with_reducible refine k_cb ?_ | with_reducible refine k_call ?_ | with_reducible refine k_gnil ?_ | with_reducible refine k_gcons ?_ | with_reducible refine k_gsub ?_
  | with_reducible refine k_bm ?_ | with_reducible refine k_bm0 ?_ | with_reducible refine k_un ?_ | with_reducible refine k_neg ?_ | with_reducible refine k_isN ?_ | with_reducible refine k_notN ?_ | with_reducible refine iteT ?_ | with_reducible refine iteF ?_))
end MV
namespace MV
open PySem PySem.Spec PyProof.Rows L2
section
variable {M : List Addr} {G H G1 H1 G2 H2 : Hp} {p a : Addr} {o u f : HO} {K : PySem.W.Frag}
theorem Ext.back (e : Ext M G H G1 H1) (s : Same G H) : Ext M G H G H1 := ⟨Same.refl _, e.g.trans e.s, e.h, e.d, fun _ => .inl rfl⟩
/-- a new address is none of those that may be written any more -/
theorem Ext.drop (e : Ext M G H G1 H1) (x : Ext (p :: M) G1 H1 G2 H2) (h : H p = none) : Ext M G H G2 H2 :=
  ⟨e.g.trans x.g, x.s, fun b u m q => x.h b u (fun z => (List.mem_cons.mp z).elim (fun y => by rw [y, h] at q; cases q) m) (e.h b u m q), fun b q => e.d b (x.d b q), fun b => (x.n b).elim (fun y => (e.n b).elim (fun z => .inl (y.trans z)) .inr) fun y => .inr (e.d b y)⟩
theorem Ext.fin {M2 : List Addr} (e : Ext M G H G1 H1) (x : Ext M2 G1 H1 G2 H2) (h : ∀ p, p ∈ M2 → p ∈ M ∨ H p = none) : Ext M G H G2 H2 :=
  ⟨e.g.trans x.g, x.s, fun b u m q => x.h b u (fun z => (h b z).elim m fun y => by rw [y] at q; cases q) (e.h b u m q), fun b q => e.d b (x.d b q), fun b => (x.n b).elim (fun y => (e.n b).elim (fun z => .inl (y.trans z)) .inr) fun y => .inr (e.d b y)⟩
theorem Ext.cons (e : Ext M G H G1 H1) : Ext (p :: M) G H G1 H1 := e.wide fun _ h => List.mem_cons_of_mem _ h
theorem Ext.out (e : Ext M G H G1 H1) (hM : ∀ m, m ∈ M → H m ≠ none) : ∀ m, m ∈ M → H1 m ≠ none := fun m h z => hM m h (e.d m z)
theorem Ext.sqL (e : Ext M G H G1 H1) {xs : List V} (h : SqL K G a xs) : SqL K G1 a xs := e.g.seq h
theorem Ext.sqT (e : Ext M G H G1 H1) {xs : List V} (h : SqT K G a xs) : SqT K G1 a xs := sqT_mono e.g h
theorem Ext.dp (e : Ext M G H G1 H1) {v : V} {d : PyData} (h : Dp K G v d) : Dp K G1 v d := dp_mono e.g d v h
theorem Ext.dpA (e : Ext M G H G1 H1) {v : List V} {d : List PyData} (h : DpAll K G v d) : DpAll K G1 v d := dpAll_mono e.g d v h
/-- a thing of G is locked, and then not any more -/
theorem Ext.unlock (e : Ext M (upd G p f) (upd H p f) G1 H1) (s : Same G H) (g : G p = some u) (hm : p ∉ M) : Ext M G H (upd G1 p u) (upd H1 p u) := by
  have hp : H p = some u := s p u g
  refine ⟨fun b o q => ?_, same_put e.s, fun b o m q => ?_, fun b q => ?_, fun b => ?_⟩
  · by_cases h : b = p
    · subst h; rw [upd_same]; rw [g] at q; exact q
    · rw [upd_ne h]; exact e.g b o (by rw [upd_ne h]; exact q)
  · by_cases h : b = p
    · subst h; rw [upd_same]; rw [hp] at q; exact q
    · rw [upd_ne h]; exact e.h b o m (by rw [upd_ne h]; exact q)
  · by_cases h : b = p
    · subst h; rw [upd_same] at q; cases q
    · rw [upd_ne h] at q; have := e.d b q; rwa [upd_ne h] at this
  · by_cases h : b = p
    · subst h; rw [upd_same]; exact .inl g.symm
    · rw [upd_ne h]
      rcases e.n b with q | q
      · rw [upd_ne h] at q; exact .inl q
      · rw [upd_ne h] at q; exact .inr q
theorem dpAll_get : ∀ {xs : List V} {ds : List PyData}, DpAll K H xs ds → ∀ {i : Nat} {x : V}, xs[i]? = some x → ∃ d, ds[i]? = some d ∧ Dp K H x d
  | [], _, _, i, x, hx => by simp at hx
  | y :: ys, _, h, i, x, hx => by
    cases h with
    | cons h1 h2 =>
      cases i with
      | zero => simp at hx; subst hx; exact ⟨_, rfl, h1⟩
      | succ n => simp at hx; obtain ⟨d, e, q⟩ := dpAll_get h2 hx; exact ⟨d, by simpa using e, q⟩
theorem dpAll_len : ∀ {xs : List V} {ds : List PyData}, DpAll K H xs ds → xs.length = ds.length
  | [], _, h => by cases h; rfl
  | y :: ys, _, h => by cases h with
    | cons _ h2 => simp [dpAll_len h2]
theorem dpAll_app : ∀ {xs ys : List V} {ds es : List PyData}, DpAll K H xs ds → DpAll K H ys es → DpAll K H (xs ++ ys) (ds ++ es)
  | [], _, _, _, h, h2 => by cases h; exact h2
  | y :: ys, _, _, _, h, h2 => by cases h with
    | cons a b => exact .cons a (dpAll_app b h2)
theorem dpAll_one {x : V} {d : PyData} (h : Dp K H x d) : DpAll K H [x] [d] := .cons h .nil
theorem dpAll_ints (ns : List Int) : DpAll K H (ns.map V.int) (ns.map PyData.int) := by
  induction ns with
  | nil => exact .nil
  | cons n r ih => exact .cons (.int n) ih
theorem dpAll_of_ints {xs : List V} {ns : List Int} (h : DpAll K H xs (ns.map PyData.int)) : xs = ns.map V.int := by
  induction ns generalizing xs with
  | nil => cases h; rfl
  | cons n r ih => cases h with
    | cons h1 h2 => cases h1; rw [ih h2]; rfl
theorem dp_list {v : V} {ds : List PyData} (h : Dp K H v (.list ds)) : ∃ a xs, v = .ref a ∧ SqL K H a xs ∧ DpAll K H xs ds := by
  cases h with
  | lst hs ha => exact ⟨_, _, rfl, hs, ha⟩
theorem dp_tuple {v : V} {ds : List PyData} (h : Dp K H v (.tuple ds)) : ∃ a xs, v = .ref a ∧ SqT K H a xs ∧ DpAll K H xs ds := by
  cases h with
  | tup hs ha => exact ⟨_, _, rfl, hs, ha⟩
theorem dp_int {v : V} {n : Int} (h : Dp K H v (.int n)) : v = .int n := by cases h; rfl
end
section
variable {M : List Addr} {G H : Hp} {a : Addr} {xs : List V} {K : PySem.W.Frag} {σ : L2.St} {Q : VK} {tl : TE} {g : TG} {tt : TT} {te : TE} {vs : List Nat} {D : Ends} {tb : TS}
theorem k_yes {H : Hp} {σ : L2.St} {QB : Bool → Hp → Prop} (q : QB true H) : tYes σ H QB := q
theorem k_dput {td ty tv : TE} (q : tv σ H fun v H1 => td σ H1 fun x H2 => ty σ H2 fun y H3 => ∃ a H4, x = .ref a ∧ DPut H3 a y v H4 ∧ D.nx σ H4) : sDPut td ty tv D σ H := q
theorem k_dget {td ty : TE} (q : td σ H fun x H1 => ty σ H1 fun y H2 => ∃ a v, x = .ref a ∧ DGet H2 a y (some v) ∧ Q v H2) : tDGet td ty σ H Q := q
theorem k_dget1 {td ty : TE} (q : td σ H fun x H1 => ∃ a, x = .ref a ∧ IsD H1 a ∧ ty σ H1 fun y H2 => ∃ o, DGet H2 a y o ∧ Q (o.getD .non) H2) : tDGet1 td ty σ H Q := q
theorem k_sl {r : V → Option Int → Option Int → Hp → VK → Prop} {te : TE} {tl th : TO} (q : te σ H fun x H1 => tl σ H1 fun l H2 => th σ H2 fun u H3 => r x l u H3 Q) : tSl r te tl th σ H Q := q
theorem k_nopart {R : Option Int → Hp → Prop} (q : R none H) : tNoPart σ H R := q
theorem k_part {te : TE} {R : Option Int → Hp → Prop} (q : te σ H fun x H1 => ∃ i, x = .int i ∧ R (some i) H1) : tPart te σ H R := q
theorem k_pint {i : Int} {R : Int → Prop} (q : R i) : ∃ j, V.int i = .int j ∧ R j := ⟨i, rfl, q⟩
theorem k_dnew (q : ∀ p, H p = none → Q (.ref p) (upd H p (.dK []))) : tDNewK σ H Q := q
theorem k_lstRg {te : L2.St → Hp → (Int → Int → Hp → Prop) → Prop} (q : te σ H fun a b H1 => RgOk a b ∧ ∀ q, H1 q = none → Q (.ref q) (upd H1 q (.lst (rgV a b)))) : tLstRg te σ H Q := q
theorem k_rg1 {ta : TE} {R : Int → Int → Hp → Prop} (q : ta σ H fun x H1 => ∃ n, x = .int n ∧ R 0 n H1) : tRg1 ta σ H R := q
theorem k_never {P : Prop} (h : False) : P := h.elim
theorem k_lc {wi : TI} (q : wi σ H fun J H1 => ∀ D, H1 D = none → ∃ W : Nat → Nat → Hp → Prop, (∃ m, W 0 m (upd H1 D (.lst []))) ∧ ∀ i m H, W i m H →
  (J.stop i H ∧ Q (.ref D) H) ∨ (J.go i H ∧ ∃ Nx : Hp → Prop, (∀ H', Nx H' → ∃ m', m' < m ∧ W (i + 1) m' H') ∧ ∀ x H', J.yld i H x H' → g x (wipe σ vs) H' fun σ2 H2 => wipe σ2 vs = wipe σ vs ∧ tt σ2 H2 fun b H3 =>
    if b = true then te σ2 H3 fun y H4 => ∃ acc, H4 D = some (.lst acc) ∧ acc.length < sizeLine ∧ Nx (upd H4 D (.lst (acc ++ [y]))) else Nx H3)) : tLc wi g tt te vs σ H Q := q
theorem k_iList {R : It → Hp → Prop} (q : tl σ H fun x H1 => ∃ a, x = .ref a ∧ (∃ xs, SqL K H1 a xs) ∧ R (Itl K a) H1) : iList K tl σ H R := q
theorem k_iL {R : It → Hp → Prop} (hx : SqL K H a xs) (q : R (Itl K a) H) : ∃ a', V.ref a = .ref a' ∧ (∃ xs, SqL K H a' xs) ∧ R (Itl K a') H := ⟨a, rfl, ⟨xs, hx⟩, q⟩
theorem k_iTup {R : It → Hp → Prop} (q : tl σ H fun x H1 => ∃ a, x = .ref a ∧ (∃ xs, SqT K H1 a xs) ∧ R (Itt K a) H1) : iTup K tl σ H R := q
theorem k_iT {R : It → Hp → Prop} (hx : SqT K H a xs) (q : R (Itt K a) H) : ∃ a', V.ref a = .ref a' ∧ (∃ xs, SqT K H a' xs) ∧ R (Itt K a') H := ⟨a, rfl, ⟨xs, hx⟩, q⟩
theorem k_iRng1 {ta : TA} {R : It → Hp → Prop} (q : ta σ H fun vs H1 => ∃ j : Int, vs = [.int j] ∧ -(2 ^ 62) ≤ j ∧ j < 2 ^ 62 ∧ R (Itr 0 j.toNat) H1) : iRng1 ta σ H R := q
theorem k_iR {n : Int} {R : It → Hp → Prop} (h1 : -1000000 ≤ n) (h2 : n ≤ 1000000) (q : R (Itr 0 n.toNat) H) : ∃ j : Int, [V.int n] = [.int j] ∧ -(2 ^ 62) ≤ j ∧ j < 2 ^ 62 ∧ R (Itr 0 j.toNat) H := ⟨n, rfl, by omega, by omega, q⟩
/-- a comprehension's turns over what stands still -/
theorem lcX {Qd : Addr → Hp → Prop} {J : It} {n : Nat} {Y : Nat → V → Prop} (hstop : ∀ H1, Same G H1 → J.stop n H1) (hgo : ∀ i H1, i < n → Same G H1 → J.go i H1) (hyl : ∀ i H1 x H2, i < n → Same G H1 → J.yld i H1 x H2 → H2 = H1 ∧ Y i x)
    (s : Same G H) (hM : ∀ m, m ∈ M → H m ≠ none) (hz : n ≤ 10000) (Iv : Nat → List V → Hp → Hp → Prop) (hJ : ∀ i acc G1 H1 H2, (∀ m, m ∈ M → H2 m = H1 m) → Iv i acc G1 H1 → Iv i acc G1 H2) (h0 : Iv 0 [] G H)
    (hs : ∀ i x acc G1 H1 (Ry : V → Hp → Prop) (Rn : Hp → Prop), i < n → Y i x → Ext M G H G1 H1 → Iv i acc G1 H1 →
      (∀ y G4 H4, Ext M G1 H1 G4 H4 → Iv (i + 1) (acc ++ [y]) G4 H4 → Ry y H4) → (∀ G4 H4, Ext M G1 H1 G4 H4 → Iv (i + 1) acc G4 H4 → Rn H4) →
      g x (wipe σ vs) H1 fun σ2 H2 => wipe σ2 vs = wipe σ vs ∧ tt σ2 H2 fun b H3 => if b = true then te σ2 H3 Ry else Rn H3)
    (hd : ∀ D acc G1 H1, Ext M G H G1 H1 → H D = none → G1 D = none → H1 D = some (.lst acc) → acc.length ≤ n → Iv n acc G1 H1 → Qd D H1) :
    ∀ D, H D = none → ∃ W : Nat → Nat → Hp → Prop, (∃ m, W 0 m (upd H D (.lst []))) ∧ ∀ i m H, W i m H →
      (J.stop i H ∧ Qd D H) ∨ (J.go i H ∧ ∃ Nx : Hp → Prop, (∀ H', Nx H' → ∃ m', m' < m ∧ W (i + 1) m' H') ∧ ∀ x H', J.yld i H x H' → g x (wipe σ vs) H' fun σ2 H2 => wipe σ2 vs = wipe σ vs ∧ tt σ2 H2 fun b H3 =>
        if b = true then te σ2 H3 fun y H4 => ∃ acc, H4 D = some (.lst acc) ∧ acc.length < sizeLine ∧ Nx (upd H4 D (.lst (acc ++ [y]))) else Nx H3) := by
  intro D hD
  have nM : D ∉ M := fun m => hM D m hD
  have off : ∀ (H1 : Hp) (o : HO) (m : Addr), m ∈ M → upd H1 D o m = H1 m := fun H1 o m hm => upd_ne fun z => nM (z ▸ hm)
  refine ⟨fun i m H1 => m = n - i ∧ i ≤ n ∧ ∃ acc G1, Ext M G H G1 H1 ∧ G1 D = none ∧ H1 D = some (.lst acc) ∧ acc.length ≤ i ∧ Iv i acc G1 H1,
    ⟨n, rfl, Nat.zero_le _, [], G, (Ext.refl s).tmp hD, s.free hD, upd_same, Nat.le_refl _, hJ _ _ _ _ _ (off H _) h0⟩, ?_⟩
  rintro i m H1 ⟨rfl, hi, acc, G1, e, g1, h1, hl, iv⟩
  have sG : Same G H1 := e.g.trans e.s
  by_cases hlt : i < n
  · refine .inr ⟨hgo i H1 hlt sG, fun H2 => i + 1 ≤ n ∧ ∃ acc G1, Ext M G H G1 H2 ∧ G1 D = none ∧ H2 D = some (.lst acc) ∧ acc.length ≤ i + 1 ∧ Iv (i + 1) acc G1 H2, fun H2 q => ⟨n - (i + 1), by omega, rfl, q.1, q.2⟩, fun x H2 y => ?_⟩
    obtain ⟨rfl, yx⟩ := hyl i H1 x H2 hlt sG y
    refine hs i x acc G1 H2 _ _ hlt yx e iv (fun y G4 H4 e4 iv4 => ?_) (fun G4 H4 e4 iv4 => ?_)
    · have a4 := e4.keep h1 nM
      have g4 := e4.un g1 h1
      refine ⟨acc, a4, by rw [sizeLine_eq]; omega, hlt, acc ++ [y], G4, (e.trans e4).mut hD g4, g4, upd_same, by simp; omega, hJ _ _ _ _ _ (off H4 _) iv4⟩
    · exact ⟨hlt, acc, G4, e.trans e4, e4.un g1 h1, e4.keep h1 nM, by omega, iv4⟩
  · have en : i = n := by omega
    subst en
    exact .inl ⟨hstop H1 sG, hd D acc G1 H1 e hD g1 h1 hl iv⟩
theorem sqL_at {H1 : Hp} (hx : SqL K G a xs) (s : Same G H1) : SqL K H1 a xs := s.seq hx
/-- over a list -/
theorem lcL {Qd : Addr → Hp → Prop} (s : Same G H) (hM : ∀ m, m ∈ M → H m ≠ none) (hx : SqL K G a xs) (hz : xs.length ≤ 10000) (Iv : Nat → List V → Hp → Hp → Prop) (hJ : ∀ i acc G1 H1 H2, (∀ m, m ∈ M → H2 m = H1 m) → Iv i acc G1 H1 → Iv i acc G1 H2) (h0 : Iv 0 [] G H)
    (hs : ∀ i x acc G1 H1 (Ry : V → Hp → Prop) (Rn : Hp → Prop), i < xs.length → xs[i]? = some x → Ext M G H G1 H1 → Iv i acc G1 H1 →
      (∀ y G4 H4, Ext M G1 H1 G4 H4 → Iv (i + 1) (acc ++ [y]) G4 H4 → Ry y H4) → (∀ G4 H4, Ext M G1 H1 G4 H4 → Iv (i + 1) acc G4 H4 → Rn H4) →
      g x (wipe σ vs) H1 fun σ2 H2 => wipe σ2 vs = wipe σ vs ∧ tt σ2 H2 fun b H3 => if b = true then te σ2 H3 Ry else Rn H3)
    (hd : ∀ D acc G1 H1, Ext M G H G1 H1 → H D = none → G1 D = none → H1 D = some (.lst acc) → acc.length ≤ xs.length → Iv xs.length acc G1 H1 → Qd D H1) :
    ∀ D, H D = none → ∃ W : Nat → Nat → Hp → Prop, (∃ m, W 0 m (upd H D (.lst []))) ∧ ∀ i m H, W i m H →
      ((Itl K a).stop i H ∧ Qd D H) ∨ ((Itl K a).go i H ∧ ∃ Nx : Hp → Prop, (∀ H', Nx H' → ∃ m', m' < m ∧ W (i + 1) m' H') ∧ ∀ x H', (Itl K a).yld i H x H' → g x (wipe σ vs) H' fun σ2 H2 => wipe σ2 vs = wipe σ vs ∧ tt σ2 H2 fun b H3 =>
        if b = true then te σ2 H3 fun y H4 => ∃ acc, H4 D = some (.lst acc) ∧ acc.length < sizeLine ∧ Nx (upd H4 D (.lst (acc ++ [y]))) else Nx H3) :=
  lcX (Y := fun i x => xs[i]? = some x) (fun H1 s1 => ⟨xs, s1.seq hx, Nat.le_refl _⟩) (fun i H1 hi s1 => ⟨xs, xs[i], s1.seq hx, List.getElem?_eq_getElem hi⟩) (fun i H1 x H2 hi s1 y => ⟨y.1, y.2 xs (s1.seq hx)⟩) s hM hz Iv hJ h0 hs hd
/-- over a tuple -/
theorem lcT {Qd : Addr → Hp → Prop} (s : Same G H) (hM : ∀ m, m ∈ M → H m ≠ none) (hx : SqT K G a xs) (hz : xs.length ≤ 10000) (Iv : Nat → List V → Hp → Hp → Prop) (hJ : ∀ i acc G1 H1 H2, (∀ m, m ∈ M → H2 m = H1 m) → Iv i acc G1 H1 → Iv i acc G1 H2) (h0 : Iv 0 [] G H)
    (hs : ∀ i x acc G1 H1 (Ry : V → Hp → Prop) (Rn : Hp → Prop), i < xs.length → xs[i]? = some x → Ext M G H G1 H1 → Iv i acc G1 H1 →
      (∀ y G4 H4, Ext M G1 H1 G4 H4 → Iv (i + 1) (acc ++ [y]) G4 H4 → Ry y H4) → (∀ G4 H4, Ext M G1 H1 G4 H4 → Iv (i + 1) acc G4 H4 → Rn H4) →
      g x (wipe σ vs) H1 fun σ2 H2 => wipe σ2 vs = wipe σ vs ∧ tt σ2 H2 fun b H3 => if b = true then te σ2 H3 Ry else Rn H3)
    (hd : ∀ D acc G1 H1, Ext M G H G1 H1 → H D = none → G1 D = none → H1 D = some (.lst acc) → acc.length ≤ xs.length → Iv xs.length acc G1 H1 → Qd D H1) :
    ∀ D, H D = none → ∃ W : Nat → Nat → Hp → Prop, (∃ m, W 0 m (upd H D (.lst []))) ∧ ∀ i m H, W i m H →
      ((Itt K a).stop i H ∧ Qd D H) ∨ ((Itt K a).go i H ∧ ∃ Nx : Hp → Prop, (∀ H', Nx H' → ∃ m', m' < m ∧ W (i + 1) m' H') ∧ ∀ x H', (Itt K a).yld i H x H' → g x (wipe σ vs) H' fun σ2 H2 => wipe σ2 vs = wipe σ vs ∧ tt σ2 H2 fun b H3 =>
        if b = true then te σ2 H3 fun y H4 => ∃ acc, H4 D = some (.lst acc) ∧ acc.length < sizeLine ∧ Nx (upd H4 D (.lst (acc ++ [y]))) else Nx H3) :=
  lcX (Y := fun i x => xs[i]? = some x) (fun H1 s1 => ⟨xs, sqT_mono s1 hx, Nat.le_refl _⟩) (fun i H1 hi s1 => ⟨xs, xs[i], sqT_mono s1 hx, List.getElem?_eq_getElem hi⟩) (fun i H1 x H2 hi s1 y => ⟨y.1, y.2 xs (sqT_mono s1 hx)⟩) s hM hz Iv hJ h0 hs hd
/-- over a range -/
theorem lcR {Qd : Addr → Hp → Prop} {lo : Int} {n : Nat} (s : Same G H) (hM : ∀ m, m ∈ M → H m ≠ none) (hz : n ≤ 10000) (Iv : Nat → List V → Hp → Hp → Prop) (hJ : ∀ i acc G1 H1 H2, (∀ m, m ∈ M → H2 m = H1 m) → Iv i acc G1 H1 → Iv i acc G1 H2) (h0 : Iv 0 [] G H)
    (hs : ∀ (i : Nat) acc G1 H1 (Ry : V → Hp → Prop) (Rn : Hp → Prop), i < n → Ext M G H G1 H1 → Iv i acc G1 H1 →
      (∀ y G4 H4, Ext M G1 H1 G4 H4 → Iv (i + 1) (acc ++ [y]) G4 H4 → Ry y H4) → (∀ G4 H4, Ext M G1 H1 G4 H4 → Iv (i + 1) acc G4 H4 → Rn H4) →
      g (.int (lo + i)) (wipe σ vs) H1 fun σ2 H2 => wipe σ2 vs = wipe σ vs ∧ tt σ2 H2 fun b H3 => if b = true then te σ2 H3 Ry else Rn H3)
    (hd : ∀ D acc G1 H1, Ext M G H G1 H1 → H D = none → G1 D = none → H1 D = some (.lst acc) → acc.length ≤ n → Iv n acc G1 H1 → Qd D H1) :
    ∀ D, H D = none → ∃ W : Nat → Nat → Hp → Prop, (∃ m, W 0 m (upd H D (.lst []))) ∧ ∀ i m H, W i m H →
      ((Itr lo n).stop i H ∧ Qd D H) ∨ ((Itr lo n).go i H ∧ ∃ Nx : Hp → Prop, (∀ H', Nx H' → ∃ m', m' < m ∧ W (i + 1) m' H') ∧ ∀ x H', (Itr lo n).yld i H x H' → g x (wipe σ vs) H' fun σ2 H2 => wipe σ2 vs = wipe σ vs ∧ tt σ2 H2 fun b H3 =>
        if b = true then te σ2 H3 fun y H4 => ∃ acc, H4 D = some (.lst acc) ∧ acc.length < sizeLine ∧ Nx (upd H4 D (.lst (acc ++ [y]))) else Nx H3) :=
  lcX (Y := fun i x => x = .int (lo + i)) (fun H1 s1 => Nat.le_refl n) (fun i H1 hi s1 => hi) (fun i H1 x H2 hi s1 y => y) s hM hz Iv hJ h0 (fun i x acc G1 H1 Ry Rn hi e => by subst e; exact hs i acc G1 H1 Ry Rn hi) hd
/-- the keys of a locked dict -/
theorem lcK {Qd : Addr → Hp → Prop} {d : Addr} {od : Obj} {kvs : List (Key × V)} (hx : G d = some (.frz od (.dK kvs))) (s : Same G H) (hM : ∀ m, m ∈ M → H m ≠ none) (hz : kvs.length ≤ 10000) (Iv : Nat → List V → Hp → Hp → Prop) (hJ : ∀ i acc G1 H1 H2, (∀ m, m ∈ M → H2 m = H1 m) → Iv i acc G1 H1 → Iv i acc G1 H2) (h0 : Iv 0 [] G H)
    (hs : ∀ (i : Nat) k v acc G1 H1 (Ry : V → Hp → Prop) (Rn : Hp → Prop), i < kvs.length → kvs[i]? = some (k, v) → Ext M G H G1 H1 → Iv i acc G1 H1 →
      (∀ y G4 H4, Ext M G1 H1 G4 H4 → Iv (i + 1) (acc ++ [y]) G4 H4 → Ry y H4) → (∀ G4 H4, Ext M G1 H1 G4 H4 → Iv (i + 1) acc G4 H4 → Rn H4) →
      g (kV k) (wipe σ vs) H1 fun σ2 H2 => wipe σ2 vs = wipe σ vs ∧ tt σ2 H2 fun b H3 => if b = true then te σ2 H3 Ry else Rn H3)
    (hd : ∀ D acc G1 H1, Ext M G H G1 H1 → H D = none → G1 D = none → H1 D = some (.lst acc) → acc.length ≤ kvs.length → Iv kvs.length acc G1 H1 → Qd D H1) :
    ∀ D, H D = none → ∃ W : Nat → Nat → Hp → Prop, (∃ m, W 0 m (upd H D (.lst []))) ∧ ∀ i m H, W i m H →
      ((Itk d od kvs).stop i H ∧ Qd D H) ∨ ((Itk d od kvs).go i H ∧ ∃ Nx : Hp → Prop, (∀ H', Nx H' → ∃ m', m' < m ∧ W (i + 1) m' H') ∧ ∀ x H', (Itk d od kvs).yld i H x H' → g x (wipe σ vs) H' fun σ2 H2 => wipe σ2 vs = wipe σ vs ∧ tt σ2 H2 fun b H3 =>
        if b = true then te σ2 H3 fun y H4 => ∃ acc, H4 D = some (.lst acc) ∧ acc.length < sizeLine ∧ Nx (upd H4 D (.lst (acc ++ [y]))) else Nx H3) :=
  lcX (Y := fun i x => ∃ k v, kvs[i]? = some (k, v) ∧ x = kV k) (fun H1 s1 => ⟨s1 _ _ hx, Nat.le_refl _⟩) (fun i H1 hi s1 => ⟨s1 _ _ hx, hi⟩) (fun i H1 x H2 hi s1 y => y) s hM hz Iv hJ h0 (fun i x acc G1 H1 Ry Rn hi ⟨k, v, e1, e2⟩ => by subst e2; exact hs i k v acc G1 H1 Ry Rn hi e1) hd
/-! ### loops -/
theorem k_for {wi : TI} (q : wi σ H fun J H1 => ∃ W : Nat → Nat → L2.St → Hp → Prop, (∃ m, W 0 m σ H1) ∧ ∀ i m σ H, W i m σ H →
  (J.stop i H ∧ D.nx σ H) ∨ (J.go i H ∧ ∃ N : L2.St → Hp → Prop, (∀ σ' H', N σ' H' → ∃ m', m' < m ∧ W (i + 1) m' σ' H') ∧ ∀ x H', J.yld i H x H' → g x σ H' fun σ2 H2 => tb { D with nx := N, ct := N, bk := D.nx } σ2 H2)) : tFor wi g tb D σ H := q
theorem forX {J : It} {n : Nat} {Y : Nat → V → Prop} {D : Ends} (hstop : ∀ H1, Same G H1 → J.stop n H1) (hgo : ∀ i H1, i < n → Same G H1 → J.go i H1) (hyl : ∀ i H1 x H2, i < n → Same G H1 → J.yld i H1 x H2 → H2 = H1 ∧ Y i x)
    (s : Same G H) (Pv : Nat → L2.St → Hp → Hp → Prop) (h0 : Pv 0 σ G H)
    (hs : ∀ i x σ1 G1 H1, i < n → Y i x → Ext M G H G1 H1 → Pv i σ1 G1 H1 → g x σ1 H1 fun σ2 H2 => tb { D with nx := fun σ3 H3 => ∃ G3, Ext M G1 H1 G3 H3 ∧ Pv (i + 1) σ3 G3 H3, ct := fun σ3 H3 => ∃ G3, Ext M G1 H1 G3 H3 ∧ Pv (i + 1) σ3 G3 H3, bk := D.nx } σ2 H2)
    (hd : ∀ σ1 G1 H1, Ext M G H G1 H1 → Pv n σ1 G1 H1 → D.nx σ1 H1) :
    ∃ W : Nat → Nat → L2.St → Hp → Prop, (∃ m, W 0 m σ H) ∧ ∀ i m σ H, W i m σ H →
      (J.stop i H ∧ D.nx σ H) ∨ (J.go i H ∧ ∃ N : L2.St → Hp → Prop, (∀ σ' H', N σ' H' → ∃ m', m' < m ∧ W (i + 1) m' σ' H') ∧ ∀ x H', J.yld i H x H' → g x σ H' fun σ2 H2 => tb { D with nx := N, ct := N, bk := D.nx } σ2 H2) := by
  refine ⟨fun i m σ1 H1 => m = n - i ∧ i ≤ n ∧ ∃ G1, Ext M G H G1 H1 ∧ Pv i σ1 G1 H1, ⟨n, rfl, Nat.zero_le _, G, Ext.refl s, h0⟩, ?_⟩
  rintro i m σ1 H1 ⟨rfl, hi, G1, e, p⟩
  have sG : Same G H1 := e.g.trans e.s
  by_cases hlt : i < n
  · refine .inr ⟨hgo i H1 hlt sG, fun σ3 H3 => ∃ G3, Ext M G1 H1 G3 H3 ∧ Pv (i + 1) σ3 G3 H3, fun σ3 H3 ⟨G3, e3, p3⟩ => ⟨n - (i + 1), by omega, rfl, hlt, G3, e.trans e3, p3⟩, fun x H2 y => ?_⟩
    obtain ⟨rfl, yx⟩ := hyl i H1 x H2 hlt sG y
    exact hs i x σ1 G1 H2 hlt yx e p
  · have en : i = n := by omega
    subst en
    exact .inl ⟨hstop H1 sG, hd σ1 G1 H1 e p⟩
theorem forL (s : Same G H) (hx : SqL K G a xs) (Pv : Nat → L2.St → Hp → Hp → Prop) (h0 : Pv 0 σ G H)
    (hs : ∀ i x σ1 G1 H1, i < xs.length → xs[i]? = some x → Ext M G H G1 H1 → Pv i σ1 G1 H1 → g x σ1 H1 fun σ2 H2 => tb { D with nx := fun σ3 H3 => ∃ G3, Ext M G1 H1 G3 H3 ∧ Pv (i + 1) σ3 G3 H3, ct := fun σ3 H3 => ∃ G3, Ext M G1 H1 G3 H3 ∧ Pv (i + 1) σ3 G3 H3, bk := D.nx } σ2 H2)
    (hd : ∀ σ1 G1 H1, Ext M G H G1 H1 → Pv xs.length σ1 G1 H1 → D.nx σ1 H1) :
    ∃ W : Nat → Nat → L2.St → Hp → Prop, (∃ m, W 0 m σ H) ∧ ∀ i m σ H, W i m σ H →
      ((Itl K a).stop i H ∧ D.nx σ H) ∨ ((Itl K a).go i H ∧ ∃ N : L2.St → Hp → Prop, (∀ σ' H', N σ' H' → ∃ m', m' < m ∧ W (i + 1) m' σ' H') ∧ ∀ x H', (Itl K a).yld i H x H' → g x σ H' fun σ2 H2 => tb { D with nx := N, ct := N, bk := D.nx } σ2 H2) :=
  forX (Y := fun i x => xs[i]? = some x) (fun H1 s1 => ⟨xs, s1.seq hx, Nat.le_refl _⟩) (fun i H1 hi s1 => ⟨xs, xs[i], s1.seq hx, List.getElem?_eq_getElem hi⟩) (fun i H1 x H2 hi s1 y => ⟨y.1, y.2 xs (s1.seq hx)⟩) s Pv h0 hs hd
theorem forR {lo : Int} {n : Nat} (s : Same G H) (Pv : Nat → L2.St → Hp → Hp → Prop) (h0 : Pv 0 σ G H)
    (hs : ∀ (i : Nat) σ1 G1 H1, i < n → Ext M G H G1 H1 → Pv i σ1 G1 H1 → g (.int (lo + i)) σ1 H1 fun σ2 H2 => tb { D with nx := fun σ3 H3 => ∃ G3, Ext M G1 H1 G3 H3 ∧ Pv (i + 1) σ3 G3 H3, ct := fun σ3 H3 => ∃ G3, Ext M G1 H1 G3 H3 ∧ Pv (i + 1) σ3 G3 H3, bk := D.nx } σ2 H2)
    (hd : ∀ σ1 G1 H1, Ext M G H G1 H1 → Pv n σ1 G1 H1 → D.nx σ1 H1) :
    ∃ W : Nat → Nat → L2.St → Hp → Prop, (∃ m, W 0 m σ H) ∧ ∀ i m σ H, W i m σ H →
      ((Itr lo n).stop i H ∧ D.nx σ H) ∨ ((Itr lo n).go i H ∧ ∃ N : L2.St → Hp → Prop, (∀ σ' H', N σ' H' → ∃ m', m' < m ∧ W (i + 1) m' σ' H') ∧ ∀ x H', (Itr lo n).yld i H x H' → g x σ H' fun σ2 H2 => tb { D with nx := N, ct := N, bk := D.nx } σ2 H2) :=
  forX (Y := fun i x => x = .int (lo + i)) (fun H1 s1 => Nat.le_refl n) (fun i H1 hi s1 => hi) (fun i H1 x H2 hi s1 y => y) s Pv h0 (fun i x σ1 G1 H1 hi e => by subst e; exact hs i σ1 G1 H1 hi) hd
/-- a while -/
theorem k_while {tc : TT} (s : Same G H) (Pv : Nat → L2.St → Hp → Hp → Prop) (m0 : Nat) (h0 : Pv m0 σ G H)
    (hs : ∀ m σ1 G1 H1, Ext M G H G1 H1 → Pv m σ1 G1 H1 → tc σ1 H1 fun b H2 => if b = true then ∃ N : L2.St → Hp → Prop, (∀ σ3 H3, N σ3 H3 → ∃ m3, m3 < m ∧ ∃ G3, Ext M G H G3 H3 ∧ Pv m3 σ3 G3 H3) ∧ tb { D with nx := N, ct := N, bk := D.nx } σ1 H2 else D.nx σ1 H2) :
    tWhile tc tb D σ H :=
  ⟨fun m σ1 H1 => ∃ G1, Ext M G H G1 H1 ∧ Pv m σ1 G1 H1, ⟨m0, G, Ext.refl s, h0⟩, fun m σ1 H1 ⟨G1, e, p⟩ => hs m σ1 G1 H1 e p⟩
end
end MV
namespace MV
open PySem PySem.Spec PyProof.Rows L2
local macro_rules | `(tactic| walk_at "go") => `(tactic| repeat (first
  | with_reducible refine MV.k_seq ?_ | with_reducible refine MV.k_asg ?_ | with_reducible refine MV.k_name ?_ | with_reducible refine MV.k_op ?_ | ((with_reducible apply MV.k_var); exact rfl) | with_reducible refine MV.k_c ?_
  | with_reducible refine MV.k_add ?_ | with_reducible refine MV.k_sub ?_ | with_reducible refine MV.k_lt ?_ | with_reducible refine MV.k_le ?_ | with_reducible refine MV.k_gt ?_ | with_reducible refine MV.k_ge ?_ | with_reducible refine MV.k_eqI ?_ | with_reducible refine MV.k_neI ?_
  | with_reducible refine MV.k_test ?_ | with_reducible refine MV.k_B ?_ | with_reducible refine MV.k_bl ?_ | with_reducible refine MV.k_blV ?_ | with_reducible refine MV.k_and ?_ | with_reducible refine MV.k_or ?_ | with_reducible refine MV.k_not ?_ | with_reducible refine MV.k_andV ?_ | with_reducible refine MV.k_orV ?_ | with_reducible refine MV.k_notV ?_
  | with_reducible refine MV.k_if ?_ | with_reducible refine MV.k_tru ?_ | with_reducible refine MV.k_chain ?_ | with_reducible refine MV.k_next ?_ | with_reducible refine MV.k_drop ?_ | with_reducible refine MV.k_ret ?_ | with_reducible refine MV.k_retN ?_ | with_reducible refine MV.k_ifS ?_ | with_reducible refine MV.k_brk ?_ | with_reducible refine MV.k_cont ?_
  | with_reducible refine MV.k_nil ?_ | with_reducible refine MV.k_cons ?_ | with_reducible refine MV.k_tup ?_ | with_reducible refine MV.k_lst ?_ | with_reducible refine MV.k_cb ?_ | with_reducible refine MV.k_call ?_ | with_reducible refine MV.k_gnil ?_ | with_reducible refine MV.k_gcons ?_ | with_reducible refine MV.k_gsub ?_
  | with_reducible refine MV.k_bm ?_ | with_reducible refine MV.k_bm0 ?_ | with_reducible refine MV.k_un ?_ | with_reducible refine MV.k_neg ?_ | with_reducible refine MV.k_isN ?_ | with_reducible refine MV.k_notN ?_ | with_reducible refine L2.iteT ?_ | with_reducible refine L2.iteF ?_
  | with_reducible refine MV.k_iList ?_ | with_reducible refine MV.k_iTup ?_ | with_reducible refine MV.k_iRng1 ?_ | with_reducible refine MV.k_lc ?_ | with_reducible refine MV.k_for ?_))
def t__law_start (K : PySem.W.Frag) (w : World) : TS :=
  (tSeq (tAsg (tC (.int 1)) (gName 1))
    (tSeq (tFor (iList K (tVar 0)) (gName 2) (tAsg (tOp vMod (tOp vAdd (tOp vAdd (tOp vMul (tVar 1) (tC (.int 48271))) (tVar 2)) (tC (.int 7))) (tC (.int 2147483647))) (gName 1)))
    (tRet (tLst (tCons (tVar 0) (tCons (tC (.int 0)) (tCons (tVar 1) (tCons (tC (.int 0)) tNil))))))))
def t__law_drawn (K : PySem.W.Frag) (w : World) : TS :=
  (tSeq (tIfS (tTest (tOp vGt (tOp (rIxL K) (tVar 0) (tC (.int 3))) (tC (.int 0)))) (tSeq (tAsg (tOp vMod (tOp (rIxL K) (tVar 0) (tC (.int 3))) (tVar 1)) (gName 2))
    (tSeq (tAsg (tOp vDiv (tOp (rIxL K) (tVar 0) (tC (.int 3))) (tVar 1)) (gSub (tVar 0) (tC (.int 3)) rSetL))
    (tRet (tVar 2)))) tNext)
    (tSeq (tAsg (tOp vAdd (tOp (rIxL K) (tVar 0) (tC (.int 1))) (tC (.int 1))) (gSub (tVar 0) (tC (.int 1)) rSetL))
    (tSeq (tIfS (tTest (tOp vLe (tOp (rIxL K) (tVar 0) (tC (.int 1))) (tCB (vLen K) (tCons (tOp (rIxL K) (tVar 0) (tC (.int 0))) tNil)))) (tSeq (tAsg (tOp (rIxL K) (tOp (rIxL K) (tVar 0) (tC (.int 0))) (tOp vSub (tOp (rIxL K) (tVar 0) (tC (.int 1))) (tC (.int 1)))) (gName 3))
    (tSeq (tAsg (tIf (tTest (tOp vGe (tVar 3) (tOp vPow (tC (.int 10)) (tC (.int 18))))) (tOp vDiv (tVar 3) (tVar 1)) (tC (.int 0))) (gSub (tVar 0) (tC (.int 3)) rSetL))
    (tRet (tOp vMod (tVar 3) (tVar 1))))) tNext)
    (tSeq (tAsg (tOp vMod (tOp vAdd (tOp vMul (tOp (rIxL K) (tVar 0) (tC (.int 2))) (tC (.int 48271))) (tC (.int 11))) (tC (.int 2147483647))) (gSub (tVar 0) (tC (.int 2)) rSetL))
    (tRet (tOp vMod (tOp vDiv (tOp (rIxL K) (tVar 0) (tC (.int 2))) (tC (.int 7))) (tVar 1)))))))
/-! ### the law's drawing -/
section
variable {K : PySem.W.Frag} {w : World}
/-- where drawing stands: the list at a, over the script at c -/
def Stt (c a : Addr) (H : Hp) : Prop := ∃ i m r : Int, H a = some (.lst [.ref c, .int i, .int m, .int r]) ∧ 0 ≤ i ∧ 0 ≤ m ∧ m < 2147483647 ∧ 0 ≤ r
theorem Stt.ne {c a : Addr} {H : Hp} (h : Stt c a H) : H a ≠ none := by obtain ⟨i, m, r, e, _⟩ := h; rw [e]; exact fun z => nomatch z
theorem Stt.of {c a : Addr} {H H1 : Hp} (h : Stt c a H) (e : H1 a = H a) : Stt c a H1 := by obtain ⟨i, m, r, z, q⟩ := h; exact ⟨i, m, r, e.trans z, q⟩
/-- the script stands at c -/
def Scr (K : PySem.W.Frag) (c : Addr) (ns : List Int) (G : Hp) : Prop := SqL K G c (ns.map V.int) ∧ ns.length ≤ 63
theorem Scr.mono {c : Addr} {ns : List Int} {G G1 : Hp} (h : Scr K c ns G) (e : Same G G1) : Scr K c ns G1 := ⟨e.seq h.1, h.2⟩
def spStart (K : PySem.W.Frag) : Sp := fun vs H Q _ => ∃ (c : Addr) (ns : List Int), vs = [.ref c] ∧ Scr K c ns H ∧ ∀ a H1, H a = none → Same H H1 → (∀ b, b ≠ a → H1 b = H b) → Stt c a H1 → Q (.ref a) H1
theorem pure_start (vs : List V) (H : Hp) (Q : VK) (E : XK) (h : spStart K vs H Q E) : t__law_start K w { nx := fun _ H1 => Q .non H1, rt := Q } (start ["_law_script", "_law_mixed", "_law_cell"] vs) H := by
  obtain ⟨c, ns, rfl, ⟨hx, h63⟩, q⟩ := h
  unfold t__law_start
  walk_at "go"
  refine ⟨_, rfl, ⟨_, hx⟩, ?_⟩
  refine forL (M := []) (Same.refl H) hx (fun i σ1 G1 H1 => H1 = H ∧ ∃ m x, σ1 = [some (.ref c), some (.int m), x] ∧ 0 ≤ m ∧ m < 2147483647) ⟨rfl, 1, none, rfl, by decide, by decide⟩ (fun i x σ1 G1 H1 hi ex e ⟨eH, m, y, es, m0, m1⟩ => ?_) (fun σ1 G1 H1 e ⟨eH, m, y, es, m0, m1⟩ => ?_)
  · subst eH es
    rw [List.getElem?_map] at ex
    cases en : ns[i]? with
    | none => rw [en] at ex; cases ex
    | some n =>
      rw [en] at ex
      cases ex
      walk_at "go"
      refine k_mul (.inr (by decide)) ?_
      walk_at "go"
      refine k_mod (by decide) ?_
      exact ⟨G1, Ext.refl e.s, rfl, _, _, rfl, Int.emod_nonneg _ (by decide), Int.emod_lt_of_pos _ (by decide)⟩
  · subst eH es
    walk_at "go"
    exact ⟨sz1 (by simp), fun p hp => q p _ hp (same_new hp) (fun b hb => upd_ne hb) ⟨0, m, 0, upd_same, by decide, m0, m1, by decide⟩⟩
/-- a drawn number: any from 0 on below many; the state goes on, all else stands -/
def spDrawn (K : PySem.W.Frag) : Sp := fun vs H Q _ => ∃ (c a : Addr) (ns : List Int) (many : Int), vs = [.ref a, .int many] ∧ Stt c a H ∧ Scr K c ns H ∧ 0 < many ∧ many < 2 ^ 200 ∧
  ∀ v H1, 0 ≤ v → v < many → (∀ b, b ≠ a → H1 b = H b) → Stt c a H1 → Q (.int v) H1
theorem divW {i j : Int} (h : 0 < j) (h2 : j < 2 ^ 200) : CDivW i j := wide_div h (b := 200) (by omega) (by decide) (by decide)
theorem upd4 {H H1 : Hp} {a : Addr} {o : HO} (h : ∀ b, b ≠ a → H1 b = H b) : ∀ b, b ≠ a → upd H1 a o b = H b := fun b hb => (upd_ne hb).trans (h b hb)
theorem pure_drawn (vs : List V) (H : Hp) (Q : VK) (E : XK) (h : spDrawn K vs H Q E) : t__law_drawn K w { nx := fun _ H1 => Q .non H1, rt := Q } (start ["_law_state", "_law_many", "_law_found", "_law_cell"] vs) H := by
  obtain ⟨c, a, ns, many, rfl, ⟨i, m, r, hS, i0, m0, m1, r0⟩, ⟨hx, h63⟩, p0, p1, q⟩ := h
  unfold t__law_drawn
  walk_at "go"
  refine k_ixL (SqL.of hS) rfl ?_
  walk_at "go"
  refine k_both (fun h => ?_) (fun h => ?_)
  · walk_at "go"
    refine k_ixL (SqL.of hS) rfl ?_
    walk_at "go"
    refine k_mod p0 ?_
    walk_at "go"
    refine k_ixL (SqL.of hS) rfl ?_
    walk_at "go"
    refine k_div (divW p0 p1) ?_
    walk_at "go"
    refine k_setL hS (j := 3) rfl ?_
    walk_at "go"
    refine q _ _ (Int.emod_nonneg _ (by omega)) (Int.emod_lt_of_pos _ p0) (fun b hb => upd_ne hb) ⟨i, m, r / many, upd_same, i0, m0, m1, Int.ediv_nonneg r0 (by omega)⟩
  · walk_at "go"
    refine k_ixL (SqL.of hS) rfl ?_
    walk_at "go"
    refine k_setL hS (j := 1) rfl ?_
    walk_at "go"
    refine k_ixL (xs := [.ref c, .int (i + 1), .int m, .int r]) (SqL.of upd_same) rfl ?_
    walk_at "go"
    refine k_ixL (xs := [.ref c, .int (i + 1), .int m, .int r]) (SqL.of upd_same) rfl ?_
    walk_at "go"
    have hx1 : SqL K (upd H a (.lst [.ref c, .int (i + 1), .int m, .int r])) c (ns.map V.int) := by
      rcases hx with (h | ⟨o, h⟩) | h
      · have nca : c ≠ a := ne_of h hS fun z => by
          have z2 := HO.lst.inj z
          cases ns with
          | nil => cases z2
          | cons n r => cases z2
        exact .inl (.inl (by rw [upd_ne nca]; exact h))
      · have nca : c ≠ a := ne_of h hS fun z => by cases z
        exact .inl (.inr ⟨o, by rw [upd_ne nca]; exact h⟩)
      · exact .inr h
    refine k_len (.inl hx1) ?_
    walk_at "go"
    rw [List.length_map]
    refine k_both (fun h2 => ?_) (fun h2 => ?_)
    · walk_at "go"
      refine k_ixL (xs := [.ref c, .int (i + 1), .int m, .int r]) (SqL.of upd_same) rfl ?_
      walk_at "go"
      refine k_ixL (xs := [.ref c, .int (i + 1), .int m, .int r]) (SqL.of upd_same) rfl ?_
      walk_at "go"
      have hi : i.toNat < ns.length := by omega
      refine k_ixL hx1 (v := .int ns[i.toNat]) ?_ ?_
      · refine at_of (j := i.toNat) (by omega) ?_
        rw [List.getElem?_map, List.getElem?_eq_getElem hi]; rfl
      walk_at "go"
      refine k_pow (by unfold CPow; decide) ?_
      walk_at "go"
      have fin : ∀ x : Int, 0 ≤ x → ∀ H1 : Hp, H1 = upd (upd H a (.lst [.ref c, .int (i + 1), .int m, .int r])) a (.lst [.ref c, .int (i + 1), .int m, .int x]) → Q (.int (ns[i.toNat] % many)) H1 := fun x hx H1 e =>
        q _ _ (Int.emod_nonneg _ (by omega)) (Int.emod_lt_of_pos _ p0) (fun b hb => by rw [e, upd_ne hb, upd_ne hb]) ⟨i + 1, m, x, by rw [e, upd_same], by omega, m0, m1, hx⟩
      refine k_both (fun h3 => ?_) (fun h3 => ?_)
      · walk_at "go"
        refine k_div (divW p0 p1) ?_
        walk_at "go"
        refine k_setL (xs := [.ref c, .int (i + 1), .int m, .int r]) upd_same (j := 3) rfl ?_
        walk_at "go"
        refine k_mod p0 ?_
        exact fin _ (Int.ediv_nonneg (Int.le_trans (by decide) h3) (by omega)) _ rfl
      · walk_at "go"
        refine k_setL (xs := [.ref c, .int (i + 1), .int m, .int r]) upd_same (j := 3) rfl ?_
        walk_at "go"
        refine k_mod p0 ?_
        exact fin _ (Int.le_refl 0) _ rfl
    · walk_at "go"
      refine k_ixL (xs := [.ref c, .int (i + 1), .int m, .int r]) (SqL.of upd_same) rfl ?_
      walk_at "go"
      refine k_mul (.inr (by decide)) ?_
      walk_at "go"
      refine k_mod (by decide) ?_
      walk_at "go"
      refine k_setL (xs := [.ref c, .int (i + 1), .int m, .int r]) upd_same (j := 2) rfl ?_
      walk_at "go"
      refine k_ixL (xs := [.ref c, .int (i + 1), .int ((m * 48271 + 11) % 2147483647), .int r]) (SqL.of upd_same) rfl ?_
      walk_at "go"
      refine k_div (divW (by decide) (by decide)) ?_
      walk_at "go"
      refine k_mod p0 ?_
      exact q _ _ (Int.emod_nonneg _ (by omega)) (Int.emod_lt_of_pos _ p0) (fun b hb => by rw [upd_ne hb, upd_ne hb]) ⟨i + 1, _, r, upd_same, by omega, Int.emod_nonneg _ (by decide), Int.emod_lt_of_pos _ (by decide), r0⟩
theorem Ext.draw {M : List Addr} {G H H1 : Hp} {c a : Addr} (s : Same G H) (m : a ∈ M) (g : G a = none) (h : ∀ b, b ≠ a → H1 b = H b) (st : Stt c a H1) : Ext M G H G H1 :=
  ⟨Same.refl _, fun b o e => by rw [h b (fun z => by rw [z, g] at e; cases e)]; exact s b o e, fun b o nm e => by rw [h b (fun z => nm (by rw [z]; exact m))]; exact e, fun b e => by
    by_cases z : b = a
    · rw [z] at e; exact absurd e st.ne
    · rw [← h b z]; exact e, fun b => .inl rfl⟩
theorem k_drawn {M : List Addr} {G H : Hp} {c a : Addr} {ns : List Int} {many : Int} {Q : VK} {E : XK} (s : Same G H) (m : a ∈ M) (g : G a = none) (hS : Stt c a H) (hc : Scr K c ns G) (p0 : 0 < many) (p1 : many < 2 ^ 200)
    (q : ∀ v H1, 0 ≤ v → v < many → Ext M G H G H1 → Stt c a H1 → Q (.int v) H1) : spDrawn K [.ref a, .int many] H Q E :=
  ⟨c, a, ns, many, rfl, hS, hc.mono s, p0, p1, fun v H1 v0 v1 k st => q v H1 v0 v1 (Ext.draw s m g k st) st⟩
end
end MV
namespace MV
open PySem PySem.Spec PyProof.Rows L2
local macro_rules | `(tactic| walk_at "go") => `(tactic| repeat (first
  | with_reducible refine MV.k_seq ?_ | with_reducible refine MV.k_asg ?_ | with_reducible refine MV.k_name ?_ | with_reducible refine MV.k_op ?_ | ((with_reducible apply MV.k_var); exact rfl) | with_reducible refine MV.k_c ?_
  | with_reducible refine MV.k_add ?_ | with_reducible refine MV.k_sub ?_ | with_reducible refine MV.k_lt ?_ | with_reducible refine MV.k_le ?_ | with_reducible refine MV.k_gt ?_ | with_reducible refine MV.k_ge ?_ | with_reducible refine MV.k_eqI ?_ | with_reducible refine MV.k_neI ?_
  | with_reducible refine MV.k_test ?_ | with_reducible refine MV.k_B ?_ | with_reducible refine MV.k_bl ?_ | with_reducible refine MV.k_blV ?_ | with_reducible refine MV.k_and ?_ | with_reducible refine MV.k_or ?_ | with_reducible refine MV.k_not ?_ | with_reducible refine MV.k_andV ?_ | with_reducible refine MV.k_orV ?_ | with_reducible refine MV.k_notV ?_
  | with_reducible refine MV.k_if ?_ | with_reducible refine MV.k_tru ?_ | with_reducible refine MV.k_chain ?_ | with_reducible refine MV.k_next ?_ | with_reducible refine MV.k_drop ?_ | with_reducible refine MV.k_ret ?_ | with_reducible refine MV.k_retN ?_ | with_reducible refine MV.k_ifS ?_ | with_reducible refine MV.k_brk ?_ | with_reducible refine MV.k_cont ?_
  | with_reducible refine MV.k_nil ?_ | with_reducible refine MV.k_cons ?_ | with_reducible refine MV.k_tup ?_ | with_reducible refine MV.k_lst ?_ | with_reducible refine MV.k_cb ?_ | with_reducible refine MV.k_call ?_ | with_reducible refine MV.k_gnil ?_ | with_reducible refine MV.k_gcons ?_ | with_reducible refine MV.k_gsub ?_
  | with_reducible refine MV.k_bm ?_ | with_reducible refine MV.k_bm0 ?_ | with_reducible refine MV.k_un ?_ | with_reducible refine MV.k_neg ?_ | with_reducible refine MV.k_isN ?_ | with_reducible refine MV.k_notN ?_ | with_reducible refine L2.iteT ?_ | with_reducible refine L2.iteF ?_
  | with_reducible refine MV.k_iList ?_ | with_reducible refine MV.k_iTup ?_ | with_reducible refine MV.k_iRng1 ?_ | with_reducible refine MV.k_lc ?_ | with_reducible refine MV.k_for ?_))
def t__law_order (K : PySem.W.Frag) (w : World) (s__law_drawn : Sp) : TS :=
  (tSeq (tAsg (tCB (vListOf K) (tCons (tVar 1) tNil)) (gName 2))
    (tSeq (tAsg (tLst tNil) (gName 3))
    (tSeq (tWhile (tTest (tOp (rNeD K) (tVar 2) (tLst tNil))) (tDrop (tBM K "list" rAppend (tVar 3) (tCons (tBM K "list" rPopAt (tVar 2) (tCons (tCall s__law_drawn [] E0 (tCons (tVar 0) (tCons (tCB (vLen K) (tCons (tVar 2) tNil)) tNil))) tNil)) tNil))))
    (tRet (tVar 3)))))
def t__law_boxes (K : PySem.W.Frag) (w : World) (s__law_drawn : Sp) : TS :=
  (tRet (tOp (rIxL K) (tLst (tCons (tOp vAdd (tC (.int 1)) (tCall s__law_drawn [] E0 (tCons (tVar 0) (tCons (tC (.int 4)) tNil)))) (tCons (tOp vAdd (tC (.int 2)) (tCall s__law_drawn [] E0 (tCons (tVar 0) (tCons (tC (.int 5)) tNil)))) (tCons (tOp vAdd (tC (.int 1)) (tCall s__law_drawn [] E0 (tCons (tVar 0) (tCons (tC (.int 10)) tNil)))) tNil)))) (tCall s__law_drawn [] E0 (tCons (tVar 0) (tCons (tC (.int 3)) tNil)))))
section
variable {K : PySem.W.Frag} {w : World}
/-- drawing may go on: G is known and stays, the state stands at a -/
structure Dr (K : PySem.W.Frag) (c a : Addr) (ns : List Int) (G H : Hp) : Prop where
  s : Same G H
  g : G a = none
  st : Stt c a H
  sc : Scr K c ns G
theorem Dr.next {M : List Addr} {c a : Addr} {ns : List Int} {G H G1 H1 : Hp} (d : Dr K c a ns G H) (e : Ext M G H G1 H1) (st : Stt c a H1) : Dr K c a ns G1 H1 := by
  obtain ⟨i, m, r, z, _⟩ := d.st
  exact ⟨e.s, e.un d.g z, st, d.sc.mono e.g⟩
theorem Dr.pure {M : List Addr} {c a : Addr} {ns : List Int} {G H G1 H1 : Hp} (d : Dr K c a ns G H) (e : Ext M G H G1 H1) (h : a ∉ M) : Dr K c a ns G1 H1 := by
  obtain ⟨i, m, r, z, q⟩ := d.st
  exact d.next e ⟨i, m, r, e.keep z h, q⟩
theorem Dr.draw {M : List Addr} {c a : Addr} {ns : List Int} {G H : Hp} {many : Int} {Q : VK} {E : XK} (d : Dr K c a ns G H) (m : a ∈ M) (p0 : 0 < many) (p1 : many < 2 ^ 200)
    (q : ∀ v H1, 0 ≤ v → v < many → Ext M G H G H1 → Dr K c a ns G H1 → (∀ b, b ≠ a → H1 b = H b) → Q (.int v) H1) : spDrawn K [.ref a, .int many] H Q E :=
  ⟨c, a, ns, many, rfl, d.st, d.sc.mono d.s, p0, p1, fun v H1 v0 v1 k st => q v H1 v0 v1 (Ext.draw d.s m d.g k st) (d.next (Ext.draw d.s m d.g k st) st) k⟩
/-- a thing that stands apart from the state -/
theorem Dr.ne {c a p : Addr} {ns : List Int} {G H : Hp} (d : Dr K c a ns G H) (h : H p = none) : p ≠ a := fun z => d.st.ne (by rw [← z]; exact h)
/-! ### comparing with the empty list -/
theorem lay_ints : ∀ ns : List Int, PyData.canLayAll0 (ns.map PyData.int) = true
  | [] => rfl
  | n :: r => by show (true && PyData.canLayAll0 (r.map PyData.int)) = true; rw [lay_ints r]; rfl
theorem depth_ints : ∀ ns : List Int, PyData.depthAll (ns.map PyData.int) = 0
  | [] => rfl
  | n :: r => by show max 0 (PyData.depthAll (r.map PyData.int)) = 0; rw [depth_ints r]; rfl
theorem shaped_ints (ns : List Int) : SeqAt.shaped (.list (ns.map PyData.int)) = true := by
  unfold SeqAt.shaped
  show (PyData.canLayAll0 (ns.map PyData.int) && decide (PyData.depthAll (ns.map PyData.int) + 1 ≤ 64)) = true
  rw [lay_ints, depth_ints]; rfl
theorem shaped_nil : SeqAt.shaped (.list []) = true := shaped_ints []
theorem eqv_nil (ds : List PyData) : PyData.eqv (.list ds) (.list []) = ds.isEmpty := by
  cases ds with
  | nil => rfl
  | cons d r => rfl
theorem k_neNil {l e : Addr} {H : Hp} {Q : VK} {ns : List Int} (h : SqL K H l (ns.map V.int)) (he : SqL K H e []) (q : Q (.bl (!(ns.map PyData.int).isEmpty)) H) : rNeD K (.ref l) (.ref e) H Q :=
  ⟨.list (ns.map PyData.int), .list [], .lst h (dpAll_ints ns), .lst he .nil, shaped_ints ns, shaped_nil, by rw [eqv_nil]; exact q⟩
theorem k_eqNil {l e : Addr} {H : Hp} {Q : VK} {ns : List Int} (h : SqL K H l (ns.map V.int)) (he : SqL K H e []) (q : Q (.bl (ns.map PyData.int).isEmpty) H) : rEqD K (.ref l) (.ref e) H Q :=
  ⟨.list (ns.map PyData.int), .list [], .lst h (dpAll_ints ns), .lst he .nil, shaped_ints ns, shaped_nil, by rw [eqv_nil]; exact q⟩
theorem erase_map {α β : Type} (f : α → β) : ∀ (l : List α) (i : Nat), (l.map f).eraseIdx i = (l.eraseIdx i).map f
  | [], _ => rfl
  | _ :: _, 0 => rfl
  | a :: l, i + 1 => by show f a :: (l.map f).eraseIdx i = f a :: (l.eraseIdx i).map f; rw [erase_map f l i]
theorem erase_perm {α : Type} : ∀ (l : List α) (i : Nat) (h : i < l.length), (l[i] :: l.eraseIdx i).Perm l
  | a :: l, 0, _ => .refl _
  | a :: l, i + 1, h => by
    show (l[i]'(Nat.lt_of_succ_lt_succ h) :: a :: l.eraseIdx i).Perm (a :: l)
    exact (List.Perm.swap _ _ _).trans (.cons _ (erase_perm l i _))
theorem Dr.frz {c a p : Addr} {ns : List Int} {G H : Hp} {o : HO} (d : Dr K c a ns G H) (g : G p = none) (e : H p = some o) (n : p ≠ a) : Dr K c a ns (upd G p o) H :=
  ⟨fun b q z => by
    by_cases h : b = p
    · subst h; rw [upd_same] at z; cases z; exact e
    · rw [upd_ne h] at z; exact d.s b q z, by rw [upd_ne n.symm]; exact d.g, d.st, d.sc.mono (same_new g)⟩
theorem Dr.new {c a p : Addr} {ns : List Int} {G H : Hp} {o : HO} (d : Dr K c a ns G H) (e : H p = none) : Dr K c a ns (upd G p o) (upd H p o) :=
  ⟨same_put d.s, by rw [upd_ne (d.ne e).symm]; exact d.g, d.st.of (upd_ne (d.ne e).symm), d.sc.mono (same_new (d.s.free e))⟩
theorem Dr.tmp {c a p : Addr} {ns : List Int} {G H : Hp} {o : HO} (d : Dr K c a ns G H) (e : H p = none) : Dr K c a ns G (upd H p o) :=
  ⟨d.s.trans (same_new e), d.g, d.st.of (upd_ne (d.ne e).symm), d.sc⟩
theorem Dr.mut {c a p : Addr} {ns : List Int} {G H : Hp} {o : HO} (d : Dr K c a ns G H) (g : G p = none) (n : p ≠ a) : Dr K c a ns G (upd H p o) :=
  ⟨same_mut d.s g, d.g, d.st.of (upd_ne n.symm), d.sc⟩
/-- a drawn order -/
def spOrder (K : PySem.W.Frag) : Sp := fun vs H Q _ => ∃ (c a p : Addr) (ns ms : List Int) (G : Hp), vs = [.ref a, .ref p] ∧ Dr K c a ns G H ∧ SqL K G p (ms.map V.int) ∧ ms.length ≤ 100 ∧
  ∀ (l : Addr) (zs : List Int) (G1 H1 : Hp), Ext [a] G H G1 H1 → Dr K c a ns G1 H1 → H l = none → zs.Perm ms → G1 l = some (.lst (zs.map V.int)) → Q (.ref l) H1
theorem tyL {l : Addr} {H : Hp} {xs : List V} (h : H l = some (.lst xs)) : tyV K "list" (.ref l) H := .inl ⟨rfl, _, SqL.of h⟩
theorem upd_two {H : Hp} {p q : Addr} {o u : HO} (h : q ≠ p) (e : H q = some u) : upd H p o q = some u := by rw [upd_ne h]; exact e
theorem pure_order (vs : List V) (H : Hp) (Q : VK) (E : XK) (h : spOrder K vs H Q E) : t__law_order K w (spDrawn K) { nx := fun _ H1 => Q .non H1, rt := Q } (start ["_law_state", "_law_some", "_law_left", "_law_found"] vs) H := by
  obtain ⟨c, a, p, ns, ms, G, rfl, d, hp, h64, q⟩ := h
  unfold t__law_order
  walk_at "go"
  refine ⟨p, _, rfl, .inl (d.s.seq hp), fun l1 n1 => ?_⟩
  walk_at "go"
  refine ⟨sz1 (by simp), fun l2 n2 => ?_⟩
  walk_at "go"
  have n2' : H l2 = none := by
    by_cases z : l2 = l1
    · subst z; rw [upd_same] at n2; cases n2
    · rwa [upd_ne z] at n2
  have n21 : l2 ≠ l1 := fun z => by rw [z, upd_same] at n2; cases n2
  have e0 : Ext [a] G H G (upd (upd H l1 (.lst (ms.map V.int))) l2 (.lst [])) := ((Ext.refl d.s).tmp n1).tmp n2
  have a1 := (d.ne n1)
  have a2 := (d.ne n2')
  refine k_while (M := [l1, l2, a]) e0.s (fun m σ1 G1 H1 => G1 = G ∧ ∃ left found : List Int, σ1 = [some (.ref a), some (.ref p), some (.ref l1), some (.ref l2)] ∧ m = left.length ∧ H1 l1 = some (.lst (left.map V.int)) ∧ H1 l2 = some (.lst (found.map V.int)) ∧ (found ++ left).Perm ms ∧ Stt c a H1)
    ms.length ⟨rfl, ms, [], rfl, rfl, upd_two n21.symm upd_same, upd_same, List.Perm.refl _, d.st.of (by rw [upd_ne a2.symm, upd_ne a1.symm])⟩ ?_
  rintro m σ1 G1 H1 e ⟨rfl, left, found, rfl, rfl, h1, h2, pm, st⟩
  have g1 : G1 l1 = none := d.s.free n1
  have g2 : G1 l2 = none := d.s.free n2'
  walk_at "go"
  refine ⟨sz1 (by simp), fun l3 n3 => ?_⟩
  have n31 : l1 ≠ l3 := ne_of_none h1 n3
  have n32 : l2 ≠ l3 := ne_of_none h2 n3
  have n3a : a ≠ l3 := fun z => st.ne (by rw [z]; exact n3)
  refine k_neNil (ns := left) (SqL.of (upd_two n31 h1)) (SqL.of upd_same) ?_
  walk_at "go"
  have d1 : Dr K c a ns G1 (upd H1 l3 (.lst [])) := ⟨(e.tmp n3).s, d.g, st.of (by rw [upd_ne n3a]), d.sc⟩
  have n1a : l1 ≠ a := a1
  cases left with
  | nil =>
    refine iteF ?_
    walk_at "go"
    have eB : Ext [a] G1 H G1 (upd H1 l3 (.lst [])) := e0.fin (e.tmp n3) (by simp [n1, n2'])
    have h2' : (upd H1 l3 (.lst [])) l2 = some (.lst (found.map V.int)) := upd_two n32 h2
    have eC := eB.frz n2' g2 h2'
    rw [List.append_nil] at pm
    exact q l2 found _ _ eC (d1.frz g2 h2' a2) n2' pm upd_same
  | cons x r =>
    refine iteT ?_
    refine ⟨_, fun _ _ h => h, ?_⟩
    walk_at "go"
    refine ⟨tyL (upd_two n32 h2), ?_⟩
    walk_at "go"
    refine ⟨tyL (upd_two n31 h1), ?_⟩
    walk_at "go"
    refine k_len (.inl (SqL.of (upd_two n31 h1))) ?_
    walk_at "go"
    have hl : (((x :: r).map V.int).length : Int) = r.length + 1 := by simp
    have pl : found.length + (r.length + 1) = ms.length := by rw [← pm.length_eq]; simp
    rw [hl]
    refine d1.draw (M := [a]) (by simp) (by omega) (by omega) fun v H2 v0 v1 e2 d2 k2 => ?_
    have hi : v.toNat < (x :: r).length := by simp; omega
    have h1' : H2 l1 = some (.lst ((x :: r).map V.int)) := by rw [k2 l1 a1]; exact upd_two n31 h1
    have h2' : H2 l2 = some (.lst (found.map V.int)) := by rw [k2 l2 a2]; exact upd_two n32 h2
    refine ⟨l1, _, v, v.toNat, .int (x :: r)[v.toNat], rfl, rfl, h1', by omega, by omega, seqIndex_of v0 (by simp; omega), by rw [List.getElem?_map, List.getElem?_eq_getElem hi]; rfl, ?_⟩
    walk_at "go"
    refine k_append (upd_two n21 h2') (by rw [List.length_map]; exact sz2 (by omega)) ?_
    walk_at "go"
    refine ⟨r.length, by simp, G1, ?_, rfl, (x :: r).eraseIdx v.toNat, found ++ [(x :: r)[v.toNat]], rfl, ?_, upd_two n21.symm ?_, ?_, ?_, ?_⟩
    · exact (((e.tmp n3).trans (e2.wide fun _ h => by simp at h; simp [h])).mutM (by simp) g1).mutM (by simp) g2
    · rw [List.length_eraseIdx_of_lt hi]; rfl
    · rw [upd_same, erase_map]
    · rw [upd_same, List.map_append]; rfl
    · rw [List.append_assoc]
      exact ((erase_perm (x :: r) v.toNat hi).append_left found).trans pm
    · exact d2.st.of (by rw [upd_ne a2.symm, upd_ne a1.symm])
end
end MV
namespace MV
open PySem PySem.Spec PyProof.Rows L2
/-! ### leads and what they lead, as plain lists -/
abbrev Lead := List (Int × Int)
def lk (m : Lead) (k : Int) : Option Int := (m.find? fun p => decide (p.1 = k)).map (·.2)
def putI (m : Lead) (k v : Int) : Lead := if (m.any fun p => decide (p.1 = k)) = true then m.map (fun p => if p.1 = k then (p.1, v) else p) else m ++ [(k, v)]
def dct (m : Lead) : List (Key × V) := m.map fun p => (Sum.inl p.1, V.int p.2)
structure GoodM (n : Int) (m : Lead) : Prop where
  rg : ∀ p, p ∈ m → 0 ≤ p.1 ∧ p.1 < n ∧ 0 ≤ p.2 ∧ p.2 < n
  nd : (m.map (·.1)).Nodup
def pdPair (p : Int × Int) : PyData := .tuple [.int p.1, .int p.2]
def pdLead (ld : Lead) : PyData := .list (ld.map pdPair)
def pdInts (r : List Int) : PyData := .tuple (r.map .int)
def real (ld : Lead) : Lead := ld.filter fun p => decide (p.1 ≠ p.2)
theorem key_inl (a b : Int) : decide ((Sum.inl a : Key) = Sum.inl b) = decide (a = b) := by
  by_cases e : a = b
  · subst e; simp
  · have : ¬ (Sum.inl a : Key) = Sum.inl b := fun q => e (Sum.inl.inj q)
    rw [decide_eq_false this, decide_eq_false e]
theorem dct_len (m : Lead) : (dct m).length = m.length := List.length_map _
theorem dct_any (m : Lead) (k : Int) : ((dct m).any fun kv => decide (kv.1 = Sum.inl k)) = m.any fun p => decide (p.1 = k) := by
  unfold dct
  rw [List.any_map]
  congr 1
  funext p
  exact key_inl p.1 k
theorem dct_put (m : Lead) (k v : Int) : putK (dct m) (Sum.inl k) (.int v) = dct (putI m k v) := by
  unfold putK putI
  rw [dct_any]
  by_cases h : (m.any fun p => decide (p.1 = k)) = true
  · rw [if_pos h, if_pos h]
    unfold dct
    rw [List.map_map, List.map_map]
    apply List.map_congr_left
    intro p _
    show (if (Sum.inl p.1 : Key) = Sum.inl k then (Sum.inl p.1, V.int v) else (Sum.inl p.1, V.int p.2)) = (Sum.inl (if p.1 = k then (p.1, v) else p).1, V.int (if p.1 = k then (p.1, v) else p).2)
    by_cases e : p.1 = k
    · rw [if_pos e, if_pos (congrArg Sum.inl e)]
    · rw [if_neg e, if_neg (fun q => e (Sum.inl.inj q))]
  · rw [if_neg h, if_neg h]
    unfold dct
    rw [List.map_append]
    rfl
theorem dct_val (m : Lead) (k : Int) : valV (dct m) (Sum.inl k) = (lk m k).map V.int := by
  unfold valV lk dct
  rw [List.find?_map, Option.map_map, Option.map_map]
  have e : ((fun kv : Key × V => decide (kv.1 = Sum.inl k)) ∘ fun p : Int × Int => (Sum.inl p.1, V.int p.2)) = fun p : Int × Int => decide (p.1 = k) := by
    funext p; exact key_inl p.1 k
  rw [e]
  rfl
theorem dct_keys (m : Lead) : (dct m).map (·.1) = (m.map (·.1)).map Sum.inl := by
  unfold dct; rw [List.map_map, List.map_map]; rfl
theorem lk_none {m : Lead} {k : Int} : lk m k = none ↔ k ∉ m.map (·.1) := by
  unfold lk
  simp only [Option.map_eq_none_iff, List.find?_eq_none, decide_eq_true_eq, List.mem_map, not_exists, not_and]
  try exact Iff.rfl
theorem lk_mem {m : Lead} {k v : Int} (h : lk m k = some v) : (k, v) ∈ m := by
  unfold lk at h
  cases e : m.find? fun p => decide (p.1 = k) with
  | none => rw [e] at h; cases h
  | some p =>
    rw [e] at h
    have h1 := List.mem_of_find?_eq_some e
    have h2 := List.find?_some e
    simp at h2
    have h3 : p.2 = v := Option.some.inj h
    obtain ⟨a, b⟩ := p
    simp only at h2 h3
    rw [← h2, ← h3]; exact h1
theorem lk_of {m : Lead} (nd : (m.map (·.1)).Nodup) {k v : Int} (h : (k, v) ∈ m) : lk m k = some v := by
  induction m with
  | nil => cases h
  | cons p r ih =>
    unfold lk
    rw [List.map_cons, List.nodup_cons] at nd
    rw [List.find?_cons]
    by_cases e : p.1 = k
    · rw [decide_eq_true e]
      rcases List.mem_cons.mp h with h | h
      · rw [← h]; rfl
      · exact absurd (List.mem_map.mpr ⟨_, h, e.symm⟩) nd.1
    · rw [decide_eq_false e]
      rcases List.mem_cons.mp h with h | h
      · exact absurd (by rw [← h]) e
      · exact ih nd.2 h
theorem mem_putI {m : Lead} {k v : Int} {p : Int × Int} (h : p ∈ putI m k v) : p ∈ m ∨ p = (k, v) := by
  unfold putI at h
  split at h
  · obtain ⟨q, hq, e⟩ := List.mem_map.mp h
    by_cases c : q.1 = k
    · rw [if_pos c] at e; exact .inr (by rw [← e, c])
    · rw [if_neg c] at e; exact .inl (by rw [← e]; exact hq)
  · rcases List.mem_append.mp h with h | h
    · exact .inl h
    · exact .inr (List.mem_singleton.mp h)
theorem putI_keys {m : Lead} {k v : Int} : (putI m k v).map (·.1) = if k ∈ m.map (·.1) then m.map (·.1) else m.map (·.1) ++ [k] := by
  unfold putI
  have e : (m.any fun p => decide (p.1 = k)) = decide (k ∈ m.map (·.1)) := by
    by_cases h : k ∈ m.map (·.1)
    · rw [decide_eq_true h, List.any_eq_true]
      obtain ⟨p, hp, e⟩ := List.mem_map.mp h
      exact ⟨p, hp, decide_eq_true e⟩
    · rw [decide_eq_false h, List.any_eq_false]
      intro p hp z
      exact h (List.mem_map.mpr ⟨p, hp, of_decide_eq_true z⟩)
  rw [e]
  by_cases h : k ∈ m.map (·.1)
  · rw [decide_eq_true h, if_pos rfl, if_pos h, List.map_map]
    apply List.map_congr_left
    intro p _
    show (if p.1 = k then (p.1, v) else p).1 = p.1
    split <;> rfl
  · rw [decide_eq_false h, if_neg Bool.false_ne_true, if_neg h, List.map_append]; rfl
theorem GoodM.nil (n : Int) : GoodM n [] := ⟨(fun _ h => nomatch h), List.nodup_nil⟩
theorem GoodM.put {n : Int} {m : Lead} (g : GoodM n m) {k v : Int} (k0 : 0 ≤ k) (k1 : k < n) (v0 : 0 ≤ v) (v1 : v < n) : GoodM n (putI m k v) := by
  refine ⟨fun p hp => ?_, ?_⟩
  · rcases mem_putI hp with h | h
    · exact g.rg p h
    · subst h; exact ⟨k0, k1, v0, v1⟩
  · rw [putI_keys]
    split
    · exact g.nd
    · rename_i h
      refine List.nodup_append.mpr ⟨g.nd, by simp, fun a ha b hb e => ?_⟩
      have : b = k := List.mem_singleton.mp hb
      subst this
      subst e
      exact h ha
def rangeI (n : Nat) : List Int := (List.range n).map fun (i : Nat) => (i : Int)
theorem mem_rangeI {n : Nat} {x : Int} : x ∈ rangeI n ↔ 0 ≤ x ∧ x < n := by
  unfold rangeI
  rw [List.mem_map]
  constructor
  · rintro ⟨i, hi, rfl⟩
    have := List.mem_range.mp hi
    omega
  · rintro ⟨h0, h1⟩
    exact ⟨x.toNat, List.mem_range.mpr (by omega), by omega⟩
theorem len_rangeI (n : Nat) : (rangeI n).length = n := by unfold rangeI; simp
theorem rangeI_nodup (n : Nat) : (rangeI n).Nodup := by
  unfold rangeI
  refine List.Pairwise.map _ (fun a b h => ?_) (List.nodup_range (n := n))
  intro z; exact h (Int.ofNat.inj z)
/-- as many unlike numbers as there are boxes, at most -/
theorem few {n : Int} {l : List Int} (nd : l.Nodup) (h : ∀ x, x ∈ l → 0 ≤ x ∧ x < n) : l.length ≤ n.toNat := by
  have h1 := nd.length_le_of_subset (l₂ := rangeI n.toNat) (fun x hx => mem_rangeI.mpr (by have := h x hx; omega))
  rwa [len_rangeI] at h1
theorem GoodM.len {n : Int} {m : Lead} (g : GoodM n m) : m.length ≤ n.toNat := by
  have := few (n := n) g.nd fun x hx => by
    obtain ⟨p, hp, e⟩ := List.mem_map.mp hx
    subst e
    have := g.rg p hp
    omega
  rwa [List.length_map] at this
/-- a slice of ints -/
theorem cut_ints (zs : List Int) (lo hi : Option Int) : ∃ ys : List Int, cutV (zs.map V.int) lo hi = ys.map V.int ∧ ys.Sublist zs := by
  unfold cutV
  rw [List.length_map]
  exact ⟨(zs.drop _).take _, by rw [← List.map_drop, ← List.map_take], (List.take_sublist _ _).trans (List.drop_sublist _ _)⟩
end MV
namespace MV
open PySem PySem.Spec PyProof.Rows L2
local macro_rules | `(tactic| walk_at "go") => `(tactic| repeat (first
  | with_reducible refine MV.k_seq ?_ | with_reducible refine MV.k_asg ?_ | with_reducible refine MV.k_name ?_ | with_reducible refine MV.k_op ?_ | ((with_reducible apply MV.k_var); exact rfl) | with_reducible refine MV.k_c ?_
  | with_reducible refine MV.k_add ?_ | with_reducible refine MV.k_sub ?_ | with_reducible refine MV.k_lt ?_ | with_reducible refine MV.k_le ?_ | with_reducible refine MV.k_gt ?_ | with_reducible refine MV.k_ge ?_ | with_reducible refine MV.k_eqI ?_ | with_reducible refine MV.k_neI ?_
  | with_reducible refine MV.k_test ?_ | with_reducible refine MV.k_B ?_ | with_reducible refine MV.k_bl ?_ | with_reducible refine MV.k_blV ?_ | with_reducible refine MV.k_and ?_ | with_reducible refine MV.k_or ?_ | with_reducible refine MV.k_not ?_ | with_reducible refine MV.k_andV ?_ | with_reducible refine MV.k_orV ?_ | with_reducible refine MV.k_notV ?_
  | with_reducible refine MV.k_if ?_ | with_reducible refine MV.k_tru ?_ | with_reducible refine MV.k_chain ?_ | with_reducible refine MV.k_next ?_ | with_reducible refine MV.k_drop ?_ | with_reducible refine MV.k_ret ?_ | with_reducible refine MV.k_retN ?_ | with_reducible refine MV.k_ifS ?_ | with_reducible refine MV.k_brk ?_ | with_reducible refine MV.k_cont ?_
  | with_reducible refine MV.k_nil ?_ | with_reducible refine MV.k_cons ?_ | with_reducible refine MV.k_tup ?_ | with_reducible refine MV.k_lst ?_ | with_reducible refine MV.k_cb ?_ | with_reducible refine MV.k_call ?_ | with_reducible refine MV.k_gnil ?_ | with_reducible refine MV.k_gcons ?_ | with_reducible refine MV.k_gsub ?_
  | with_reducible refine MV.k_bm ?_ | with_reducible refine MV.k_bm0 ?_ | with_reducible refine MV.k_un ?_ | with_reducible refine MV.k_neg ?_ | with_reducible refine MV.k_isN ?_ | with_reducible refine MV.k_notN ?_ | with_reducible refine L2.iteT ?_ | with_reducible refine L2.iteF ?_
  | with_reducible refine MV.k_iList ?_ | with_reducible refine MV.k_iTup ?_ | with_reducible refine MV.k_iRng1 ?_ | with_reducible refine MV.k_lc ?_ | with_reducible refine MV.k_for ?_
  | with_reducible refine MV.k_yes ?_ | with_reducible refine MV.k_dput ?_ | with_reducible refine MV.k_dget ?_ | with_reducible refine MV.k_dget1 ?_ | with_reducible refine MV.k_sl ?_ | with_reducible refine MV.k_nopart ?_ | with_reducible refine MV.k_part ?_ | with_reducible refine MV.k_pint ?_ | with_reducible refine MV.k_dnew ?_ | with_reducible refine MV.k_lstRg ?_ | with_reducible refine MV.k_rg1 ?_))
def t__law_lead (K : PySem.W.Frag) (w : World) (s__law_drawn : Sp) (s__law_order : Sp) : TS :=
  (tSeq (tAsg tDNewK (gName 2))
    (tSeq (tAsg (tOp vAdd (tC (.int 1)) (tCall s__law_drawn [] E0 (tCons (tVar 0) (tCons (tC (.int 3)) tNil)))) (gName 3))
    (tSeq (tFor (iRng1 (tCons (tVar 1) tNil)) (gName 4) (tIfS (tTest (tOp rEq (tCall s__law_drawn [] E0 (tCons (tVar 0) (tCons (tVar 3) tNil))) (tC (.int 0)))) (sDPut (tVar 2) (tVar 4) (tCall s__law_drawn [] E0 (tCons (tVar 0) (tCons (tVar 1) tNil)))) tNext))
    (tSeq (tIfS (tTest (tOp rEq (tCall s__law_drawn [] E0 (tCons (tVar 0) (tCons (tC (.int 2)) tNil))) (tC (.int 1)))) (tSeq (tAsg (tCall s__law_order [] E0 (tCons (tVar 0) (tCons (tLstRg (tRg1 (tVar 1))) tNil))) (gName 5))
    (tSeq (tAsg (tSl (rSlL K) (tVar 5) tNoPart (tPart (tCall s__law_drawn [] E0 (tCons (tVar 0) (tCons (tOp vAdd (tVar 1) (tC (.int 1))) tNil))))) (gName 5))
    (tSeq (tIfS (tTest (tOp rEq (tCall s__law_drawn [] E0 (tCons (tVar 0) (tCons (tC (.int 2)) tNil))) (tC (.int 1)))) (tAsg tDNewK (gName 2)) tNext)
    (tSeq (tAsg (tCall s__law_drawn [] E0 (tCons (tVar 0) (tCons (tOp vAdd (tCB (vLen K) (tCons (tVar 5) tNil)) (tC (.int 1))) tNil))) (gName 6))
    (tFor (iList K (tLst (tCons (tSl (rSlL K) (tVar 5) tNoPart (tPart (tVar 6))) (tCons (tSl (rSlL K) (tVar 5) (tPart (tVar 6)) tNoPart) tNil)))) (gName 7) (tFor (iRng1 (tCons (tCB (vLen K) (tCons (tVar 7) tNil)) tNil)) (gName 8) (sDPut (tVar 2) (tOp (rIxL K) (tVar 7) (tVar 8)) (tOp (rIxL K) (tVar 7) (tOp vSub (tVar 8) (tC (.int 1))))))))))) tNext)
    (tRet (tLc (iList K (tCall s__law_order [] E0 (tCons (tVar 0) (tCons (tCB vSortedDI (tCons (tVar 2) tNil)) tNil)))) (gName 9) tYes (tTup (tCons (tVar 9) (tCons (tDGet (tVar 2) (tVar 9)) tNil))) [9]))))))
section
variable {K : PySem.W.Frag} {w : World}
/-- a count of boxes -/
def spBoxes (K : PySem.W.Frag) : Sp := fun vs H Q _ => ∃ (c a : Addr) (ns : List Int) (G : Hp), vs = [.ref a] ∧ Dr K c a ns G H ∧
  ∀ (n : Int) (G1 H1 : Hp), Ext [a] G H G1 H1 → Dr K c a ns G1 H1 → 1 ≤ n → n ≤ 10 → Q (.int n) H1
theorem pure_boxes (vs : List V) (H : Hp) (Q : VK) (E : XK) (h : spBoxes K vs H Q E) : t__law_boxes K w (spDrawn K) { nx := fun _ H1 => Q .non H1, rt := Q } (start ["_law_state"] vs) H := by
  obtain ⟨c, a, ns, G, rfl, d, q⟩ := h
  unfold t__law_boxes
  walk_at "go"
  refine d.draw (M := [a]) (by simp) (by decide) (by decide) fun x1 H1 x10 x11 e1 d1 k1 => ?_
  walk_at "go"
  refine d1.draw (M := [a]) (by simp) (by decide) (by decide) fun x2 H2 x20 x21 e2 d2 k2 => ?_
  walk_at "go"
  refine d2.draw (M := [a]) (by simp) (by decide) (by decide) fun x3 H3 x30 x31 e3 d3 k3 => ?_
  walk_at "go"
  refine ⟨sz1 (by simp), fun p hp => ?_⟩
  walk_at "go"
  have d4 := d3.tmp (o := .lst [.int (1 + x1), .int (2 + x2), .int (1 + x3)]) hp
  have e4 : Ext [a] G H G _ := ((e1.trans e2).trans e3).tmp (o := .lst [.int (1 + x1), .int (2 + x2), .int (1 + x3)]) hp
  refine d4.draw (M := [a]) (by simp) (by decide) (by decide) fun x4 H4 x40 x41 e5 d5 k5 => ?_
  have hp4 : H4 p = some (.lst [.int (1 + x1), .int (2 + x2), .int (1 + x3)]) := by rw [k5 p (d3.ne hp), upd_same]
  have fin : ∀ n : Int, 1 ≤ n → n ≤ 10 → Q (.int n) H4 := fun n h1 h2 => q n _ _ (e4.trans e5) d5 h1 h2
  have c4 : x4 = 0 ∨ x4 = 1 ∨ x4 = 2 := by omega
  rcases c4 with z | z | z
  · subst z; exact k_ixL (SqL.of hp4) rfl (fin _ (by omega) (by omega))
  · subst z; exact k_ixL (SqL.of hp4) rfl (fin _ (by omega) (by omega))
  · subst z; exact k_ixL (SqL.of hp4) rfl (fin _ (by omega) (by omega))
/-- a drawn lead: a new list of new pairs -/
def spLead (K : PySem.W.Frag) : Sp := fun vs H Q _ => ∃ (c a : Addr) (ns : List Int) (G : Hp) (n : Int), vs = [.ref a, .int n] ∧ Dr K c a ns G H ∧ 1 ≤ n ∧ n ≤ 10 ∧
  ∀ (l : Addr) (xs : List V) (ld : Lead) (G1 H1 : Hp), Ext [a] G H G1 H1 → Dr K c a ns G1 H1 → H l = none → G1 l = some (.lst xs) → DpAll K G1 xs (ld.map pdPair) → GoodM n ld → Q (.ref l) H1
theorem k_dgetAt {d : Addr} {m : Lead} {k v : Int} {H : Hp} (h : H d = some (.dK (dct m))) (e : lk m k = some v) : DGet H d (.int k) (some (.int v)) := by
  have q := DGet.k (k := Sum.inl k) h
  rw [dct_val, e] at q
  exact q
theorem lead_end {c a dd : Addr} {ns : List Int} {G0 H0 G H : Hp} {n : Int} {m : Lead} {D : Ends} {x3 x4 x5 x6 x7 x8 x9 y1 : Option V} (e : Ext [a] G0 H0 G H) (d : Dr K c a ns G H) (hd : H dd = some (.dK (dct m))) (nd : H0 dd = none) (gd : G dd = none) (ne : dd ≠ a) (gm : GoodM n m) (n10 : n ≤ 10)
    (q : ∀ (l : Addr) (xs : List V) (ld : Lead) (G1 H1 : Hp), Ext [a] G0 H0 G1 H1 → Dr K c a ns G1 H1 → H0 l = none → G1 l = some (.lst xs) → DpAll K G1 xs (ld.map pdPair) → GoodM n ld → D.rt (.ref l) H1) :
    (tRet (tLc (iList K (tCall (spOrder K) [] E0 (tCons (tVar 0) (tCons (tCB vSortedDI (tCons (tVar 2) tNil)) tNil)))) (gName 9) tYes (tTup (tCons (tVar 9) (tCons (tDGet (tVar 2) (tVar 9)) tNil))) [9])) D [some (.ref a), y1, some (.ref dd), x3, x4, x5, x6, x7, x8, x9] H := by
  have e1 := e.frz nd gd hd
  have d1 := d.frz gd hd ne
  have lm := gm.len
  walk_at "go"
  refine ⟨dd, dct m, m.map (·.1), rfl, .inl hd, dct_keys m, by rw [List.length_map]; omega, fun ys p pm pw np => ?_⟩
  walk_at "go"
  have e2 := e1.new (o := .lst (ys.map V.int)) np
  have d2 := d1.new (o := .lst (ys.map V.int)) np
  refine ⟨c, a, p, ns, ys, _, rfl, d2, SqL.of upd_same, by rw [pm.length_eq, List.length_map]; omega, fun l zs G3 H3 e3 d3 nl pm2 gl => ?_⟩
  have pz : zs.Perm (m.map (·.1)) := pm2.trans pm
  have hdd : G3 dd = some (.dK (dct m)) := e3.g _ _ (by rw [upd_ne (ne_of_none hd np)]; exact upd_same)
  have lz : zs.length ≤ 10 := by rw [pz.length_eq, List.length_map]; omega
  have at_key : ∀ z, z ∈ zs → ∃ v, lk m z = some v := fun z hz => by
    cases h : lk m z with
    | none => exact absurd (pz.mem_iff.mp hz) (lk_none.mp h)
    | some v => exact ⟨v, rfl⟩
  have nlH : H0 l = none := (e2.d l nl)
  refine ⟨_, rfl, ⟨_, d3.s.seq (SqL.of gl)⟩, ?_⟩
  refine lcL (M := []) d3.s (fun _ h => nomatch h) (SqL.of gl) (by rw [List.length_map]; omega) (fun i acc G4 H4 => DpAll K G4 acc ((zs.take i).map fun z => pdPair (z, (lk m z).getD 0))) (fun _ _ _ _ _ _ h => h) .nil
    (fun i x acc G4 H4 Ry Rn hi ex e4 iv hy hn => ?_) (fun l2 acc G4 H4 e4 n2 g2 h2 hl iv => ?_)
  · rw [List.getElem?_map] at ex
    have hi' : i < zs.length := by rwa [List.length_map] at hi
    rw [List.getElem?_eq_getElem hi'] at ex
    cases ex
    obtain ⟨v, hv⟩ := at_key zs[i] (List.getElem_mem hi')
    walk_at "go"
    refine ⟨rfl, ?_⟩
    walk_at "go"
    refine ⟨dd, .int v, rfl, k_dgetAt (e4.s _ _ (e4.g _ _ hdd)) hv, ?_⟩
    walk_at "go"
    refine ⟨sz1 (by simp), fun t nt => ?_⟩
    refine hy _ _ _ ((Ext.refl e4.s).new nt) ?_
    rw [List.take_add_one, List.getElem?_eq_getElem hi']
    show DpAll K _ (acc ++ [.ref t]) ((zs.take i ++ [zs[i]]).map _)
    rw [List.map_append]
    refine dpAll_app (dpAll_mono (same_new (e4.s.free nt)) _ _ iv) (dpAll_one ?_)
    show Dp K _ (.ref t) (.tuple [.int zs[i], .int ((lk m zs[i]).getD 0)])
    rw [hv]
    exact .tup (SqT.of upd_same) (.cons (.int _) (.cons (.int _) .nil))
  · rw [List.length_map, List.take_length] at iv
    have e5 : Ext [a] G0 H0 G4 H4 := (e2.trans e3).trans e4.to
    have n5 : H0 l2 = none := (e2.trans e3).d l2 n2
    refine q l2 acc (zs.map fun z => (z, (lk m z).getD 0)) _ H4 (e5.frz n5 g2 h2) ((d3.pure e4 (by simp)).frz g2 h2 (d3.ne n2)) n5 upd_same ?_ ⟨fun p hp => ?_, ?_⟩
    · rw [List.map_map]
      exact dpAll_mono (same_new g2) _ _ iv
    · obtain ⟨z, hz, rfl⟩ := List.mem_map.mp hp
      obtain ⟨v, hv⟩ := at_key z hz
      have := gm.rg _ (lk_mem hv)
      rw [hv]
      exact this
    · rw [List.map_map]
      have ez : zs.map ((fun x : Int × Int => x.1) ∘ fun z => (z, (lk m z).getD 0)) = zs := by
        rw [show ((fun x : Int × Int => x.1) ∘ fun z => (z, (lk m z).getD 0)) = id from rfl, List.map_id]
      rw [ez]
      exact pz.nodup_iff.mpr gm.nd
theorem rgV_ints (n : Int) : rgV 0 n = (rangeI n.toNat).map V.int := by
  unfold rgV rangeI
  rw [List.map_map, Int.sub_zero]
  apply List.map_congr_left
  intro i _
  show V.int (0 + (i : Int)) = V.int (i : Int)
  rw [Int.zero_add]
def InR (n : Int) (zs : List Int) : Prop := ∀ z, z ∈ zs → 0 ≤ z ∧ z < n
theorem atI_before {zs : List Int} {k : Nat} (hk : k < zs.length) : ∃ z, z ∈ zs ∧ atI (zs.map V.int) ((k : Int) - 1) = some (.int z) := by
  cases k with
  | zero =>
    have hne : zs ≠ [] := fun z => by rw [z] at hk; exact absurd hk (Nat.not_lt_zero _)
    refine ⟨zs.getLast hne, List.getLast_mem hne, ?_⟩
    have e : zs.map V.int = zs.dropLast.map V.int ++ [.int (zs.getLast hne)] := by
      rw [← List.map_singleton, ← List.map_append, List.dropLast_concat_getLast]
    rw [e]
    exact atI_last _ _
  | succ j =>
    have hj : j < zs.length := Nat.lt_of_succ_lt hk
    refine ⟨zs[j], List.getElem_mem hj, at_of (j := j) (by omega) ?_⟩
    rw [List.getElem?_map, List.getElem?_eq_getElem hj]; rfl
theorem atI_here {zs : List Int} {k : Nat} (hk : k < zs.length) : atI (zs.map V.int) (0 + (k : Int)) = some (.int zs[k]) :=
  at_of (j := k) (by omega) (by rw [List.getElem?_map, List.getElem?_eq_getElem hk]; rfl)
theorem atI_here' {zs : List Int} {k : Nat} (hk : k < zs.length) : atI (zs.map V.int) (k : Int) = some (.int zs[k]) :=
  at_of (j := k) rfl (by rw [List.getElem?_map, List.getElem?_eq_getElem hk]; rfl)
theorem k_dputAt {d : Addr} {m : Lead} {k v : Int} {H : Hp} (h : H d = some (.dK (dct m))) (hl : m.length ≤ 1000) : DPut H d (.int k) (.int v) (upd H d (.dK (dct (putI m k v)))) := by
  have q := DPut.k (k := Sum.inl k) (v := .int v) h (by rw [dct_len]; exact sz2 (by omega))
  rw [dct_put] at q
  exact q
/-- the rings put in -/
theorem lead_fill {c a dd p2 : Addr} {ns : List Int} {G H : Hp} {n : Int} {m : Lead} {ys : List Int} {D : Ends} {x3 x4 x6 x7 x8 x9 : Option V} (d : Dr K c a ns G H) (hd : H dd = some (.dK (dct m))) (gd : G dd = none) (ne : dd ≠ a) (gm : GoodM n m) (n10 : n ≤ 10)
    (g2 : G p2 = some (.lst (ys.map V.int))) (hy : InR n ys) (ly : ys.length ≤ 10)
    (q : ∀ (m1 : Lead) (y6 y7 y8 : Option V) (G1 H1 : Hp), Ext [dd, a] G H G1 H1 → Dr K c a ns G1 H1 → H1 dd = some (.dK (dct m1)) → GoodM n m1 → D.nx [some (.ref a), some (.int n), some (.ref dd), x3, x4, some (.ref p2), y6, y7, y8, x9] H1) :
    (tSeq (tAsg (tCall (spDrawn K) [] E0 (tCons (tVar 0) (tCons (tOp vAdd (tCB (vLen K) (tCons (tVar 5) tNil)) (tC (.int 1))) tNil))) (gName 6))
    (tFor (iList K (tLst (tCons (tSl (rSlL K) (tVar 5) tNoPart (tPart (tVar 6))) (tCons (tSl (rSlL K) (tVar 5) (tPart (tVar 6)) tNoPart) tNil)))) (gName 7) (tFor (iRng1 (tCons (tCB (vLen K) (tCons (tVar 7) tNil)) tNil)) (gName 8) (sDPut (tVar 2) (tOp (rIxL K) (tVar 7) (tVar 8)) (tOp (rIxL K) (tVar 7) (tOp vSub (tVar 8) (tC (.int 1)))))))) D [some (.ref a), some (.int n), some (.ref dd), x3, x4, some (.ref p2), x6, x7, x8, x9] H := by
  walk_at "go"
  refine k_len (.inl (d.s.seq (SqL.of g2))) ?_
  walk_at "go"
  have hl : ((ys.map V.int).length : Int) + 1 = ys.length + 1 := by simp
  rw [hl]
  refine d.draw (M := [dd, a]) (by simp) (by omega) (by omega) fun cut H1 c0 c1 e1 d1 k1 => ?_
  have hd1 : H1 dd = some (.dK (dct m)) := by rw [k1 dd ne]; exact hd
  walk_at "go"
  refine ⟨p2, _, rfl, d1.s.seq (SqL.of g2), fun q1 n1 => ?_⟩
  obtain ⟨z1, ez1, s1⟩ := cut_ints ys none (some cut)
  rw [ez1]
  have d2 := d1.new (o := .lst (z1.map V.int)) n1
  have e2 := e1.new (o := .lst (z1.map V.int)) n1
  have g22 : (upd G q1 (.lst (z1.map V.int))) p2 = some (.lst (ys.map V.int)) := by rw [upd_ne (ne_of_none (d1.s _ _ g2) n1)]; exact g2
  walk_at "go"
  refine ⟨p2, _, rfl, d2.s.seq (SqL.of g22), fun q2 n2 => ?_⟩
  obtain ⟨z2, ez2, s2⟩ := cut_ints ys (some cut) none
  rw [ez2]
  have d3 := d2.new (o := .lst (z2.map V.int)) n2
  have e3 := e2.new (o := .lst (z2.map V.int)) n2
  walk_at "go"
  refine ⟨sz1 (by simp), fun q3 n3 => ?_⟩
  have d4 := d3.new (o := .lst [.ref q1, .ref q2]) n3
  have e4 := e3.new (o := .lst [.ref q1, .ref q2]) n3
  have d12 : q1 ≠ q2 := fun z => by rw [← z, upd_same] at n2; cases n2
  have d13 : q1 ≠ q3 := fun z => by rw [← z, upd_ne d12, upd_same] at n3; cases n3
  have d23 : q2 ≠ q3 := fun z => by rw [← z, upd_same] at n3; cases n3
  have a1 : (upd (upd (upd G q1 (.lst (z1.map V.int))) q2 (.lst (z2.map V.int))) q3 (.lst [.ref q1, .ref q2])) q1 = some (.lst (z1.map V.int)) := by rw [upd_ne d13, upd_ne d12, upd_same]
  have a2 : (upd (upd (upd G q1 (.lst (z1.map V.int))) q2 (.lst (z2.map V.int))) q3 (.lst [.ref q1, .ref q2])) q2 = some (.lst (z2.map V.int)) := by rw [upd_ne d23, upd_same]
  have nn1 : dd ≠ q1 := ne_of_none hd1 n1
  have nn2 : dd ≠ q2 := fun z => by rw [← z, upd_ne nn1, hd1] at n2; cases n2
  have nn3 : dd ≠ q3 := fun z => by rw [← z, upd_ne nn2, upd_ne nn1, hd1] at n3; cases n3
  have hd4 : (upd (upd (upd H1 q1 (.lst (z1.map V.int))) q2 (.lst (z2.map V.int))) q3 (.lst [.ref q1, .ref q2])) dd = some (.dK (dct m)) := by rw [upd_ne nn3, upd_ne nn2, upd_ne nn1]; exact hd1
  have gd4 : (upd (upd (upd G q1 (.lst (z1.map V.int))) q2 (.lst (z2.map V.int))) q3 (.lst [.ref q1, .ref q2])) dd = none := by rw [upd_ne nn3, upd_ne nn2, upd_ne nn1]; exact gd
  have g43 : (upd (upd (upd G q1 (.lst (z1.map V.int))) q2 (.lst (z2.map V.int))) q3 (.lst [.ref q1, .ref q2])) q3 = some (.lst [.ref q1, .ref q2]) := upd_same
  generalize (upd (upd (upd G q1 (.lst (z1.map V.int))) q2 (.lst (z2.map V.int))) q3 (.lst [.ref q1, .ref q2])) = G4 at *
  generalize (upd (upd (upd H1 q1 (.lst (z1.map V.int))) q2 (.lst (z2.map V.int))) q3 (.lst [.ref q1, .ref q2])) = H4 at *
  have gm1 : GoodM n m := gm
  refine ⟨_, rfl, ⟨_, d4.s.seq (SqL.of (show G4 q3 = some (.lst [.ref q1, .ref q2]) from g43))⟩, ?_⟩
  refine forL (M := [dd, a]) d4.s (SqL.of g43) (fun i σ1 G5 H5 => ∃ (m1 : Lead) (x7 x8 : Option V), σ1 = [some (.ref a), some (.int n), some (.ref dd), x3, x4, some (.ref p2), some (.int cut), x7, x8, x9] ∧ H5 dd = some (.dK (dct m1)) ∧ GoodM n m1 ∧ Dr K c a ns G5 H5 ∧ G5 dd = none)
    ⟨m, x7, x8, rfl, hd4, gm, d4, gd4⟩ (fun i x σ1 G5 H5 hi ex e5 ⟨m1, y7, y8, es, h5, gm5, d5, gd5⟩ => ?_) (fun σ1 G5 H5 e5 ⟨m1, y7, y8, es, h5, gm5, d5, gd5⟩ => ?_)
  · subst es
    have hx : ∃ (r : Addr) (zs : List Int), x = .ref r ∧ G4 r = some (.lst (zs.map V.int)) ∧ zs.Sublist ys := by
      cases i with
      | zero => cases ex; exact ⟨q1, z1, rfl, a1, s1⟩
      | succ i => cases i with
        | zero => cases ex; exact ⟨q2, z2, rfl, a2, s2⟩
        | succ i => exact absurd hi (by show ¬ i + 1 + 1 < 2; omega)
    obtain ⟨r, zs, rfl, gr, sz⟩ := hx
    have gr5 : G5 r = some (.lst (zs.map V.int)) := e5.g _ _ gr
    have lz : zs.length ≤ 10 := Nat.le_trans sz.length_le ly
    have rz : InR n zs := fun z hz => hy z (sz.subset hz)
    walk_at "go"
    refine k_len (.inl (d5.s.seq (SqL.of gr5))) ?_
    walk_at "go"
    rw [List.length_map]
    refine ⟨_, rfl, by omega, by omega, ?_⟩
    refine forR (M := [dd, a]) d5.s (fun k σ1 G6 H6 => ∃ (m2 : Lead) (x8 : Option V), σ1 = [some (.ref a), some (.int n), some (.ref dd), x3, x4, some (.ref p2), some (.int cut), some (.ref r), x8, x9] ∧ H6 dd = some (.dK (dct m2)) ∧ GoodM n m2 ∧ Dr K c a ns G6 H6 ∧ G6 dd = none)
      ⟨m1, y8, rfl, h5, gm5, d5, gd5⟩ (fun k σ1 G6 H6 hk e6 ⟨m2, y8, es, h6, gm6, d6, gd6⟩ => ?_) (fun σ1 G6 H6 e6 ⟨m2, y8, es, h6, gm6, d6, gd6⟩ => ?_)
    · subst es
      have hk' : k < zs.length := by omega
      obtain ⟨z, hz, az⟩ := atI_before hk'
      have gr6 : SqL K H6 r (zs.map V.int) := d6.s.seq (e6.sqL (SqL.of gr5))
      have lm := gm6.len
      walk_at "go"
      refine k_ixL gr6 (v := .int z) (by rw [show (0 : Int) + (k : Int) - 1 = (k : Int) - 1 by omega]; exact az) ?_
      walk_at "go"
      refine k_ixL gr6 (atI_here hk') ?_
      have r1 := rz _ (List.getElem_mem hk')
      have r2 := rz z hz
      refine ⟨dd, _, rfl, k_dputAt h6 (by omega), ?_⟩
      exact ⟨G6, (Ext.refl d6.s).mutM (by simp) gd6, _, _, rfl, upd_same, gm6.put r1.1 r1.2 r2.1 r2.2, d6.mut gd6 ne, gd6⟩
    · subst es
      exact ⟨G6, e6, m2, _, _, rfl, h6, gm6, d6, gd6⟩
  · subst es
    exact q m1 _ _ _ G5 H5 (e4.trans e5) d5 h5 gm5
theorem pure_lead (vs : List V) (H : Hp) (Q : VK) (E : XK) (h : spLead K vs H Q E) : t__law_lead K w (spDrawn K) (spOrder K) { nx := fun _ H1 => Q .non H1, rt := Q }
    (start ["_law_state", "_law_boxes_here", "_law_known_here", "_law_often", "_law_box", "_law_around", "_law_cut", "_law_ring", "_law_k", "_law_goal"] vs) H := by
  obtain ⟨c, a, ns, G, n, rfl, d, n1, n10, q⟩ := h
  unfold t__law_lead
  walk_at "go"
  intro dd nd
  have ne := d.ne nd
  have gd : G dd = none := d.s.free nd
  have d0 := d.tmp (o := .dK []) nd
  walk_at "go"
  refine d0.draw (M := [a]) (by simp) (by decide) (by decide) fun oft H1 o0 o1 e1 d1 k1 => ?_
  have e1' : Ext [a] G H G H1 := ((Ext.refl d.s).tmp nd).trans e1
  have hd1 : H1 dd = some (.dK (dct [])) := by rw [k1 dd ne]; exact upd_same
  walk_at "go"
  refine ⟨_, rfl, by omega, by omega, ?_⟩
  refine forR (M := [dd, a]) d1.s (fun k σ1 G2 H2 => G2 = G ∧ ∃ (m : Lead) (x4 : Option V), σ1 = [some (.ref a), some (.int n), some (.ref dd), some (.int (1 + oft)), x4, none, none, none, none, none] ∧ H2 dd = some (.dK (dct m)) ∧ GoodM n m ∧ Dr K c a ns G2 H2)
    ⟨rfl, [], none, rfl, hd1, GoodM.nil n, d1⟩ (fun k σ1 G2 H2 hk e2 ⟨eG, m, x4, es, h2, gm, d2⟩ => ?_) (fun σ1 G2 H2 e2 ⟨eG, m, x4, es, h2, gm, d2⟩ => ?_)
  · subst eG es
    have lm := gm.len
    walk_at "go"
    refine d2.draw (M := [dd, a]) (by simp) (by omega) (by omega) fun x H3 x0 x1 e3 d3 k3 => ?_
    have h3 : H3 dd = some (.dK (dct m)) := by rw [k3 dd ne]; exact h2
    walk_at "go"
    refine k_both (fun hx => ?_) (fun hx => ?_)
    · walk_at "go"
      refine d3.draw (M := [dd, a]) (by simp) (by omega) (by omega) fun y H4 y0 y1 e4 d4 k4 => ?_
      have h4 : H4 dd = some (.dK (dct m)) := by rw [k4 dd ne]; exact h3
      walk_at "go"
      refine ⟨dd, _, rfl, k_dputAt h4 (by omega), ?_⟩
      exact ⟨G2, (e3.trans e4).mutM (by simp) gd, rfl, _, _, rfl, upd_same, gm.put (by omega) (by omega) y0 y1, d4.mut gd ne⟩
    · walk_at "go"
      exact ⟨G2, e3, rfl, m, _, rfl, h3, gm, d3⟩
  · subst eG es
    have e2' : Ext [a] G2 H G2 H2 := e1'.fin e2 (by simp [nd])
    walk_at "go"
    refine d2.draw (M := [a]) (by simp) (by decide) (by decide) fun x H3 x0 x1 e3 d3 k3 => ?_
    have h3 : H3 dd = some (.dK (dct m)) := by rw [k3 dd ne]; exact h2
    have e3' := e2'.trans e3
    walk_at "go"
    refine k_both (fun hx => ?_) (fun hx => ?_)
    · walk_at "go"
      refine ⟨RgOk.of_le (by decide) (by omega) (by decide) (by omega), fun pr npr => ?_⟩
      rw [rgV_ints]
      walk_at "go"
      have d4 := d3.new (o := .lst ((rangeI n.toNat).map V.int)) npr
      have e4 := e3'.new (o := .lst ((rangeI n.toNat).map V.int)) npr
      refine ⟨c, a, pr, ns, rangeI n.toNat, _, rfl, d4, SqL.of upd_same, by rw [len_rangeI]; omega, fun l zs G5 H5 e5 d5 nl pm gl => ?_⟩
      have ndp : dd ≠ pr := ne_of_none h3 npr
      have gd4 : (upd G2 pr (.lst ((rangeI n.toNat).map V.int))) dd = none := by rw [upd_ne ndp]; exact gd
      have h4 : (upd H3 pr (.lst ((rangeI n.toNat).map V.int))) dd = some (.dK (dct m)) := by rw [upd_ne ndp]; exact h3
      have h5 : H5 dd = some (.dK (dct m)) := e5.keep h4 (by simpa using ne)
      have gd5 : G5 dd = none := e5.un gd4 h4
      have e5' := e4.trans e5
      walk_at "go"
      refine d5.draw (M := [a]) (by simp) (by omega) (by omega) fun y H6 y0 y1 e6 d6 k6 => ?_
      have h6 : H6 dd = some (.dK (dct m)) := by rw [k6 dd ne]; exact h5
      have e6' := e5'.trans e6
      walk_at "go"
      refine ⟨l, _, rfl, d6.s.seq (SqL.of gl), fun p2 np2 => ?_⟩
      obtain ⟨ys, ey, sy⟩ := cut_ints zs none (some y)
      rw [ey]
      have d7 := d6.new (o := .lst (ys.map V.int)) np2
      have e7 := e6'.new (o := .lst (ys.map V.int)) np2
      have nd2 : dd ≠ p2 := ne_of_none h6 np2
      have h7 : (upd H6 p2 (.lst (ys.map V.int))) dd = some (.dK (dct m)) := by rw [upd_ne nd2]; exact h6
      have gd7 : (upd G5 p2 (.lst (ys.map V.int))) dd = none := by rw [upd_ne nd2]; exact gd5
      have ry : InR n ys := fun z hz => by
        have := mem_rangeI.mp (pm.mem_iff.mp (sy.subset hz))
        omega
      have ly : ys.length ≤ 10 := by
        have h1 := sy.length_le
        have h2 := pm.length_eq
        rw [len_rangeI] at h2
        omega
      walk_at "go"
      refine d7.draw (M := [a]) (by simp) (by decide) (by decide) fun z H8 z0 z1 e8 d8 k8 => ?_
      have h8 : H8 dd = some (.dK (dct m)) := by rw [k8 dd ne]; exact h7
      have e8' := e7.trans e8
      have rest : ∀ (d2 : Addr) (m2 : Lead) (G9 H9 : Hp), Ext [a] G2 H G9 H9 → Dr K c a ns G9 H9 → H9 d2 = some (.dK (dct m2)) → H d2 = none → G9 d2 = none → d2 ≠ a → GoodM n m2 → G9 p2 = some (.lst (ys.map V.int)) →
          (tSeq (tAsg (tCall (spDrawn K) [] E0 (tCons (tVar 0) (tCons (tOp vAdd (tCB (vLen K) (tCons (tVar 5) tNil)) (tC (.int 1))) tNil))) (gName 6))
    (tFor (iList K (tLst (tCons (tSl (rSlL K) (tVar 5) tNoPart (tPart (tVar 6))) (tCons (tSl (rSlL K) (tVar 5) (tPart (tVar 6)) tNoPart) tNil)))) (gName 7) (tFor (iRng1 (tCons (tCB (vLen K) (tCons (tVar 7) tNil)) tNil)) (gName 8) (sDPut (tVar 2) (tOp (rIxL K) (tVar 7) (tVar 8)) (tOp (rIxL K) (tVar 7) (tOp vSub (tVar 8) (tC (.int 1)))))))) 
            { nx := (tRet (tLc (iList K (tCall (spOrder K) [] E0 (tCons (tVar 0) (tCons (tCB vSortedDI (tCons (tVar 2) tNil)) tNil)))) (gName 9) tYes (tTup (tCons (tVar 9) (tCons (tDGet (tVar 2) (tVar 9)) tNil))) [9])) { nx := fun _ H1 => Q .non H1, rt := Q }, rt := Q }
            [some (.ref a), some (.int n), some (.ref d2), some (.int (1 + oft)), x4, some (.ref p2), none, none, none, none] H9 := by
        intro d2 m2 G9 H9 e9 d9 h9 nd9 gd9 ne9 gm9 gp9
        refine lead_fill d9 h9 gd9 ne9 gm9 n10 gp9 ry ly fun m1 y6 y7 y8 G10 H10 e10 d10 h10 gm10 => ?_
        exact lead_end (e9.fin e10 (by simp [nd9])) d10 h10 nd9 (e10.un gd9 h9) ne9 gm10 n10 q
      walk_at "go"
      refine k_both (fun hz => ?_) (fun hz => ?_)
      · walk_at "go"
        intro d2 nd9
        have ne9 := d8.ne nd9
        exact rest d2 [] _ _ (e8'.tmp nd9) (d8.tmp nd9) upd_same (e8'.d _ nd9) (d8.s.free nd9) ne9 (GoodM.nil n) upd_same
      · exact rest dd m _ _ e8' d8 h8 nd gd7 ne gm upd_same
    · refine k_next ?_
      refine lead_end e3' d3 h3 nd gd ne gm n10 ?_
      exact q
end
end MV
namespace MV
open PySem PySem.Spec PyProof.Rows L2
local macro_rules | `(tactic| walk_at "go") => `(tactic| repeat (first
  | with_reducible refine MV.k_seq ?_ | with_reducible refine MV.k_asg ?_ | with_reducible refine MV.k_name ?_ | with_reducible refine MV.k_op ?_ | ((with_reducible apply MV.k_var); exact rfl) | with_reducible refine MV.k_c ?_
  | with_reducible refine MV.k_add ?_ | with_reducible refine MV.k_sub ?_ | with_reducible refine MV.k_lt ?_ | with_reducible refine MV.k_le ?_ | with_reducible refine MV.k_gt ?_ | with_reducible refine MV.k_ge ?_ | with_reducible refine MV.k_eqI ?_ | with_reducible refine MV.k_neI ?_
  | with_reducible refine MV.k_test ?_ | with_reducible refine MV.k_B ?_ | with_reducible refine MV.k_bl ?_ | with_reducible refine MV.k_blV ?_ | with_reducible refine MV.k_and ?_ | with_reducible refine MV.k_or ?_ | with_reducible refine MV.k_not ?_ | with_reducible refine MV.k_andV ?_ | with_reducible refine MV.k_orV ?_ | with_reducible refine MV.k_notV ?_
  | with_reducible refine MV.k_if ?_ | with_reducible refine MV.k_tru ?_ | with_reducible refine MV.k_chain ?_ | with_reducible refine MV.k_next ?_ | with_reducible refine MV.k_drop ?_ | with_reducible refine MV.k_ret ?_ | with_reducible refine MV.k_retN ?_ | with_reducible refine MV.k_ifS ?_ | with_reducible refine MV.k_brk ?_ | with_reducible refine MV.k_cont ?_
  | with_reducible refine MV.k_nil ?_ | with_reducible refine MV.k_cons ?_ | with_reducible refine MV.k_tup ?_ | with_reducible refine MV.k_lst ?_ | with_reducible refine MV.k_cb ?_ | with_reducible refine MV.k_call ?_ | with_reducible refine MV.k_gnil ?_ | with_reducible refine MV.k_gcons ?_ | with_reducible refine MV.k_gsub ?_
  | with_reducible refine MV.k_bm ?_ | with_reducible refine MV.k_bm0 ?_ | with_reducible refine MV.k_un ?_ | with_reducible refine MV.k_neg ?_ | with_reducible refine MV.k_isN ?_ | with_reducible refine MV.k_notN ?_ | with_reducible refine L2.iteT ?_ | with_reducible refine L2.iteF ?_
  | with_reducible refine MV.k_iList ?_ | with_reducible refine MV.k_iTup ?_ | with_reducible refine MV.k_iRng1 ?_ | with_reducible refine MV.k_lc ?_ | with_reducible refine MV.k_for ?_
  | with_reducible refine MV.k_yes ?_ | with_reducible refine MV.k_dput ?_ | with_reducible refine MV.k_dget ?_ | with_reducible refine MV.k_dget1 ?_ | with_reducible refine MV.k_sl ?_ | with_reducible refine MV.k_nopart ?_ | with_reducible refine MV.k_part ?_ | with_reducible refine MV.k_pint ?_ | with_reducible refine MV.k_dnew ?_ | with_reducible refine MV.k_lstRg ?_ | with_reducible refine MV.k_rg1 ?_))
def t__law_same (K : PySem.W.Frag) (w : World) (s__law_same : Sp) : TS :=
  (tSeq (tIfS (tB (tCB (rIsiT K) (tCons (tVar 1) (tCons (tTup (tCons (tC (.ty "tuple")) (tCons (tC (.ty "list")) tNil))) tNil)))) (tSeq (tIfS (tOr (tNot (tB (tCB (rIsiT K) (tCons (tVar 0) (tCons (tTup (tCons (tC (.ty "tuple")) (tCons (tC (.ty "list")) tNil))) tNil))))) (tTest (tOp rNe (tCB (rIsi K) (tCons (tVar 0) (tCons (tC (.ty "list")) tNil))) (tCB (rIsi K) (tCons (tVar 1) (tCons (tC (.ty "list")) tNil)))))) (tRet (tC (.bl false))) tNext)
    (tSeq (tIfS (tTest (tOp rNe (tCB (vLen K) (tCons (tVar 0) tNil)) (tCB (vLen K) (tCons (tVar 1) tNil)))) (tRet (tC (.bl false))) tNext)
    (tRet (tOp (rEqD K) (tLc (iRng1 (tCons (tCB (vLen K) (tCons (tVar 1) tNil)) tNil)) (gName 2) (tNot (tB (tCall s__law_same [] E0 (tCons (tOp (rIx K) (tVar 0) (tVar 2)) (tCons (tOp (rIx K) (tVar 1) (tVar 2)) tNil))))) (tVar 2) [2]) (tLst tNil))))) tNext)
    (tSeq (tIfS (tTest (tOp vIsN (tVar 1) (tC .non))) (tRet (tOp vIsN (tVar 0) (tC .non))) tNext)
    (tSeq (tIfS (tB (tCB (rIsi K) (tCons (tVar 1) (tCons (tC (.ty "str")) tNil)))) (tRet (tAndV (tCB (rIsi K) (tCons (tVar 0) (tCons (tC (.ty "str")) tNil))) (tOp rEq (tVar 0) (tVar 1)))) tNext)
    (tSeq (tIfS (tOr (tB (tCB (rIsi K) (tCons (tVar 1) (tCons (tC (.ty "bool")) tNil)))) (tB (tCB (rIsi K) (tCons (tVar 0) (tCons (tC (.ty "bool")) tNil))))) (tRet (tAndV (tCB (rIsi K) (tCons (tVar 1) (tCons (tC (.ty "bool")) tNil))) (tAndV (tCB (rIsi K) (tCons (tVar 0) (tCons (tC (.ty "bool")) tNil))) (tOp rEq (tVar 0) (tVar 1))))) tNext)
    (tRet (tAndV (tCB (rIsi K) (tCons (tVar 0) (tCons (tC (.ty "int")) tNil))) (tOp rEq (tVar 0) (tVar 1))))))))
mutual
def small : PyData → Bool
  | .list ds => decide (ds.length ≤ 1000) && smallAll ds
  | .tuple ds => decide (ds.length ≤ 1000) && smallAll ds
  | _ => true
def smallAll : List PyData → Bool
  | [] => true
  | d :: r => small d && smallAll r
end
theorem smallAll_get : ∀ {ds : List PyData}, smallAll ds = true → ∀ {i : Nat} {d : PyData}, ds[i]? = some d → small d = true
  | [], _, i, d, e => by simp at e
  | a :: r, h, i, d, e => by
    have h' : small a = true ∧ smallAll r = true := Bool.and_eq_true_iff.mp h
    cases i with
    | zero => simp at e; rw [← e]; exact h'.1
    | succ j => simp at e; exact smallAll_get h'.2 e
theorem smallAll_of {ds : List PyData} (h : ∀ d, d ∈ ds → small d = true) : smallAll ds = true := by
  induction ds with
  | nil => rfl
  | cons a r ih => exact Bool.and_eq_true_iff.mpr ⟨h a (List.mem_cons_self ..), ih fun d hd => h d (List.mem_cons_of_mem _ hd)⟩
theorem depthAll_get : ∀ {ds : List PyData} {i : Nat} {d : PyData}, ds[i]? = some d → d.depth ≤ PyData.depthAll ds
  | [], i, d, e => by simp at e
  | a :: r, i, d, e => by
    show d.depth ≤ max a.depth (PyData.depthAll r)
    cases i with
    | zero => simp at e; rw [← e]; exact Nat.le_max_left _ _
    | succ j => simp at e; exact Nat.le_trans (depthAll_get e) (Nat.le_max_right _ _)
theorem depthAll_le {ds : List PyData} {n : Nat} (h : ∀ d, d ∈ ds → d.depth ≤ n) : PyData.depthAll ds ≤ n := by
  induction ds with
  | nil => exact Nat.zero_le _
  | cons a r ih => exact Nat.max_le.mpr ⟨h a (List.mem_cons_self ..), ih fun d hd => h d (List.mem_cons_of_mem _ hd)⟩
def tn : PyData → String
  | .none => "NoneType" | .bool _ => "bool" | .int _ => "int" | .str _ => "str" | .list _ => "list" | .tuple _ => "tuple" | .dict _ => "dict"
section
variable {K : PySem.W.Frag} {w : World} {H : Hp}
theorem dp_ty : ∀ {d : PyData} {v : V}, Dp K H v d → TyX K H v (.type (tn d)) := by
  intro d v h
  cases h with
  | non => exact .base .non
  | bl b => exact .base (.bl b)
  | int i => exact .base (.int i)
  | str x => exact .base (.str x)
  | lst hs _ =>
    rcases hs with (h | ⟨o, h⟩) | ⟨o, its, n, h, c, _⟩
    · exact .base (.lst h)
    · exact .base (.frz h)
    · exact .kList h c
  | tup hs _ =>
    rcases hs with (h | ⟨o, h⟩) | ⟨o, its, n, h, c, _⟩
    · exact .base (.tup h)
    · exact .fTuple h
    · exact .kTuple h c
/-- isinstance's answers -/
def isK (n : String) : PyData → Bool
  | .list _ => n == "list"
  | .tuple _ => n == "tuple"
  | .str _ => n == "str"
  | .bool _ => n == "bool" || n == "int"
  | .int _ => n == "int"
  | _ => false
theorem kit_isK {n : String} (hn : n ∈ ["list", "tuple", "str", "bool", "int"]) {v : V} : ∀ {d : PyData}, Dp K H v d → PySem.W.kitOne K (.type (tn d)) (.type n) = some (isK n d) := by
  intro d h
  simp only [List.mem_cons, List.not_mem_nil, or_false] at hn
  have all : ∀ m, m ∈ ["NoneType", "bool", "int", "str", "list", "tuple"] → ∀ n, n ∈ ["list", "tuple", "str", "bool", "int"] → kitB m n = some (m == n || (m == "bool" && n == "int")) := by decide +kernel
  have go : ∀ m r, m ∈ ["NoneType", "bool", "int", "str", "list", "tuple"] → (m == n || (m == "bool" && n == "int")) = r → PySem.W.kitOne K (.type m) (.type n) = some r := fun m r hm e => kit_ty (by rw [all m hm n (by simpa using hn), e])
  cases h with
  | non => exact go _ _ (by simp [tn]) (by rcases hn with z | z | z | z | z <;> subst z <;> rfl)
  | bl b => exact go _ _ (by simp [tn]) (by rcases hn with z | z | z | z | z <;> subst z <;> rfl)
  | int i => exact go _ _ (by simp [tn]) (by rcases hn with z | z | z | z | z <;> subst z <;> rfl)
  | str x => exact go _ _ (by simp [tn]) (by rcases hn with z | z | z | z | z <;> subst z <;> rfl)
  | lst hs _ => exact go _ _ (by simp [tn]) (by rcases hn with z | z | z | z | z <;> subst z <;> rfl)
  | tup hs _ => exact go _ _ (by simp [tn]) (by rcases hn with z | z | z | z | z <;> subst z <;> rfl)
theorem k_isi {n : String} (hn : n ∈ ["list", "tuple", "str", "bool", "int"]) {v : V} {d : PyData} {Q : VK} (h : Dp K H v d) (q : Q (.bl (isK n d)) H) : rIsi K [v, .ty n] H Q :=
  ⟨v, .ty n, _, _, _, rfl, .ty n, dp_ty h, kit_isK hn h, q⟩
theorem k_isSeq {v : V} {d : PyData} {Q : VK} {tp : Addr} (h : Dp K H v d) (ht : H tp = some (.tup [.ty "tuple", .ty "list"])) (q : Q (.bl (isK "tuple" d || isK "list" d)) H) : rIsiT K [v, .ref tp] H Q := by
  refine ⟨v, tp, _, _, [.type "tuple", .type "list"], _, rfl, ht, .cons (.ty _) (.cons (.ty _) .nil), dp_ty h, ?_, q⟩
  refine kitAny_cons (kit_isK (by simp) h) (fun e => ?_) (fun e => by rw [e]; rfl)
  rw [e]
  exact kitAny_cons (kit_isK (by simp) h) (fun e => by rw [e]; exact kitAny_nil) (fun e => by rw [e]; rfl)
/-- what is equal at every depth is the same -/
def spSame (K : PySem.W.Frag) (n : Nat) : Sp := fun vs H Q _ => ∃ (G : Hp) (d : PyData) (x y : V), vs = [x, y] ∧ Same G H ∧ Dp K G x d ∧ Dp K G y d ∧ small d = true ∧ d.depth < n ∧ ∀ H1, Ext [] G H G H1 → Q (.bl true) H1
theorem dp_at {G1 : Hp} (s : Same G1 H) {v : V} {d : PyData} (h : Dp K G1 v d) : Dp K H v d := dp_mono s d v h
theorem same_seq {n : Nat} {G : Hp} {d : PyData} {x y : V} {D : Ends} {ds : List PyData} {xs ys : List V} (ax ay : Addr) (ex : x = .ref ax) (ey : y = .ref ay) (s : Same G H) (hx : Dp K G x d) (hy : Dp K G y d)
    (hsx : SqL K G ax xs ∨ SqT K G ax xs) (hsy : SqL K G ay ys ∨ SqT K G ay ys) (gx : DpAll K G xs ds) (gy : DpAll K G ys ds) (sm : smallAll ds = true) (len : ds.length ≤ 1000) (dep : PyData.depthAll ds < n) (hk : (isK "tuple" d || isK "list" d) = true)
    (q : ∀ H1, Ext [] G H G H1 → D.rt (.bl true) H1) : t__law_same K w (spSame K n) D (start ["_law_found", "_law_due", "_law_k"] [x, y]) H := by
  subst ex ey
  have lx : xs.length = ds.length := dpAll_len gx
  have ly : ys.length = ds.length := dpAll_len gy
  have mono : ∀ {H2 : Hp}, Same G H2 → ∀ {p : Addr} {zs : List V}, (SqL K G p zs ∨ SqT K G p zs) → (SqL K H2 p zs ∨ SqT K H2 p zs) := fun s2 _ _ h => h.imp (fun z => s2.seq z) (fun z => sqT_mono s2 z)
  unfold t__law_same
  walk_at "go"
  refine ⟨sz1 (by simp), fun t1 n1 => ?_⟩
  have s1 := s.trans (same_new (o := .tup [.ty "tuple", .ty "list"]) n1)
  have e1 := (Ext.refl (M := []) s).tmp (o := .tup [.ty "tuple", .ty "list"]) n1
  walk_at "go"
  refine k_isSeq (dp_at s1 hy) upd_same ?_
  walk_at "go"
  rw [hk]
  refine iteT ?_
  walk_at "go"
  refine ⟨sz1 (by simp), fun t2 n2 => ?_⟩
  have s2 := s1.trans (same_new (o := .tup [.ty "tuple", .ty "list"]) n2)
  have e2 := e1.tmp (o := .tup [.ty "tuple", .ty "list"]) n2
  walk_at "go"
  refine k_isSeq (dp_at s2 hx) upd_same ?_
  walk_at "go"
  rw [hk]
  refine iteF ?_
  walk_at "go"
  refine k_isi (by simp) (dp_at s2 hx) ?_
  walk_at "go"
  refine k_isi (by simp) (dp_at s2 hy) ?_
  refine k_ne rfl ?_
  walk_at "go"
  refine k_nfalse rfl ?_
  walk_at "go"
  refine k_len (mono s2 hsx) ?_
  walk_at "go"
  refine k_len (mono s2 hsy) ?_
  walk_at "go"
  refine k_nfalse (by rw [lx, ly]) ?_
  walk_at "go"
  refine k_len (mono s2 hsy) ?_
  walk_at "go"
  refine ⟨_, rfl, by omega, by omega, ?_⟩
  rw [ly]
  refine lcR (n := ((ds.length : Nat) : Int).toNat) (M := []) s2 (fun _ h => nomatch h) (by omega) (fun i acc G1 H1 => acc = [] ∧ G1 = G) (fun _ _ _ _ _ _ h => h) ⟨rfl, rfl⟩ (fun i acc G1 H1 Ry Rn hi e iv fy fn => ?_) (fun l acc G1 H1 e nl gl hl ln iv => ?_)
  · obtain ⟨rfl, rfl⟩ := iv
    have hi' : i < ds.length := by omega
    have hx1 : i < xs.length := by omega
    have hy1 : i < ys.length := by omega
    obtain ⟨d1, ed1, p1⟩ := dpAll_get gx (List.getElem?_eq_getElem hx1)
    obtain ⟨d2, ed2, p2⟩ := dpAll_get gy (List.getElem?_eq_getElem hy1)
    have e12 : d2 = d1 := by rw [ed1] at ed2; exact (Option.some.inj ed2).symm
    subst e12
    have at1 : atI xs ((0 : Int) + (i : Int)) = some xs[i] := at_of (j := i) (by omega) (List.getElem?_eq_getElem hx1)
    have at2 : atI ys ((0 : Int) + (i : Int)) = some ys[i] := at_of (j := i) (by omega) (List.getElem?_eq_getElem hy1)
    walk_at "go"
    refine ⟨rfl, ?_⟩
    walk_at "go"
    have ix : ∀ {p : Addr} {zs : List V} {v : V} {Q : VK} {H2 : Hp}, (SqL K H2 p zs ∨ SqT K H2 p zs) → atI zs ((0 : Int) + (i : Int)) = some v → Q v H2 → rIx K (.ref p) (.int (0 + (i : Int))) H2 Q := fun h a q => by
      rcases h with h | h
      · exact .inl (k_ixL h a q)
      · exact .inr (.inl (k_ixT h a q))
    refine ix (mono e.s hsx) at1 ?_
    walk_at "go"
    refine ix (mono e.s hsy) at2 ?_
    walk_at "go"
    refine ⟨G1, d2, xs[i], ys[i], rfl, e.s, p1, p2, smallAll_get sm ed1, Nat.lt_of_le_of_lt (depthAll_get ed1) dep, fun H2 e2 => ?_⟩
    walk_at "go"
    exact fn _ _ e2 ⟨rfl, rfl⟩
  · obtain ⟨rfl, rfl⟩ := iv
    walk_at "go"
    refine ⟨sz1 (by simp), fun l2 nl2 => ?_⟩
    refine k_eqNil (ns := []) (SqL.of (upd_two (ne_of_none hl nl2) hl)) (SqL.of upd_same) ?_
    exact q _ ((e2.trans e).tmp nl2)
theorem pure_same {n : Nat} (vs : List V) (Q : VK) (E : XK) (h : spSame K (n + 1) vs H Q E) : t__law_same K w (spSame K n) { nx := fun _ H1 => Q .non H1, rt := Q } (start ["_law_found", "_law_due", "_law_k"] vs) H := by
  obtain ⟨G, d, x, y, rfl, s, hx, hy, sm, dep, q⟩ := h
  have flat : isK "tuple" d = false → isK "list" d = false → ∀ z, x = z → y = z → (∃ b, scal z z = b ∧ b = true) → (d = .none ∨ (∃ b, d = .bool b) ∨ (∃ i, d = .int i) ∨ ∃ b, d = .str b) →
      t__law_same K w (spSame K n) { nx := fun _ H1 => Q .non H1, rt := Q } (start ["_law_found", "_law_due", "_law_k"] [x, y]) H := by
    intro k1 k2 z ex ey hs hd
    subst ex ey
    obtain ⟨_, sc, rfl⟩ := hs
    unfold t__law_same
    walk_at "go"
    refine ⟨sz1 (by simp), fun t1 n1 => ?_⟩
    have s1 := s.trans (same_new (o := .tup [.ty "tuple", .ty "list"]) n1)
    have e1 := (Ext.refl (M := []) s).tmp (o := .tup [.ty "tuple", .ty "list"]) n1
    walk_at "go"
    refine k_isSeq (dp_at s1 hy) upd_same ?_
    walk_at "go"
    rw [k1, k2]
    refine iteF ?_
    walk_at "go"
    rcases hd with rfl | ⟨b, rfl⟩ | ⟨i, rfl⟩ | ⟨b, rfl⟩
    · have hx2 := hx
      cases hx2
      refine k_true rfl ?_
      walk_at "go"
      exact q _ e1
    · have hx2 := hx
      cases hx2
      refine k_false (fun z => nomatch z) ?_
      walk_at "go"
      refine k_isi (by simp) (dp_at s1 hy) ?_
      walk_at "go"
      refine iteF ?_
      walk_at "go"
      refine k_isi (by simp) (dp_at s1 hy) ?_
      walk_at "go"
      refine iteT ?_
      walk_at "go"
      refine k_isi (by simp) (dp_at s1 hy) ?_
      walk_at "go"
      refine iteT ?_
      walk_at "go"
      refine k_isi (by simp) (dp_at s1 hx) ?_
      walk_at "go"
      refine iteT ?_
      walk_at "go"
      refine k_eq rfl ?_
      rw [decide_eq_true rfl]
      exact q _ e1
    · have hx2 := hx
      cases hx2
      refine k_false (fun z => nomatch z) ?_
      walk_at "go"
      refine k_isi (by simp) (dp_at s1 hy) ?_
      walk_at "go"
      refine iteF ?_
      walk_at "go"
      refine k_isi (by simp) (dp_at s1 hy) ?_
      walk_at "go"
      refine iteF ?_
      walk_at "go"
      refine k_isi (by simp) (dp_at s1 hx) ?_
      walk_at "go"
      refine iteF ?_
      walk_at "go"
      refine k_isi (by simp) (dp_at s1 hx) ?_
      walk_at "go"
      refine iteT ?_
      walk_at "go"
      rw [decide_eq_true rfl]
      exact q _ e1
    · have hx2 := hx
      cases hx2
      refine k_false (fun z => nomatch z) ?_
      walk_at "go"
      refine k_isi (by simp) (dp_at s1 hy) ?_
      walk_at "go"
      refine iteT ?_
      walk_at "go"
      refine k_isi (by simp) (dp_at s1 hx) ?_
      walk_at "go"
      refine iteT ?_
      walk_at "go"
      refine k_eq rfl ?_
      rw [decide_eq_true rfl]
      exact q _ e1
  cases d with
  | none => cases hx; cases hy; exact flat rfl rfl _ rfl rfl ⟨_, rfl, rfl⟩ (.inl rfl)
  | bool b => cases hx; cases hy; exact flat rfl rfl _ rfl rfl ⟨_, rfl, rfl⟩ (.inr (.inl ⟨b, rfl⟩))
  | int i => cases hx; cases hy; exact flat rfl rfl _ rfl rfl ⟨_, rfl, rfl⟩ (.inr (.inr (.inl ⟨i, rfl⟩)))
  | str z => cases hx; cases hy; exact flat rfl rfl _ rfl rfl ⟨_, rfl, rfl⟩ (.inr (.inr (.inr ⟨z, rfl⟩)))
  | dict _ => cases hx
  | list ds =>
    obtain ⟨ax, xs, rfl, h1, g1⟩ := dp_list hx
    obtain ⟨ay, ys, rfl, h2, g2⟩ := dp_list hy
    have sm' : decide (ds.length ≤ 1000) = true ∧ smallAll ds = true := Bool.and_eq_true_iff.mp sm
    exact same_seq ax ay rfl rfl s hx hy (.inl h1) (.inl h2) g1 g2 sm'.2 (of_decide_eq_true sm'.1) (by have : PyData.depthAll ds + 1 < n + 1 := dep; omega) rfl q
  | tuple ds =>
    obtain ⟨ax, xs, rfl, h1, g1⟩ := dp_tuple hx
    obtain ⟨ay, ys, rfl, h2, g2⟩ := dp_tuple hy
    have sm' : decide (ds.length ≤ 1000) = true ∧ smallAll ds = true := Bool.and_eq_true_iff.mp sm
    exact same_seq ax ay rfl rfl s hx hy (.inr h1) (.inr h2) g1 g2 sm'.2 (of_decide_eq_true sm'.1) (by have : PyData.depthAll ds + 1 < n + 1 := dep; omega) rfl q
end
end MV
namespace MV
open PySem PySem.Spec PyProof.Rows L2
local macro_rules | `(tactic| walk_at "go") => `(tactic| repeat (first
  | with_reducible refine MV.k_seq ?_ | with_reducible refine MV.k_asg ?_ | with_reducible refine MV.k_name ?_ | with_reducible refine MV.k_op ?_ | ((with_reducible apply MV.k_var); exact rfl) | with_reducible refine MV.k_c ?_
  | with_reducible refine MV.k_add ?_ | with_reducible refine MV.k_sub ?_ | with_reducible refine MV.k_lt ?_ | with_reducible refine MV.k_le ?_ | with_reducible refine MV.k_gt ?_ | with_reducible refine MV.k_ge ?_ | with_reducible refine MV.k_eqI ?_ | with_reducible refine MV.k_neI ?_
  | with_reducible refine MV.k_test ?_ | with_reducible refine MV.k_B ?_ | with_reducible refine MV.k_bl ?_ | with_reducible refine MV.k_blV ?_ | with_reducible refine MV.k_and ?_ | with_reducible refine MV.k_or ?_ | with_reducible refine MV.k_not ?_ | with_reducible refine MV.k_andV ?_ | with_reducible refine MV.k_orV ?_ | with_reducible refine MV.k_notV ?_
  | with_reducible refine MV.k_if ?_ | with_reducible refine MV.k_tru ?_ | with_reducible refine MV.k_chain ?_ | with_reducible refine MV.k_next ?_ | with_reducible refine MV.k_drop ?_ | with_reducible refine MV.k_ret ?_ | with_reducible refine MV.k_retN ?_ | with_reducible refine MV.k_ifS ?_ | with_reducible refine MV.k_brk ?_ | with_reducible refine MV.k_cont ?_
  | with_reducible refine MV.k_nil ?_ | with_reducible refine MV.k_cons ?_ | with_reducible refine MV.k_tup ?_ | with_reducible refine MV.k_lst ?_ | with_reducible refine MV.k_cb ?_ | with_reducible refine MV.k_call ?_ | with_reducible refine MV.k_gnil ?_ | with_reducible refine MV.k_gcons ?_ | with_reducible refine MV.k_gsub ?_
  | with_reducible refine MV.k_bm ?_ | with_reducible refine MV.k_bm0 ?_ | with_reducible refine MV.k_un ?_ | with_reducible refine MV.k_neg ?_ | with_reducible refine MV.k_isN ?_ | with_reducible refine MV.k_notN ?_ | with_reducible refine L2.iteT ?_ | with_reducible refine L2.iteF ?_
  | with_reducible refine MV.k_iList ?_ | with_reducible refine MV.k_iTup ?_ | with_reducible refine MV.k_iRng1 ?_ | with_reducible refine MV.k_lc ?_ | with_reducible refine MV.k_for ?_
  | with_reducible refine MV.k_yes ?_ | with_reducible refine MV.k_dput ?_ | with_reducible refine MV.k_dget ?_ | with_reducible refine MV.k_dget1 ?_ | with_reducible refine MV.k_sl ?_ | with_reducible refine MV.k_nopart ?_ | with_reducible refine MV.k_part ?_ | with_reducible refine MV.k_pint ?_ | with_reducible refine MV.k_dnew ?_ | with_reducible refine MV.k_lstRg ?_ | with_reducible refine MV.k_rg1 ?_))
def t_is_count (K : PySem.W.Frag) (w : World) : TS :=
  (tRet (tChain vLe vLe (tC (.int 1)) (tVar 0) (tC (.int 10))))
def t_check_boxes (K : PySem.W.Frag) (w : World) (s_is_count : Sp) : TS :=
  (tIfS (tNot (tB (tCall s_is_count [] E0 (tCons (tVar 0) tNil)))) tNever tNext)
def t_is_box (K : PySem.W.Frag) (w : World) : TS :=
  (tRet (tChain vLe vLt (tC (.int 0)) (tVar 1) (tVar 0)))
def t_check_lead (K : PySem.W.Frag) (w : World) (s_check_boxes : Sp) (s_is_box : Sp) : TS :=
  (tSeq (tDrop (tCall s_check_boxes [] E0 (tCons (tVar 0) tNil)))
    (tSeq (tAsg (tCB (rSet0 w) tNil) (gName 2))
    (tFor (iList K (tVar 1)) (gName 3) (tSeq (tIfS (tTest (tOp rNe (tCB (vLen K) (tCons (tVar 3) tNil)) (tC (.int 2)))) tNever tNext)
    (tSeq (tAsg (tVar 3) (gTup K 2 (gCons (gName 4) (gCons (gName 5) gNil))))
    (tSeq (tIfS (tOr (tNot (tB (tCall s_is_box [] E0 (tCons (tVar 0) (tCons (tVar 4) tNil))))) (tNot (tB (tCall s_is_box [] E0 (tCons (tVar 0) (tCons (tVar 5) tNil)))))) tNever tNext)
    (tSeq (tIfS (tTest (tOp (rSIn w) (tVar 4) (tVar 2))) tNever tNext)
    (tDrop (tSAdd w (tVar 2) (tCons (tVar 4) tNil))))))))))
def t_real_pairs (K : PySem.W.Frag) (w : World) : TS :=
  (tRet (tLc (iList K (tVar 0)) (gTup K 2 (gCons (gName 1) (gCons (gName 2) gNil))) (tTest (tOp rNe (tVar 1) (tVar 2))) (tTup (tCons (tVar 1) (tCons (tVar 2) tNil))) [1, 2]))
section
variable {K : PySem.W.Frag} {w : World} {H : Hp}
theorem pair_of {G : Hp} {v : V} {p : Int × Int} (h : Dp K G v (pdPair p)) : ∃ t, v = .ref t ∧ SqT K G t [.int p.1, .int p.2] := by
  obtain ⟨t, zs, rfl, hs, ha⟩ := dp_tuple h
  refine ⟨t, rfl, ?_⟩
  have e := dpAll_of_ints (ns := [p.1, p.2]) ha
  rw [e] at hs
  exact hs
theorem pair_at {G : Hp} {xs : List V} {ld : Lead} (h : DpAll K G xs (ld.map pdPair)) {i : Nat} {x : V} (e : xs[i]? = some x) : ∃ t p, ld[i]? = some p ∧ x = .ref t ∧ SqT K G t [.int p.1, .int p.2] := by
  obtain ⟨d, ed, q⟩ := dpAll_get h e
  rw [List.getElem?_map] at ed
  cases e2 : ld[i]? with
  | none => rw [e2] at ed; cases ed
  | some p =>
    rw [e2] at ed
    cases ed
    obtain ⟨t, rfl, hs⟩ := pair_of q
    exact ⟨t, p, rfl, rfl, hs⟩
/-- a lead as a list of pairs at l -/
structure LeadAt (K : PySem.W.Frag) (G : Hp) (l : Addr) (ld : Lead) : Prop where
  ex : ∃ xs, SqL K G l xs ∧ DpAll K G xs (ld.map pdPair)
theorem LeadAt.mono {G G1 : Hp} {l : Addr} {ld : Lead} (h : LeadAt K G l ld) (s : Same G G1) : LeadAt K G1 l ld := by
  obtain ⟨xs, a, b⟩ := h.ex
  exact ⟨xs, s.seq a, dpAll_mono s _ _ b⟩
def spIsCount : Sp := fun vs H Q _ => ∃ n : Int, vs = [.int n] ∧ Q (.bl (decide (1 ≤ n ∧ n ≤ 10))) H
theorem pure_is_count (vs : List V) (Q : VK) (E : XK) (h : spIsCount vs H Q E) : t_is_count K w { nx := fun _ H1 => Q .non H1, rt := Q } (start ["boxes"] vs) H := by
  obtain ⟨n, rfl, q⟩ := h
  unfold t_is_count
  walk_at "go"
  refine k_both (fun h => ?_) (fun h => ?_)
  · walk_at "go"
    have e : decide (1 ≤ n ∧ n ≤ 10) = decide (n ≤ 10) := by
      by_cases z : n ≤ 10
      · rw [decide_eq_true z, decide_eq_true ⟨h, z⟩]
      · rw [decide_eq_false z, decide_eq_false fun y => z y.2]
    rw [← e]; exact q
  · have e : decide (1 ≤ n ∧ n ≤ 10) = false := decide_eq_false fun y => h y.1
    rw [← e]; exact q
def spCheckBoxes : Sp := fun vs H Q _ => ∃ n : Int, vs = [.int n] ∧ 1 ≤ n ∧ n ≤ 10 ∧ Q .non H
theorem pure_check_boxes (vs : List V) (Q : VK) (E : XK) (h : spCheckBoxes vs H Q E) : t_check_boxes K w spIsCount { nx := fun _ H1 => Q .non H1, rt := Q } (start ["boxes"] vs) H := by
  obtain ⟨n, rfl, n1, n10, q⟩ := h
  unfold t_check_boxes
  walk_at "go"
  refine ⟨n, rfl, ?_⟩
  walk_at "go"
  refine k_nfalse ⟨n1, n10⟩ ?_
  exact q
def spIsBox : Sp := fun vs H Q _ => ∃ n b : Int, vs = [.int n, .int b] ∧ Q (.bl (decide (0 ≤ b ∧ b < n))) H
theorem pure_is_box (vs : List V) (Q : VK) (E : XK) (h : spIsBox vs H Q E) : t_is_box K w { nx := fun _ H1 => Q .non H1, rt := Q } (start ["boxes", "box"] vs) H := by
  obtain ⟨n, b, rfl, q⟩ := h
  unfold t_is_box
  walk_at "go"
  refine k_both (fun h => ?_) (fun h => ?_)
  · walk_at "go"
    have e : decide (0 ≤ b ∧ b < n) = decide (b < n) := by
      by_cases z : b < n
      · rw [decide_eq_true z, decide_eq_true ⟨h, z⟩]
      · rw [decide_eq_false z, decide_eq_false fun y => z y.2]
    rw [← e]; exact q
  · have e : decide (0 ≤ b ∧ b < n) = false := decide_eq_false fun y => h y.1
    rw [← e]; exact q
def spCheckLead (K : PySem.W.Frag) : Sp := fun vs H Q _ => ∃ (G : Hp) (n : Int) (l : Addr) (ld : Lead), vs = [.int n, .ref l] ∧ Same G H ∧ 1 ≤ n ∧ n ≤ 10 ∧ LeadAt K G l ld ∧ GoodM n ld ∧ ∀ H1, Ext [] G H G H1 → Q .non H1
theorem pure_check_lead (vs : List V) (Q : VK) (E : XK) (h : spCheckLead K vs H Q E) : t_check_lead K w spCheckBoxes spIsBox { nx := fun _ H1 => Q .non H1, rt := Q } (start ["boxes", "lead", "goals", "pair", "goal", "source"] vs) H := by
  obtain ⟨G, n, l, ld, rfl, s, n1, n10, ⟨xs, hx, hd⟩, gm, q⟩ := h
  have ll : xs.length = ld.length := by rw [dpAll_len hd, List.length_map]
  have l10 : ld.length ≤ 10 := by have := gm.len; omega
  unfold t_check_lead
  walk_at "go"
  refine ⟨n, rfl, n1, n10, ?_⟩
  walk_at "go"
  refine ⟨rfl, fun gs ngs => ?_⟩
  have e0 := (Ext.refl (M := []) s).tmp (o := SetO w gs (fun _ => false) 0) ngs
  have gg : G gs = none := s.free ngs
  walk_at "go"
  refine ⟨_, rfl, ⟨_, e0.s.seq hx⟩, ?_⟩
  refine forL (M := [gs]) e0.s hx (fun i σ1 G1 H1 => G1 = G ∧ ∃ (x3 x4 x5 : Option V) (S : Int → Bool) (k : Nat), σ1 = [some (.int n), some (.ref l), some (.ref gs), x3, x4, x5] ∧ H1 gs = some (SetO w gs S k) ∧ k ≤ i ∧ ∀ z, S z = decide (z ∈ (ld.take i).map (·.1)))
    ⟨rfl, none, none, none, _, 0, rfl, upd_same, Nat.le_refl _, fun z => by simp⟩ (fun i x σ1 G1 H1 hi ex e ⟨eG, x3, x4, x5, S, k, es, hS, hk, hz⟩ => ?_) (fun σ1 G1 H1 e ⟨eG, x3, x4, x5, S, k, es, hS, hk, hz⟩ => ?_)
  · subst eG es
    obtain ⟨t, p, ep, rfl, ht⟩ := pair_at hd ex
    have ht1 : SqT K H1 t [.int p.1, .int p.2] := sqT_mono e.s ht
    have hp : p ∈ ld := List.mem_of_getElem? ep
    have r := gm.rg p hp
    walk_at "go"
    refine k_len (.inr ht1) ?_
    walk_at "go"
    refine k_nfalse rfl ?_
    walk_at "go"
    refine k_tupN ht1 rfl ?_
    walk_at "go"
    refine ⟨n, p.1, rfl, ?_⟩
    walk_at "go"
    rw [decide_eq_true (show 0 ≤ p.1 ∧ p.1 < n by omega)]
    refine iteF ?_
    walk_at "go"
    refine ⟨n, p.2, rfl, ?_⟩
    walk_at "go"
    rw [decide_eq_true (show 0 ≤ p.2 ∧ p.2 < n by omega)]
    refine iteF ?_
    walk_at "go"
    refine ⟨p.1, gs, S, k, rfl, rfl, hS, ?_⟩
    walk_at "go"
    have hno : S p.1 = false := by
      rw [hz]
      refine decide_eq_false fun m => ?_
      have nd := gm.nd
      have e2 : ld = ld.take i ++ p :: ld.drop (i + 1) := by
        have hi' : i < ld.length := (List.getElem?_eq_some_iff.mp ep).1
        have e3 : ld[i] = p := (List.getElem?_eq_some_iff.mp ep).2
        rw [← e3, ← List.drop_eq_getElem_cons hi', List.take_append_drop]
      rw [e2, List.map_append, List.map_cons] at nd
      exact (List.nodup_append.mp nd).2.2 _ m _ (List.mem_cons_self ..) rfl
    rw [hno]
    refine iteF ?_
    walk_at "go"
    show tVar 2 _ _ _
    walk_at "go"
    refine ⟨⟨gs, S, k, rfl, hS⟩, ?_⟩
    walk_at "go"
    refine ⟨gs, p.1, S, k, rfl, rfl, hS, by unfold scanBound; omega, ?_⟩
    refine ⟨G1, (Ext.refl e.s).mutM (by simp) gg, rfl, _, _, _, _, _, rfl, upd_same, by split <;> omega, fun z => ?_⟩
    rw [hz, List.take_add_one, ep, List.map_append]
    show (decide (z ∈ (ld.take i).map (·.1)) || decide (z = p.1)) = decide (z ∈ (ld.take i).map (·.1) ++ [p.1])
    by_cases m1 : z ∈ (ld.take i).map (·.1)
    · rw [decide_eq_true m1, decide_eq_true (List.mem_append_left _ m1)]; rfl
    · by_cases m2 : z = p.1
      · rw [decide_eq_true m2, decide_eq_true (List.mem_append_right _ (List.mem_singleton.mpr m2)), Bool.or_true]
      · rw [decide_eq_false m1, decide_eq_false m2, decide_eq_false fun y => (List.mem_append.mp y).elim m1 fun y => m2 (List.mem_singleton.mp y)]; rfl
  · subst eG es
    exact q _ (e0.fin e (by simp [ngs]))
/-- the real pairs of a lead: a new list of new pairs -/
def spRealPairs (K : PySem.W.Frag) : Sp := fun vs H Q _ => ∃ (G : Hp) (l : Addr) (ld : Lead), vs = [.ref l] ∧ Same G H ∧ LeadAt K G l ld ∧ ld.length ≤ 1000 ∧
  ∀ (p : Addr) (ts : List Addr) (G1 H1 : Hp), Ext [] G H G1 H1 → H p = none → G1 p = some (.lst (ts.map V.ref)) → Paired (fun t (x : Int × Int) => SqT K G1 t [.int x.1, .int x.2]) ts (real ld) → Q (.ref p) H1
theorem paired_app {α β : Type} {F : α → β → Prop} : ∀ {a : List α} {b : List β} {x : α} {y : β}, Paired F a b → F x y → Paired F (a ++ [x]) (b ++ [y])
  | _, _, _, _, .nil, h => .cons h .nil
  | _, _, _, _, .cons r t, h => .cons r (paired_app t h)
theorem paired_mono {α β : Type} {F F2 : α → β → Prop} (k : ∀ a b, F a b → F2 a b) : ∀ {a : List α} {b : List β}, Paired F a b → Paired F2 a b
  | _, _, .nil => .nil
  | _, _, .cons r t => .cons (k _ _ r) (paired_mono k t)
theorem paired_len {α β : Type} {F : α → β → Prop} : ∀ {a : List α} {b : List β}, Paired F a b → a.length = b.length
  | _, _, .nil => rfl
  | _, _, .cons _ t => by simp [paired_len t]
theorem real_snoc {ld : Lead} {i : Nat} {p : Int × Int} (e : ld[i]? = some p) : real (ld.take (i + 1)) = if p.1 ≠ p.2 then real (ld.take i) ++ [p] else real (ld.take i) := by
  unfold real
  rw [List.take_add_one, e, List.filter_append]
  by_cases h : p.1 ≠ p.2
  · rw [if_pos h]; simp [h]
  · rw [if_neg h]; simp at h; simp [h]
theorem pure_real_pairs (vs : List V) (Q : VK) (E : XK) (h : spRealPairs K vs H Q E) : t_real_pairs K w { nx := fun _ H1 => Q .non H1, rt := Q } (start ["lead", "goal", "source"] vs) H := by
  obtain ⟨G, l, ld, rfl, s, ⟨xs, hx, hd⟩, l1, q⟩ := h
  have ll : xs.length = ld.length := by rw [dpAll_len hd, List.length_map]
  unfold t_real_pairs
  walk_at "go"
  refine ⟨_, rfl, ⟨_, s.seq hx⟩, ?_⟩
  refine lcL (M := []) s (fun _ h => nomatch h) hx (by omega) (fun i acc G1 H1 => ∃ ts : List Addr, acc = ts.map V.ref ∧ Paired (fun t (x : Int × Int) => SqT K G1 t [.int x.1, .int x.2]) ts (real (ld.take i))) (fun _ _ _ _ _ _ h => h) ⟨[], rfl, .nil⟩
    (fun i x acc G1 H1 Ry Rn hi ex e iv hy hn => ?_) (fun p acc G1 H1 e np gp hp hl iv => ?_)
  · obtain ⟨ts, rfl, pr⟩ := iv
    obtain ⟨t, p, ep, rfl, ht⟩ := pair_at hd ex
    walk_at "go"
    refine k_tupN (sqT_mono e.s (sqT_mono e.g ht)) rfl ?_
    walk_at "go"
    refine ⟨rfl, ?_⟩
    walk_at "go"
    refine k_nboth (fun h => ?_) (fun h => ?_)
    · walk_at "go"
      refine ⟨sz1 (by simp), fun t2 n2 => ?_⟩
      refine hy _ _ _ ((Ext.refl e.s).new n2) ⟨ts ++ [t2], by simp, ?_⟩
      rw [real_snoc ep, if_pos h]
      exact paired_app (paired_mono (fun a b z => sqT_mono (same_new (e.s.free n2)) z) pr) (SqT.of upd_same)
    · refine hn _ _ (Ext.refl e.s) ⟨ts, rfl, ?_⟩
      rw [real_snoc ep, if_neg (fun z => z h)]
      exact pr
  · obtain ⟨ts, rfl, pr⟩ := iv
    rw [ll, List.take_length] at pr
    refine q p ts _ H1 (e.frz np gp hp) np upd_same (paired_mono (fun a b z => sqT_mono (same_new gp) z) pr)
end
end MV
namespace MV
open PySem PySem.Spec PyProof.Rows L2
/-! ### rings, as plain lists -/
def walkR (f : Int → Option Int) : Nat → List Int → Option Int → List Int × Option Int
  | 0, p, s => (p, s)
  | _ + 1, p, none => (p, none)
  | n + 1, p, some x => if x ∈ p then (p, some x) else walkR f n (p ++ [x]) (f x)
def ringFrom (f : Int → Option Int) (b : Int) : List Int := if (walkR f 12 [b] (f b)).2 = some b then b :: ((walkR f 12 [b] (f b)).1.drop 1).reverse else []
def Goes (f : Int → Option Int) (b : Int) : Int → List Int → Prop
  | x, [] => f x = some b
  | x, y :: T => f x = some y ∧ Goes f b y T
def Along (f : Int → Option Int) : Int → List Int → Int → Prop
  | x, [], y => x = y
  | x, z :: T, y => f x = some z ∧ Along f z T y
def Ch (f : Int → Option Int) : List Int → Prop
  | [] => True
  | [_] => True
  | x :: y :: r => f x = some y ∧ Ch f (y :: r)
structure IsBack (f : Int → Option Int) (b : Int) (T : List Int) : Prop where
  ne : T ≠ []
  nd : (b :: T).Nodup
  go : Goes f b b T
section
variable {f : Int → Option Int} {b : Int}
theorem goes_one : ∀ {x : Int} {T U : List Int}, Goes f b x T → Goes f b x U → b ∉ T → b ∉ U → T = U
  | x, [], [], _, _, _, _ => rfl
  | x, [], y :: U, h, h2, _, n2 => by
    have e : f x = some b := h
    have : b = y := Option.some.inj (e.symm.trans h2.1)
    exact absurd (by rw [this]; exact List.mem_cons_self ..) n2
  | x, y :: T, [], h, h2, n1, _ => by
    have e : f x = some b := h2
    have : b = y := Option.some.inj (e.symm.trans h.1)
    exact absurd (by rw [this]; exact List.mem_cons_self ..) n1
  | x, y :: T, z :: U, h, h2, n1, n2 => by
    have e : y = z := Option.some.inj (h.1.symm.trans h2.1)
    subst e
    rw [goes_one h.2 h2.2 (fun m => n1 (List.mem_cons_of_mem _ m)) (fun m => n2 (List.mem_cons_of_mem _ m))]
theorem IsBack.one {T U : List Int} (h : IsBack f b T) (h2 : IsBack f b U) : T = U :=
  goes_one h.go h2.go (List.nodup_cons.mp h.nd).1 (List.nodup_cons.mp h2.nd).1
theorem walk_goes : ∀ {T p : List Int} {x : Int} {n : Nat}, Goes f b x T → (p ++ T).Nodup → b ∈ p → T.length < n → walkR f n p (f x) = (p ++ T, some b)
  | [], p, x, 0, _, _, _, hn => absurd hn (Nat.not_lt_zero _)
  | [], p, x, n + 1, h, _, hb, _ => by
    have e : f x = some b := h
    rw [e, List.append_nil]
    show (if b ∈ p then (p, some b) else _) = _
    rw [if_pos hb]
  | y :: T, p, x, 0, _, _, _, hn => absurd hn (Nat.not_lt_zero _)
  | y :: T, p, x, n + 1, h, nd, hb, hn => by
    rw [h.1]
    have ny : y ∉ p := fun m => (List.nodup_append.mp nd).2.2 y m y (List.mem_cons_self ..) rfl
    show (if y ∈ p then (p, some y) else walkR f n (p ++ [y]) (f y)) = _
    rw [if_neg ny]
    have e : p ++ y :: T = (p ++ [y]) ++ T := by simp
    rw [e] at nd ⊢
    exact walk_goes h.2 nd (List.mem_append_left _ hb) (by simpa using hn)
theorem along_goes : ∀ {T : List Int} {x y : Int}, Along f x T y → f y = some b → Goes f b x T
  | [], x, y, h, e => by have h : x = y := h; rw [← h] at e; exact e
  | z :: T, x, y, h, e => ⟨h.1, along_goes h.2 e⟩
theorem along_snoc : ∀ {T : List Int} {x y z : Int}, Along f x T y → f y = some z → Along f x (T ++ [z]) z
  | [], x, y, z, h, e => by have h : x = y := h; subst h; exact ⟨e, rfl⟩
  | w :: T, x, y, z, h, e => ⟨h.1, along_snoc h.2 e⟩
theorem walk_back : ∀ {n : Nat} {T P : List Int} {x : Int}, Along f b T x → (b :: T).Nodup → walkR f n (b :: T) (f x) = (P, some b) → ∃ U, P = b :: U ∧ (b :: U).Nodup ∧ Goes f b b U
  | 0, T, P, x, h, nd, e => by
    have e1 : b :: T = P := congrArg Prod.fst e
    have e2 : f x = some b := congrArg Prod.snd e
    exact ⟨T, e1.symm, nd, along_goes h e2⟩
  | n + 1, T, P, x, h, nd, e => by
    cases ef : f x with
    | none => rw [ef] at e; cases e
    | some y =>
      rw [ef] at e
      have e : (if y ∈ b :: T then (b :: T, some y) else walkR f n ((b :: T) ++ [y]) (f y)) = (P, some b) := e
      by_cases m : y ∈ b :: T
      · rw [if_pos m] at e
        have e1 : b :: T = P := congrArg Prod.fst e
        have e2 : some y = some b := congrArg Prod.snd e
        rw [e2] at ef
        exact ⟨T, e1.symm, nd, along_goes h ef⟩
      · rw [if_neg m] at e
        have nd2 : (b :: (T ++ [y])).Nodup := by
          show ((b :: T) ++ [y]).Nodup
          refine List.nodup_append.mpr ⟨nd, by simp, fun a ha c hc z => ?_⟩
          have : c = y := List.mem_singleton.mp hc
          rw [z, this] at ha
          exact m ha
        exact walk_back (along_snoc h ef) nd2 e
theorem ringFrom_of {T : List Int} (h : IsBack f b T) (l : T.length ≤ 10) : ringFrom f b = b :: T.reverse := by
  have e : walkR f 12 [b] (f b) = ([b] ++ T, some b) := walk_goes h.go h.nd (List.mem_singleton.mpr rfl) (by omega)
  unfold ringFrom
  rw [e, if_pos rfl]
  rfl
theorem ringFrom_back (hf : ∀ x, f x ≠ some x) (h : ringFrom f b ≠ []) : ∃ T, IsBack f b T ∧ ringFrom f b = b :: T.reverse := by
  unfold ringFrom at h ⊢
  by_cases c : (walkR f 12 [b] (f b)).2 = some b
  · rw [if_pos c]
    obtain ⟨U, e, nd, g⟩ := walk_back (n := 12) (T := []) (P := (walkR f 12 [b] (f b)).1) (x := b) (f := f) (b := b) rfl (by simp) (by rw [← c])
    rw [e]
    refine ⟨U, ⟨fun z => ?_, nd, g⟩, rfl⟩
    subst z
    exact hf b g
  · rw [if_neg c] at h
    exact absurd rfl h
/-! the least rings -/
def leastRing (f : Int → Option Int) (b : Int) : Option (List Int) := if ringFrom f b ≠ [] ∧ ∀ x, x ∈ ringFrom f b → b ≤ x then some (ringFrom f b) else none
def ringsOf (f : Int → Option Int) (n : Nat) : List (List Int) := (rangeI n).filterMap (leastRing f)
theorem leastRing_some (hf : ∀ x, f x ≠ some x) {R : List Int} (h : leastRing f b = some R) : ∃ T, IsBack f b T ∧ R = b :: T.reverse ∧ ∀ x, x ∈ R → b ≤ x := by
  unfold leastRing at h
  by_cases c : ringFrom f b ≠ [] ∧ ∀ x, x ∈ ringFrom f b → b ≤ x
  · rw [if_pos c] at h
    have e : ringFrom f b = R := Option.some.inj h
    obtain ⟨T, t, e2⟩ := ringFrom_back hf c.1
    exact ⟨T, t, e.symm.trans e2, by rw [← e]; exact c.2⟩
  · rw [if_neg c] at h; cases h
theorem leastRing_of {T : List Int} (h : IsBack f b T) (l : T.length ≤ 10) (hb : ∀ x, x ∈ T → b < x) : leastRing f b = some (b :: T.reverse) := by
  unfold leastRing
  rw [ringFrom_of h l, if_pos]
  refine ⟨(fun z => nomatch z), fun x hx => ?_⟩
  rcases List.mem_cons.mp hx with z | z
  · omega
  · exact Int.le_of_lt (hb x (List.mem_reverse.mp z))
theorem goes_ch : ∀ {T : List Int} {x : Int}, Goes f b x T → Ch f (x :: (T ++ [b]))
  | [], x, h => ⟨h, trivial⟩
  | y :: T, x, h => ⟨h.1, goes_ch h.2⟩
theorem ch_drop : ∀ {l r : List Int}, Ch f (l ++ r) → Ch f r
  | [], r, h => h
  | [x], [], _ => trivial
  | [x], y :: r, h => h.2
  | x :: y :: l, r, h => ch_drop (l := y :: l) h.2
theorem ch_goes : ∀ {q : List Int} {x : Int}, Ch f (x :: (q ++ [b])) → Goes f b x q
  | [], x, h => h.1
  | y :: q, x, h => ⟨h.1, ch_goes h.2⟩
/-! the law's growing -/
def growR (f : Int → Option Int) (b : Int) (sm : List Int) : List (List Int) := match leastRing f b with
  | some R => if sm <+: R then [R] else []
  | none => []
theorem growR_none {sm : List Int} (h : ∀ R, leastRing f b = some R → ¬ sm <+: R) : growR f b sm = [] := by
  unfold growR
  cases e : leastRing f b with
  | none => rfl
  | some R => exact if_neg (h R e)
theorem growR_some {sm R : List Int} (e : leastRing f b = some R) (h : sm <+: R) : growR f b sm = [R] := by
  unfold growR
  rw [e]
  exact if_pos h
structure Sm (f : Int → Option Int) (b : Int) (sm : List Int) : Prop where
  hd : ∃ q, sm = b :: q
  ch : Ch f sm.reverse
  nd : sm.Nodup
  gt : ∀ x, x ∈ sm → b ≤ x
def condG (f : Int → Option Int) (b last : Int) (sm : List Int) (g : Int) : Bool := decide (f g = some last) && (decide (b < g) && !decide (g ∈ sm))
def found0 (f : Int → Option Int) (b last : Int) (sm : List Int) : List (List Int) := if 1 < sm.length ∧ f b = some last then [sm] else []
def grownAt (f : Int → Option Int) (b last : Int) (sm : List Int) (g : Int) : List (List Int) := if condG f b last sm g = true then growR f b (sm ++ [g]) else []
theorem flat_nil {α β : Type} {g : α → List β} : ∀ {l : List α}, (∀ x, x ∈ l → g x = []) → l.flatMap g = []
  | [], _ => rfl
  | a :: l, h => by rw [List.flatMap_cons, h a (List.mem_cons_self ..), flat_nil fun x hx => h x (List.mem_cons_of_mem _ hx)]; rfl
theorem flat_one {α β : Type} {g : α → List β} {a : α} : ∀ {l : List α}, l.Nodup → a ∈ l → (∀ x, x ∈ l → x ≠ a → g x = []) → l.flatMap g = g a
  | [], _, h, _ => nomatch h
  | x :: l, nd, h, k => by
    have nd := List.nodup_cons.mp nd
    rw [List.flatMap_cons]
    rcases List.mem_cons.mp h with e | e
    · subst e
      rw [flat_nil fun y hy => k y (List.mem_cons_of_mem _ hy) fun z => nd.1 (by rw [← z]; exact hy), List.append_nil]
    · rw [k x (List.mem_cons_self ..) (fun z => nd.1 (by rw [z]; exact e)), flat_one nd.2 e fun y hy => k y (List.mem_cons_of_mem _ hy)]; rfl
theorem grow_step (hf : ∀ x, f x ≠ some x) {sm keys : List Int} {last : Int} (s : Sm f b sm) (hl : sm.getLast? = some last) (kn : keys.Nodup) (hk : ∀ g v, f g = some v → g ∈ keys) (len : sm.length ≤ 11) :
    found0 f b last sm ++ keys.flatMap (grownAt f b last sm) = growR f b sm := by
  obtain ⟨q, eq⟩ := s.hd
  have hrev : ∃ r, sm.reverse = last :: r := by
    rw [List.getLast?_eq_head?_reverse] at hl
    cases e : sm.reverse with
    | nil => rw [e] at hl; cases hl
    | cons y r => rw [e] at hl; have : y = last := Option.some.inj hl; exact ⟨r, by rw [this]⟩
  by_cases hR : ∃ R, leastRing f b = some R ∧ sm <+: R
  · obtain ⟨R, eR, pre⟩ := hR
    obtain ⟨T, t, e1, ge⟩ := leastRing_some hf eR
    have ndR : R.Nodup := by
      rw [e1]
      have := t.nd
      rw [List.nodup_cons] at this ⊢
      refine ⟨fun m => this.1 (List.mem_reverse.mp m), ?_⟩
      exact (List.reverse_perm T).nodup_iff.mpr this.2
    have chR : Ch f R.reverse := by
      rw [e1, List.reverse_cons, List.reverse_reverse]
      exact ch_drop (l := [b]) (goes_ch t.go)
    obtain ⟨y0, T', eT⟩ : ∃ y T', T = y :: T' := by
      cases T with
      | nil => exact absurd rfl t.ne
      | cons y T' => exact ⟨y, T', rfl⟩
    have fb : f b = some y0 := by have := t.go; rw [eT] at this; exact this.1
    have lastR : R.getLast? = some y0 := by rw [e1, eT, List.reverse_cons, ← List.cons_append, List.getLast?_concat]
    obtain ⟨rest, er⟩ := pre
    rw [growR_some eR ⟨rest, er⟩]
    cases rest with
    | nil =>
      rw [List.append_nil] at er
      have e0 : found0 f b last sm = [sm] := by
        unfold found0
        rw [if_pos]
        refine ⟨?_, ?_⟩
        · rw [er, e1, eT]; simp
        · rw [er, lastR] at hl; rw [fb, hl]
      rw [e0, flat_nil, List.append_nil, er]
      intro g hg
      unfold grownAt
      split
      · refine growR_none fun R2 e2 p2 => ?_
        rw [eR] at e2
        have : R = R2 := Option.some.inj e2
        rw [← this, ← er] at p2
        have := p2.length_le
        simp at this
        omega
      · rfl
    | cons g0 rest =>
      have e0 : found0 f b last sm = [] := by
        unfold found0
        rw [if_neg]
        rintro ⟨_, h2⟩
        rw [fb] at h2
        have h3 : y0 = last := Option.some.inj h2
        have m1 : last ∈ sm := List.mem_of_getLast? hl
        have m2 : y0 ∈ g0 :: rest := by
          rw [← er, List.getLast?_append] at lastR
          cases eg : (g0 :: rest).getLast? with
          | none => simp at eg
          | some z =>
            rw [eg] at lastR
            have : z = y0 := Option.some.inj lastR
            rw [← this]
            exact List.mem_of_getLast? eg
        rw [← er] at ndR
        exact (List.nodup_append.mp ndR).2.2 last m1 y0 m2 h3.symm
      have g0m : g0 ∈ R := by rw [← er]; exact List.mem_append_right _ (List.mem_cons_self ..)
      have fg0 : f g0 = some last := by
        obtain ⟨r, hr⟩ := hrev
        rw [← er, List.reverse_append, List.reverse_cons, List.append_assoc, hr] at chR
        exact (ch_drop (l := rest.reverse) chR).1
      have g0n : g0 ∉ sm := fun m => by
        rw [← er] at ndR
        exact (List.nodup_append.mp ndR).2.2 g0 m g0 (List.mem_cons_self ..) rfl
      have g0b : b < g0 := by
        have h1 := ge g0 g0m
        have h2 : g0 ≠ b := fun z => g0n (by rw [z, eq]; exact List.mem_cons_self ..)
        omega
      have c0 : condG f b last sm g0 = true := by
        unfold condG
        rw [decide_eq_true fg0, decide_eq_true g0b, decide_eq_false g0n]; rfl
      rw [e0, List.nil_append, flat_one kn (hk g0 _ fg0)]
      · unfold grownAt
        rw [if_pos c0]
        exact growR_some eR ⟨rest, by rw [← er]; simp⟩
      · intro g hg ng
        unfold grownAt
        split
        · refine growR_none fun R2 e2 p2 => ?_
          rw [eR] at e2
          have : R = R2 := Option.some.inj e2
          rw [← this, ← er] at p2
          obtain ⟨r3, e3⟩ := p2
          rw [List.append_assoc] at e3
          have e4 := List.append_cancel_left e3
          exact ng (List.cons.inj e4).1
        · rfl
  · have no : ∀ R, leastRing f b = some R → ¬ sm <+: R := fun R e p => hR ⟨R, e, p⟩
    rw [growR_none no]
    have e0 : found0 f b last sm = [] := by
      unfold found0
      rw [if_neg]
      rintro ⟨h1, h2⟩
      obtain ⟨r, hr⟩ := hrev
      have e5 : q.reverse ++ [b] = last :: r := by rw [← hr, eq, List.reverse_cons]
      have qn : q ≠ [] := fun z => by rw [eq, z] at h1; exact absurd h1 (Nat.lt_irrefl 1)
      have tb : IsBack f b q.reverse := by
        refine ⟨fun z => qn (List.reverse_eq_nil_iff.mp z), ?_, ch_goes ?_⟩
        · have := s.nd
          rw [eq, List.nodup_cons] at this
          rw [List.nodup_cons]
          exact ⟨fun m => this.1 (List.mem_reverse.mp m), (List.reverse_perm q).nodup_iff.mpr this.2⟩
        · rw [e5]
          refine ⟨h2, ?_⟩
          rw [← hr]; exact s.ch
      have lr := leastRing_of tb (by rw [List.length_reverse]; rw [eq] at len; simpa using len) fun x hx => by
        have hx' := List.mem_reverse.mp hx
        have h3 := s.gt x (by rw [eq]; exact List.mem_cons_of_mem _ hx')
        have h4 : x ≠ b := fun z => by
          have := s.nd
          rw [eq, List.nodup_cons] at this
          exact this.1 (by rw [← z]; exact hx')
        omega
      rw [List.reverse_reverse, ← eq] at lr
      exact no sm lr (List.prefix_refl _)
    rw [e0, List.nil_append, flat_nil]
    intro g hg
    unfold grownAt
    split
    · refine growR_none fun R e p => no R e ?_
      exact (List.prefix_append sm [g]).trans p
    · rfl
end
end MV
namespace MV
open PySem PySem.Spec PyProof.Rows L2
local macro_rules | `(tactic| walk_at "go") => `(tactic| repeat (first
  | with_reducible refine MV.k_seq ?_ | with_reducible refine MV.k_asg ?_ | with_reducible refine MV.k_name ?_ | with_reducible refine MV.k_op ?_ | ((with_reducible apply MV.k_var); exact rfl) | with_reducible refine MV.k_c ?_
  | with_reducible refine MV.k_add ?_ | with_reducible refine MV.k_sub ?_ | with_reducible refine MV.k_lt ?_ | with_reducible refine MV.k_le ?_ | with_reducible refine MV.k_gt ?_ | with_reducible refine MV.k_ge ?_ | with_reducible refine MV.k_eqI ?_ | with_reducible refine MV.k_neI ?_
  | with_reducible refine MV.k_test ?_ | with_reducible refine MV.k_B ?_ | with_reducible refine MV.k_bl ?_ | with_reducible refine MV.k_blV ?_ | with_reducible refine MV.k_and ?_ | with_reducible refine MV.k_or ?_ | with_reducible refine MV.k_not ?_ | with_reducible refine MV.k_andV ?_ | with_reducible refine MV.k_orV ?_ | with_reducible refine MV.k_notV ?_
  | with_reducible refine MV.k_if ?_ | with_reducible refine MV.k_tru ?_ | with_reducible refine MV.k_chain ?_ | with_reducible refine MV.k_next ?_ | with_reducible refine MV.k_drop ?_ | with_reducible refine MV.k_ret ?_ | with_reducible refine MV.k_retN ?_ | with_reducible refine MV.k_ifS ?_ | with_reducible refine MV.k_brk ?_ | with_reducible refine MV.k_cont ?_
  | with_reducible refine MV.k_nil ?_ | with_reducible refine MV.k_cons ?_ | with_reducible refine MV.k_tup ?_ | with_reducible refine MV.k_lst ?_ | with_reducible refine MV.k_cb ?_ | with_reducible refine MV.k_call ?_ | with_reducible refine MV.k_gnil ?_ | with_reducible refine MV.k_gcons ?_ | with_reducible refine MV.k_gsub ?_
  | with_reducible refine MV.k_bm ?_ | with_reducible refine MV.k_bm0 ?_ | with_reducible refine MV.k_un ?_ | with_reducible refine MV.k_neg ?_ | with_reducible refine MV.k_isN ?_ | with_reducible refine MV.k_notN ?_ | with_reducible refine L2.iteT ?_ | with_reducible refine L2.iteF ?_
  | with_reducible refine MV.k_iList ?_ | with_reducible refine MV.k_iTup ?_ | with_reducible refine MV.k_iRng1 ?_ | with_reducible refine MV.k_lc ?_ | with_reducible refine MV.k_for ?_
  | with_reducible refine MV.k_yes ?_ | with_reducible refine MV.k_dput ?_ | with_reducible refine MV.k_dget ?_ | with_reducible refine MV.k_dget1 ?_ | with_reducible refine MV.k_sl ?_ | with_reducible refine MV.k_nopart ?_ | with_reducible refine MV.k_part ?_ | with_reducible refine MV.k_pint ?_ | with_reducible refine MV.k_dnew ?_ | with_reducible refine MV.k_lstRg ?_ | with_reducible refine MV.k_rg1 ?_))
def t_ring_from (K : PySem.W.Frag) (w : World) : TS :=
  (tSeq (tAsg (tLst (tCons (tVar 0) tNil)) (gName 2))
    (tSeq (tAsg (tDGet1 (tVar 1) (tVar 0)) (gName 3))
    (tSeq (tWhile (tAnd (tTest (tOp vNotN (tVar 3) (tC .non))) (tTest (tOp (rIn K true) (tVar 3) (tVar 2)))) (tSeq (tDrop (tBM K "list" rAppend (tVar 2) (tCons (tVar 3) tNil)))
    (tAsg (tDGet1 (tVar 1) (tVar 3)) (gName 3))))
    (tSeq (tIfS (tTest (tOp rNe (tVar 3) (tVar 0))) (tRet (tTup tNil)) tNext)
    (tRet (tTup (tCons (tVar 0) (StX.tStar K (tTailRev K (tVar 2)) tNil))))))))
def t_rings (K : PySem.W.Frag) (w : World) (s_check_lead : Sp) (s_real_pairs : Sp) (s_ring_from : Sp) : TS :=
  (tSeq (tDrop (tCall s_check_lead [] E0 (tCons (tVar 0) (tCons (tVar 1) tNil))))
    (tSeq (tAsg (tCB (vDictP K) (tCons (tCall s_real_pairs [] E0 (tCons (tVar 1) tNil)) tNil)) (gName 2))
    (tSeq (tAsg (tLc (iRng1 (tCons (tVar 0) tNil)) (gName 4) tYes (tCall s_ring_from [] E0 (tCons (tVar 4) (tCons (tVar 2) tNil))) [4]) (gName 3))
    (tRet (tLc (iList K (tVar 3)) (gName 5) (tAnd (vTru K (tVar 5)) (tTest (tOp rEq (tOp (rIxT K) (tVar 5) (tC (.int 0))) (tCB (rMinT K) (tCons (tVar 5) tNil))))) (tVar 5) [5])))))
def t_is_shut (K : PySem.W.Frag) (w : World) : TS :=
  (tRet (tCB (rAll K) (tCons (tLc (iList K (tVar 1)) (gTup K 2 (gCons (gName 2) (gCons (gName 3) gNil))) tYes (tOrV (tOp (rIn K false) (tVar 2) (tVar 0)) (tOp (rIn K true) (tVar 3) (tVar 0))) [2, 3]) tNil)))
def t_shut_rings (K : PySem.W.Frag) (w : World) (s_rings : Sp) (s_is_shut : Sp) : TS :=
  (tRet (tLc (iList K (tCall s_rings [] E0 (tCons (tVar 0) (tCons (tVar 1) tNil)))) (gName 2) (tB (tCall s_is_shut [] E0 (tCons (tVar 2) (tCons (tVar 1) tNil)))) (tVar 2) [2]))
section
variable {K : PySem.W.Frag} {w : World} {H : Hp}
def ov : Option Int → V
  | none => .non
  | some x => .int x
theorem inV_ints (x : Int) : ∀ p : List Int, inV (.int x) (p.map V.int) = decide (x ∈ p)
  | [] => rfl
  | y :: r => by
    have ih := inV_ints x r
    unfold inV at ih ⊢
    rw [List.map_cons, List.any_cons, ih]
    have e : eqV (.int y) (.int x) = decide (x = y) := by
      show (y == x) = decide (x = y)
      by_cases h : x = y
      · subst h; simp
      · rw [decide_eq_false h]; simp; exact fun z => h z.symm
    rw [e]
    by_cases h : x = y
    · rw [decide_eq_true h, decide_eq_true (show x ∈ y :: r by rw [h]; exact List.mem_cons_self ..)]; rfl
    · rw [decide_eq_false h, Bool.false_or]
      by_cases m : x ∈ r
      · rw [decide_eq_true m, decide_eq_true (List.mem_cons_of_mem _ m)]
      · rw [decide_eq_false m, decide_eq_false fun z => (List.mem_cons.mp z).elim h m]
theorem flat_ints : ∀ p : List Int, (p.map V.int).all flatV = true
  | [] => rfl
  | y :: r => by rw [List.map_cons, List.all_cons, flat_ints r]; rfl
theorem k_inI {x : Int} {p : Addr} {ns : List Int} {Q : VK} (h : SqL K H p (ns.map V.int) ∨ SqT K H p (ns.map V.int)) (q : Q (.bl (decide (x ∈ ns))) H) : rIn K false (.int x) (.ref p) H Q :=
  ⟨p, _, rfl, h, rfl, flat_ints ns, by rw [inV_ints]; exact q⟩
theorem k_ninI {x : Int} {p : Addr} {ns : List Int} {Q : VK} (h : SqL K H p (ns.map V.int) ∨ SqT K H p (ns.map V.int)) (q : Q (.bl (!decide (x ∈ ns))) H) : rIn K true (.int x) (.ref p) H Q :=
  ⟨p, _, rfl, h, rfl, flat_ints ns, by rw [inV_ints]; exact q⟩
theorem k_get1 {d : Addr} {m : Lead} {k : Int} {G1 : Hp} (s : Same G1 H) (h : G1 d = some (.dK (dct m))) : DGet H d (.int k) ((lk m k).map V.int) := by
  have q := DGet.k (k := Sum.inl k) (s _ _ h)
  rw [dct_val] at q
  exact q
theorem ov_get (o : Option Int) : (o.map V.int).getD .non = ov o := by cases o <;> rfl
def spRingFrom (K : PySem.W.Frag) : Sp := fun vs H Q _ => ∃ (G : Hp) (d : Addr) (n : Int) (m : Lead) (b : Int), vs = [.int b, .ref d] ∧ Same G H ∧ G d = some (.dK (dct m)) ∧ GoodM n m ∧ n ≤ 10 ∧ 0 ≤ b ∧ b < n ∧
  ∀ (t : Addr) (G1 H1 : Hp), Ext [] G H G1 H1 → G1 t = some (.tup ((ringFrom (lk m) b).map V.int)) → Q (.ref t) H1
theorem pure_ring_from (vs : List V) (Q : VK) (E : XK) (h : spRingFrom K vs H Q E) : t_ring_from K w { nx := fun _ H1 => Q .non H1, rt := Q } (start ["box", "sources", "path", "source"] vs) H := by
  obtain ⟨G, d, n, m, b, rfl, s, hd, gm, n10, b0, b1, q⟩ := h
  have rng : ∀ x v, lk m x = some v → 0 ≤ v ∧ v < n := fun x v e => by have := gm.rg _ (lk_mem e); omega
  unfold t_ring_from
  walk_at "go"
  refine ⟨sz1 (by simp), fun l nl => ?_⟩
  have e0 := (Ext.refl (M := []) s).tmp (o := .lst [.int b]) nl
  have gl : G l = none := s.free nl
  walk_at "go"
  refine ⟨d, rfl, .inl ⟨_, .inl (e0.s _ _ hd)⟩, ?_⟩
  walk_at "go"
  refine ⟨_, k_get1 e0.s hd, ?_⟩
  rw [ov_get]
  walk_at "go"
  refine k_while (M := [l]) e0.s (fun k σ1 G1 H1 => G1 = G ∧ ∃ (p : List Int) (so : Option Int), σ1 = [some (.int b), some (.ref d), some (.ref l), some (ov so)] ∧ H1 l = some (.lst (p.map V.int)) ∧ walkR (lk m) k p so = walkR (lk m) 12 [b] (lk m b) ∧ p.length + k = 13 ∧ p.Nodup ∧ InR n p ∧ ∀ x, so = some x → 0 ≤ x ∧ x < n)
    12 ⟨rfl, [b], lk m b, rfl, upd_same, rfl, rfl, by simp, fun x hx => by have : x = b := List.mem_singleton.mp hx; omega, fun x e => rng _ _ e⟩ ?_
  rintro k σ1 G1 H1 e ⟨rfl, p, so, rfl, hl, wk, pk, nd, ir, so1⟩
  have p10 : p.length ≤ 10 := by have := few nd ir; omega
  obtain ⟨k', rfl⟩ : ∃ k', k = k' + 1 := ⟨k - 1, by omega⟩
  have stop : ∀ (H2 : Hp), Ext [l] G1 (upd H l (.lst [.int b])) G1 H2 → H2 l = some (.lst (p.map V.int)) → walkR (lk m) 12 [b] (lk m b) = (p, so) →
      (tSeq (tIfS (tTest (tOp rNe (tVar 3) (tVar 0))) (tRet (tTup tNil)) tNext) (tRet (tTup (tCons (tVar 0) (StX.tStar K (tTailRev K (tVar 2)) tNil))))) { nx := fun _ H1 => Q .non H1, rt := Q } [some (.int b), some (.ref d), some (.ref l), some (ov so)] H2 := by
    intro H2 e2 h2 wp
    have e3 : Ext [] G1 H G1 H2 := e0.fin e2 (by simp [nl])
    walk_at "go"
    have sc : scal (ov so) (.int b) = true := by cases so <;> rfl
    refine k_ne sc ?_
    walk_at "go"
    refine k_nboth (fun h => ?_) (fun h => ?_)
    · walk_at "go"
      refine ⟨sz1 (by simp), fun t nt => ?_⟩
      refine q t _ _ (e3.new nt) ?_
      have e4 : ringFrom (lk m) b = [] := by
        unfold ringFrom
        rw [wp, if_neg]
        intro z
        have z : so = some b := z
        rw [z] at h; exact h rfl
      rw [e4]; exact upd_same
    · walk_at "go"
      have hso : so = some b := by
        cases so with
        | none => cases h
        | some x => have : V.int x = V.int b := h; rw [V.int.inj this]
      show (tTailRev K (tVar 2)) _ _ _
      refine ⟨.ref l, rfl, l, _, rfl, SqL.of h2, fun r nr => ?_⟩
      refine ⟨r, _, rfl, .inr (SqL.of upd_same), ?_⟩
      walk_at "go"
      rw [List.append_nil, ← List.map_drop, ← List.map_reverse]
      have lr : ((p.drop 1).reverse).length ≤ 10 := by rw [List.length_reverse, List.length_drop]; omega
      refine ⟨sz1 (by rw [List.length_cons, List.length_map]; omega), fun t nt => ?_⟩
      refine q t _ _ ((e3.tmp nr).new nt) ?_
      have e4 : ringFrom (lk m) b = b :: (p.drop 1).reverse := by
        unfold ringFrom
        rw [wp, if_pos hso]
      rw [e4]; exact upd_same
  walk_at "go"
  cases so with
  | none =>
    refine k_nfalse rfl (iteF ?_)
    exact stop H1 e hl wk.symm
  | some x =>
    refine k_ntrue (fun z => nomatch z) ?_
    walk_at "go"
    refine k_ninI (.inl (SqL.of hl)) ?_
    walk_at "go"
    have wk' : (if x ∈ p then (p, some x) else walkR (lk m) k' (p ++ [x]) (lk m x)) = walkR (lk m) 12 [b] (lk m b) := wk
    refine k_nboth (fun h => ?_) (fun h => ?_)
    · refine ⟨_, fun _ _ h => h, ?_⟩
      walk_at "go"
      refine ⟨tyL hl, ?_⟩
      walk_at "go"
      refine k_append hl (by rw [List.length_map]; exact sz2 (by omega)) ?_
      walk_at "go"
      have s2 := (e.mutM (o := .lst (p.map V.int ++ [.int x])) (List.mem_singleton.mpr rfl) gl)
      refine ⟨d, rfl, .inl ⟨_, .inl (s2.s _ _ hd)⟩, ?_⟩
      walk_at "go"
      refine ⟨_, k_get1 s2.s hd, ?_⟩
      rw [ov_get]
      rw [if_neg h] at wk'
      refine ⟨k', by omega, G1, s2, rfl, p ++ [x], lk m x, rfl, by rw [upd_same, List.map_append]; rfl, wk', by simp; omega, ?_, ?_, fun y e => rng _ _ e⟩
      · refine List.nodup_append.mpr ⟨nd, by simp, fun y hy z hz e => ?_⟩
        have : z = x := List.mem_singleton.mp hz
        rw [e, this] at hy
        exact h hy
      · intro y hy
        rcases List.mem_append.mp hy with z | z
        · exact ir y z
        · have : y = x := List.mem_singleton.mp z
          rw [this]; exact so1 x rfl
    · rw [if_pos h] at wk'
      exact stop H1 e hl wk'.symm
end
end MV
namespace MV
open PySem PySem.Spec PyProof.Rows L2
local macro_rules | `(tactic| walk_at "go") => `(tactic| repeat (first
  | with_reducible refine MV.k_seq ?_ | with_reducible refine MV.k_asg ?_ | with_reducible refine MV.k_name ?_ | with_reducible refine MV.k_op ?_ | ((with_reducible apply MV.k_var); exact rfl) | with_reducible refine MV.k_c ?_
  | with_reducible refine MV.k_add ?_ | with_reducible refine MV.k_sub ?_ | with_reducible refine MV.k_lt ?_ | with_reducible refine MV.k_le ?_ | with_reducible refine MV.k_gt ?_ | with_reducible refine MV.k_ge ?_ | with_reducible refine MV.k_eqI ?_ | with_reducible refine MV.k_neI ?_
  | with_reducible refine MV.k_test ?_ | with_reducible refine MV.k_B ?_ | with_reducible refine MV.k_bl ?_ | with_reducible refine MV.k_blV ?_ | with_reducible refine MV.k_and ?_ | with_reducible refine MV.k_or ?_ | with_reducible refine MV.k_not ?_ | with_reducible refine MV.k_andV ?_ | with_reducible refine MV.k_orV ?_ | with_reducible refine MV.k_notV ?_
  | with_reducible refine MV.k_if ?_ | with_reducible refine MV.k_tru ?_ | with_reducible refine MV.k_chain ?_ | with_reducible refine MV.k_next ?_ | with_reducible refine MV.k_drop ?_ | with_reducible refine MV.k_ret ?_ | with_reducible refine MV.k_retN ?_ | with_reducible refine MV.k_ifS ?_ | with_reducible refine MV.k_brk ?_ | with_reducible refine MV.k_cont ?_
  | with_reducible refine MV.k_nil ?_ | with_reducible refine MV.k_cons ?_ | with_reducible refine MV.k_tup ?_ | with_reducible refine MV.k_lst ?_ | with_reducible refine MV.k_cb ?_ | with_reducible refine MV.k_call ?_ | with_reducible refine MV.k_gnil ?_ | with_reducible refine MV.k_gcons ?_ | with_reducible refine MV.k_gsub ?_
  | with_reducible refine MV.k_bm ?_ | with_reducible refine MV.k_bm0 ?_ | with_reducible refine MV.k_un ?_ | with_reducible refine MV.k_neg ?_ | with_reducible refine MV.k_isN ?_ | with_reducible refine MV.k_notN ?_ | with_reducible refine L2.iteT ?_ | with_reducible refine L2.iteF ?_
  | with_reducible refine MV.k_iList ?_ | with_reducible refine MV.k_iTup ?_ | with_reducible refine MV.k_iRng1 ?_ | with_reducible refine MV.k_lc ?_ | with_reducible refine MV.k_for ?_
  | with_reducible refine MV.k_yes ?_ | with_reducible refine MV.k_dput ?_ | with_reducible refine MV.k_dget ?_ | with_reducible refine MV.k_dget1 ?_ | with_reducible refine MV.k_sl ?_ | with_reducible refine MV.k_nopart ?_ | with_reducible refine MV.k_part ?_ | with_reducible refine MV.k_pint ?_ | with_reducible refine MV.k_dnew ?_ | with_reducible refine MV.k_lstRg ?_ | with_reducible refine MV.k_rg1 ?_))
section
variable {K : PySem.W.Frag} {w : World} {H : Hp}
theorem merge_dct {m : Lead} (nd : (m.map (·.1)).Nodup) : mergeK [] (dct m) = dct m := by
  have key : ∀ (a r : Lead), ((a ++ r).map (·.1)).Nodup → mergeK (dct a) (dct r) = dct (a ++ r) := by
    intro a r
    induction r generalizing a with
    | nil => intro _; rw [List.append_nil]; rfl
    | cons p r ih =>
      intro h
      show mergeK (putK (dct a) (Sum.inl p.1) (.int p.2)) (dct r) = _
      have e : putI a p.1 p.2 = a ++ [p] := by
        unfold putI
        rw [if_neg]
        intro z
        obtain ⟨q, hq, e⟩ := List.any_eq_true.mp z
        rw [List.map_append] at h
        exact (List.nodup_append.mp h).2.2 q.1 (List.mem_map.mpr ⟨q, hq, rfl⟩) p.1 (by rw [List.map_cons]; exact List.mem_cons_self ..) (of_decide_eq_true e)
      rw [dct_put, e, ih (a ++ [p]) (by rw [List.append_assoc]; exact h), List.append_assoc]
      rfl
  have := key [] m nd
  exact this
theorem pairs_dct {G1 : Hp} : ∀ {ts : List Addr} {m : Lead}, Paired (fun t (x : Int × Int) => SqT K G1 t [.int x.1, .int x.2]) ts m → Paired (fun p (kv : Key × V) => SqT K G1 p [kV kv.1, kv.2]) ts (dct m)
  | _, _, .nil => .nil
  | _, _, .cons r t => .cons r (pairs_dct t)
theorem k_dictP {a : Addr} {ts : List Addr} {m : Lead} {Q : VK} {G1 : Hp} (s : Same G1 H) (h : G1 a = some (.lst (ts.map V.ref))) (pr : Paired (fun t (x : Int × Int) => SqT K G1 t [.int x.1, .int x.2]) ts m) (nd : (m.map (·.1)).Nodup)
    (q : ∀ p, H p = none → Q (.ref p) (upd H p (.dK (dct m)))) : vDictP K [.ref a] H Q :=
  ⟨a, ts, dct m, rfl, SqL.of (s _ _ h), paired_mono (fun _ _ z => sqT_mono s z) (pairs_dct pr), fun p np => by rw [merge_dct nd]; exact q p np⟩
theorem GoodM.real {n : Int} {ld : Lead} (g : GoodM n ld) : GoodM n (real ld) :=
  ⟨fun p hp => g.rg p (List.mem_filter.mp hp).1, (List.filter_sublist.map _).nodup g.nd⟩
theorem real_no {ld : Lead} : ∀ x, lk (real ld) x ≠ some x := fun x e => by
  have := (List.mem_filter.mp (lk_mem e)).2
  simp at this
theorem ringFrom_hd {f : Int → Option Int} {b : Int} (h : ringFrom f b ≠ []) : ∃ r, ringFrom f b = b :: r := by
  unfold ringFrom at h ⊢
  split
  · exact ⟨_, rfl⟩
  · rename_i c; rw [if_neg c] at h; exact absurd rfl h
def spRings (K : PySem.W.Frag) : Sp := fun vs H Q _ => ∃ (G : Hp) (n : Int) (l : Addr) (ld : Lead), vs = [.int n, .ref l] ∧ Same G H ∧ 1 ≤ n ∧ n ≤ 10 ∧ LeadAt K G l ld ∧ GoodM n ld ∧
  ∀ (p : Addr) (xs : List V) (G1 H1 : Hp), Ext [] G H G1 H1 → H p = none → G1 p = some (.lst xs) → DpAll K G1 xs ((ringsOf (lk (real ld)) n.toNat).map pdInts) → Q (.ref p) H1
theorem pure_rings (vs : List V) (Q : VK) (E : XK) (h : spRings K vs H Q E) : t_rings K w (spCheckLead K) (spRealPairs K) (spRingFrom K) { nx := fun _ H1 => Q .non H1, rt := Q } (start ["boxes", "lead", "sources", "candidates", "box", "ring"] vs) H := by
  obtain ⟨G, n, l, ld, rfl, s, n1, n10, la, gm, q⟩ := h
  have l10 : ld.length ≤ 10 := by have := gm.len; omega
  have gr := gm.real
  unfold t_rings
  walk_at "go"
  refine ⟨G, n, l, ld, rfl, s, n1, n10, la, gm, fun H1 e1 => ?_⟩
  walk_at "go"
  refine ⟨G, l, ld, rfl, e1.s, la, by omega, fun p ts G2 H2 e2 np hp pr => ?_⟩
  walk_at "go"
  refine k_dictP e2.s hp pr gr.nd fun d nd => ?_
  have e3 := (e1.trans e2).new (o := .dK (dct (real ld))) nd
  walk_at "go"
  refine ⟨_, rfl, by omega, by omega, ?_⟩
  refine lcR (n := n.toNat) (M := []) e3.s (fun _ h => nomatch h) (by omega) (fun i acc G4 H4 => ∃ ts : List Addr, acc = ts.map V.ref ∧ Paired (fun t b => G4 t = some (.tup ((ringFrom (lk (real ld)) b).map V.int))) ts ((rangeI n.toNat).take i)) (fun _ _ _ _ _ _ h => h) ⟨[], rfl, .nil⟩
    (fun i acc G4 H4 Ry Rn hi e4 iv hy hn => ?_) (fun c acc G4 H4 e4 nc gc hc hl iv => ?_)
  · obtain ⟨us, rfl, pu⟩ := iv
    walk_at "go"
    refine ⟨rfl, ?_⟩
    walk_at "go"
    refine ⟨G4, d, n, real ld, 0 + (i : Int), rfl, e4.s, e4.g _ _ upd_same, gr, n10, by omega, by omega, fun t G5 H5 e5 ht => ?_⟩
    refine hy _ _ _ e5 ⟨us ++ [t], by simp, ?_⟩
    have ei : (rangeI n.toNat)[i]? = some (i : Int) := by unfold rangeI; rw [List.getElem?_map, List.getElem?_range hi]; rfl
    rw [List.take_add_one, ei]
    refine paired_app (paired_mono (fun _ _ z => e5.g _ _ z) pu) ?_
    rw [show (0 : Int) + (i : Int) = (i : Int) by omega] at ht
    exact ht
  · obtain ⟨us, rfl, pu⟩ := iv
    rw [List.take_of_length_le (by rw [len_rangeI]; exact Nat.le_refl _)] at pu
    have lu : us.length = n.toNat := by rw [paired_len pu, len_rangeI]
    walk_at "go"
    have e5 := e3.trans (e4.frz nc gc hc)
    refine ⟨_, rfl, ⟨_, e5.s.seq (SqL.of upd_same)⟩, ?_⟩
    refine lcL (M := []) e5.s (fun _ h => nomatch h) (SqL.of upd_same) (by rw [List.length_map]; omega) (fun i acc G6 H6 => DpAll K G6 acc ((((rangeI n.toNat).take i).filterMap (leastRing (lk (real ld)))).map pdInts)) (fun _ _ _ _ _ _ h => h) .nil
      (fun i x acc G6 H6 Ry Rn hi ex e6 iv hy hn => ?_) (fun r acc G6 H6 e6 nr gr2 hr hl2 iv => ?_)
    · rw [List.getElem?_map] at ex
      have hi' : i < us.length := by rwa [List.length_map] at hi
      rw [List.getElem?_eq_getElem hi'] at ex
      cases ex
      obtain ⟨b, eb, tb⟩ := paired_get pu (List.getElem?_eq_getElem hi')
      have tb6 : G6 us[i] = some (.tup ((ringFrom (lk (real ld)) b).map V.int)) := e6.g _ _ (by rw [upd_ne (ne_of_none tb gc)]; exact tb)
      have tbH := e6.s _ _ tb6
      have step : ((rangeI n.toNat).take (i + 1)).filterMap (leastRing (lk (real ld))) = ((rangeI n.toNat).take i).filterMap (leastRing (lk (real ld))) ++ (leastRing (lk (real ld)) b).toList := by
        rw [List.take_add_one, eb, List.filterMap_append]
        congr 1
      walk_at "go"
      refine ⟨rfl, ?_⟩
      walk_at "go"
      by_cases hE : ringFrom (lk (real ld)) b = []
      · rw [hE] at tbH
        refine ⟨false, .inr (.inl ⟨[], SqT.of tbH, rfl⟩), iteF (iteF ?_)⟩
        refine hn _ _ (Ext.refl e6.s) ?_
        rw [step]
        have : leastRing (lk (real ld)) b = none := by unfold leastRing; rw [if_neg fun z => z.1 hE]
        rw [this, Option.toList_none, List.append_nil]
        exact iv
      · obtain ⟨r, hr⟩ := ringFrom_hd hE
        rw [hr] at tbH tb6
        refine ⟨true, .inr (.inl ⟨_, SqT.of tbH, rfl⟩), iteT ?_⟩
        walk_at "go"
        refine k_ixT (SqT.of tbH) (v := .int b) (atI_nat (j := 0) rfl) ?_
        walk_at "go"
        refine ⟨us[i], b :: r, rfl, SqT.of tbH, Nat.succ_pos _, fun mn hm hle => ?_⟩
        walk_at "go"
        have eq1 : b = mn ↔ ∀ x, x ∈ b :: r → b ≤ x := ⟨fun z x hx => by rw [z]; exact hle x hx, fun z => Int.le_antisymm (z mn hm) (hle b (List.mem_cons_self ..))⟩
        refine k_both (fun hb => ?_) (fun hb => ?_)
        · walk_at "go"
          refine hy _ _ _ (Ext.refl e6.s) ?_
          have : leastRing (lk (real ld)) b = some (b :: r) := by unfold leastRing; rw [hr, if_pos ⟨fun z => (nomatch z), eq1.mp hb⟩]
          rw [step, this, List.map_append]
          exact dpAll_app iv (dpAll_one (.tup (SqT.of tb6) (dpAll_ints (b :: r))))
        · refine hn _ _ (Ext.refl e6.s) ?_
          have : leastRing (lk (real ld)) b = none := by unfold leastRing; rw [hr, if_neg fun z => hb (eq1.mpr z.2)]
          rw [step, this, Option.toList_none, List.append_nil]
          exact iv
    · rw [List.length_map, lu, List.take_of_length_le (by rw [len_rangeI]; exact Nat.le_refl _)] at iv
      refine q r acc _ H6 ((e5.trans e6).frz (e5.d _ nr) gr2 hr) (e5.d _ nr) upd_same (dpAll_mono (same_new gr2) _ _ iv)
end
end MV
namespace MV
open PySem PySem.Spec PyProof.Rows L2
local macro_rules | `(tactic| walk_at "go") => `(tactic| repeat (first
  | with_reducible refine MV.k_seq ?_ | with_reducible refine MV.k_asg ?_ | with_reducible refine MV.k_name ?_ | with_reducible refine MV.k_op ?_ | ((with_reducible apply MV.k_var); exact rfl) | with_reducible refine MV.k_c ?_
  | with_reducible refine MV.k_add ?_ | with_reducible refine MV.k_sub ?_ | with_reducible refine MV.k_lt ?_ | with_reducible refine MV.k_le ?_ | with_reducible refine MV.k_gt ?_ | with_reducible refine MV.k_ge ?_ | with_reducible refine MV.k_eqI ?_ | with_reducible refine MV.k_neI ?_
  | with_reducible refine MV.k_test ?_ | with_reducible refine MV.k_B ?_ | with_reducible refine MV.k_bl ?_ | with_reducible refine MV.k_blV ?_ | with_reducible refine MV.k_and ?_ | with_reducible refine MV.k_or ?_ | with_reducible refine MV.k_not ?_ | with_reducible refine MV.k_andV ?_ | with_reducible refine MV.k_orV ?_ | with_reducible refine MV.k_notV ?_
  | with_reducible refine MV.k_if ?_ | with_reducible refine MV.k_tru ?_ | with_reducible refine MV.k_chain ?_ | with_reducible refine MV.k_next ?_ | with_reducible refine MV.k_drop ?_ | with_reducible refine MV.k_ret ?_ | with_reducible refine MV.k_retN ?_ | with_reducible refine MV.k_ifS ?_ | with_reducible refine MV.k_brk ?_ | with_reducible refine MV.k_cont ?_
  | with_reducible refine MV.k_nil ?_ | with_reducible refine MV.k_cons ?_ | with_reducible refine MV.k_tup ?_ | with_reducible refine MV.k_lst ?_ | with_reducible refine MV.k_cb ?_ | with_reducible refine MV.k_call ?_ | with_reducible refine MV.k_gnil ?_ | with_reducible refine MV.k_gcons ?_ | with_reducible refine MV.k_gsub ?_
  | with_reducible refine MV.k_bm ?_ | with_reducible refine MV.k_bm0 ?_ | with_reducible refine MV.k_un ?_ | with_reducible refine MV.k_neg ?_ | with_reducible refine MV.k_isN ?_ | with_reducible refine MV.k_notN ?_ | with_reducible refine L2.iteT ?_ | with_reducible refine L2.iteF ?_
  | with_reducible refine MV.k_iList ?_ | with_reducible refine MV.k_iTup ?_ | with_reducible refine MV.k_iRng1 ?_ | with_reducible refine MV.k_lc ?_ | with_reducible refine MV.k_for ?_
  | with_reducible refine MV.k_yes ?_ | with_reducible refine MV.k_dput ?_ | with_reducible refine MV.k_dget ?_ | with_reducible refine MV.k_dget1 ?_ | with_reducible refine MV.k_sl ?_ | with_reducible refine MV.k_nopart ?_ | with_reducible refine MV.k_part ?_ | with_reducible refine MV.k_pint ?_ | with_reducible refine MV.k_dnew ?_ | with_reducible refine MV.k_lstRg ?_ | with_reducible refine MV.k_rg1 ?_))
def t__law_known (K : PySem.W.Frag) (w : World) : TS :=
  (tRet (tCB (vDictP K) (tCons (tLc (iList K (tVar 0)) (gName 1) (tTest (tOp rNe (tOp (rIxT K) (tVar 1) (tC (.int 0))) (tOp (rIxT K) (tVar 1) (tC (.int 1))))) (tVar 1) [1]) tNil)))
def t__law_rings (K : PySem.W.Frag) (w : World) (s__law_grown : Sp) : TS :=
  (tSeq (tAsg (tLst tNil) (gName 1))
    (tSeq (tFor (iList K (tCB vSortedDI (tCons (tVar 0) tNil))) (gName 2) (tFor (iList K (tCall s__law_grown [] E0 (tCons (tVar 0) (tCons (tTup (tCons (tVar 2) tNil)) tNil)))) (gName 3) (tDrop (tBM K "list" rAppend (tVar 1) (tCons (tVar 3) tNil)))))
    (tRet (tVar 1))))
def t__law_grown (K : PySem.W.Frag) (w : World) (s__law_grown : Sp) : TS :=
  (tSeq (tAsg (tOp (rIxT K) (tVar 1) (tUn vNeg (tC (.int 1)))) (gName 2))
    (tSeq (tAsg (tLst tNil) (gName 3))
    (tSeq (tIfS (tAnd (tTest (tOp vGt (tCB (vLen K) (tCons (tVar 1) tNil)) (tC (.int 1)))) (tTest (tOp rEq (tDGet1 (tVar 0) (tOp (rIxT K) (tVar 1) (tC (.int 0)))) (tVar 2)))) (tDrop (tBM K "list" rAppend (tVar 3) (tCons (tVar 1) tNil))) tNext)
    (tSeq (tFor (iList K (tCB vSortedDI (tCons (tVar 0) tNil))) (gName 4) (tIfS (tAnd (tTest (tOp rEq (tDGet (tVar 0) (tVar 4)) (tVar 2))) (tAnd (tTest (tOp vGt (tVar 4) (tOp (rIxT K) (tVar 1) (tC (.int 0))))) (tTest (tOp (rIn K true) (tVar 4) (tVar 1))))) (tDrop (tBM K "list" rExtend (tVar 3) (tCons (tCall s__law_grown [] E0 (tCons (tVar 0) (tCons (tOp (rCatA K) (tVar 1) (tTup (tCons (tVar 4) tNil))) tNil))) tNil))) tNext))
    (tRet (tVar 3))))))
def t__law_is_shut (K : PySem.W.Frag) (w : World) : TS :=
  (tRet (tOp (rEqD K) (tLockE (tLc (iKeys (tVar 0)) (gName 2) (tAnd (tTest (tOp (rIn K false) (tDGet (tVar 0) (tVar 2)) (tVar 1))) (tTest (tOp (rIn K true) (tVar 2) (tVar 1)))) (tVar 2) [2])) (tLst tNil)))
section
variable {K : PySem.W.Frag} {w : World} {H : Hp}
def shutB (ld : Lead) (R : List Int) : Bool := ld.all fun p => decide (p.1 ∈ R) || !decide (p.2 ∈ R)
def spIsShut (K : PySem.W.Frag) : Sp := fun vs H Q _ => ∃ (G : Hp) (t l : Addr) (R : List Int) (ld : Lead), vs = [.ref t, .ref l] ∧ Same G H ∧ SqT K G t (R.map V.int) ∧ LeadAt K G l ld ∧ ld.length ≤ 1000 ∧ ∀ H1, Ext [] G H G H1 → Q (.bl (shutB ld R)) H1
theorem pure_is_shut (vs : List V) (Q : VK) (E : XK) (h : spIsShut K vs H Q E) : t_is_shut K w { nx := fun _ H1 => Q .non H1, rt := Q } (start ["ring", "lead", "goal", "source"] vs) H := by
  obtain ⟨G, t, l, R, ld, rfl, s, ht, ⟨xs, hx, hd⟩, l1, q⟩ := h
  have ll : xs.length = ld.length := by rw [dpAll_len hd, List.length_map]
  unfold t_is_shut
  walk_at "go"
  refine ⟨_, rfl, ⟨_, s.seq hx⟩, ?_⟩
  refine lcL (M := []) s (fun _ h => nomatch h) hx (by omega) (fun i acc G1 H1 => acc = ((ld.take i).map fun p => decide (p.1 ∈ R) || !decide (p.2 ∈ R)).map V.bl) (fun _ _ _ _ _ _ h => h) rfl
    (fun i x acc G1 H1 Ry Rn hi ex e iv hy hn => ?_) (fun p acc G1 H1 e np gp hp hl iv => ?_)
  · obtain ⟨u, p, ep, rfl, hu⟩ := pair_at hd ex
    have ht1 : SqT K H1 t (R.map V.int) := sqT_mono e.s (sqT_mono e.g ht)
    walk_at "go"
    refine k_tupN (sqT_mono e.s (sqT_mono e.g hu)) rfl ?_
    walk_at "go"
    refine ⟨rfl, ?_⟩
    walk_at "go"
    refine k_inI (.inr ht1) ?_
    walk_at "go"
    have fin : ∀ b : Bool, b = (decide (p.1 ∈ R) || !decide (p.2 ∈ R)) → Ry (.bl b) H1 := fun b hb => by
      refine hy _ _ _ (Ext.refl e.s) ?_
      rw [iv, List.take_add_one, ep, List.map_append, List.map_append, hb]
      rfl
    refine k_both (fun h => ?_) (fun h => ?_)
    · exact fin _ (by rw [decide_eq_true h]; rfl)
    · walk_at "go"
      refine k_ninI (.inr ht1) ?_
      exact fin _ (by rw [decide_eq_false h]; rfl)
  · rw [ll, List.take_length] at iv
    walk_at "go"
    refine ⟨p, (ld.map fun p => decide (p.1 ∈ R) || !decide (p.2 ∈ R)), rfl, SqL.of (by rw [← iv]; exact hp), ?_⟩
    have e2 : (ld.map fun p => decide (p.1 ∈ R) || !decide (p.2 ∈ R)).all id = shutB ld R := by
      unfold shutB; rw [List.all_map]; rfl
    rw [e2]
    exact q _ (e.back s)
def spShutRings (K : PySem.W.Frag) : Sp := fun vs H Q _ => ∃ (G : Hp) (n : Int) (l : Addr) (ld : Lead), vs = [.int n, .ref l] ∧ Same G H ∧ 1 ≤ n ∧ n ≤ 10 ∧ LeadAt K G l ld ∧ GoodM n ld ∧
  ∀ (p : Addr) (xs : List V) (G1 H1 : Hp), Ext [] G H G1 H1 → H p = none → G1 p = some (.lst xs) → DpAll K G1 xs (((ringsOf (lk (real ld)) n.toNat).filter (shutB ld)).map pdInts) → Q (.ref p) H1
theorem ringsOf_len {f : Int → Option Int} {n : Nat} : (ringsOf f n).length ≤ n := by
  unfold ringsOf
  have := List.length_filterMap_le (leastRing f) (rangeI n)
  rw [len_rangeI] at this
  exact this
theorem filter_snoc {α : Type} {g : α → Bool} {l : List α} {i : Nat} {a : α} (e : l[i]? = some a) : (l.take (i + 1)).filter g = if g a = true then (l.take i).filter g ++ [a] else (l.take i).filter g := by
  rw [List.take_add_one, e, List.filter_append]
  by_cases h : g a = true
  · rw [if_pos h]; simp [h]
  · rw [if_neg h]; simp [h]
/-- a tuple of ints among data -/
theorem ints_at {G : Hp} {xs : List V} {rs : List (List Int)} (h : DpAll K G xs (rs.map pdInts)) {i : Nat} {x : V} (e : xs[i]? = some x) : ∃ t R, rs[i]? = some R ∧ x = .ref t ∧ SqT K G t (R.map V.int) := by
  obtain ⟨d, ed, q⟩ := dpAll_get h e
  rw [List.getElem?_map] at ed
  cases e2 : rs[i]? with
  | none => rw [e2] at ed; cases ed
  | some R =>
    rw [e2] at ed
    cases ed
    obtain ⟨t, zs, rfl, hs, ha⟩ := dp_tuple q
    rw [dpAll_of_ints ha] at hs
    exact ⟨t, R, rfl, rfl, hs⟩
theorem pure_shut_rings (vs : List V) (Q : VK) (E : XK) (h : spShutRings K vs H Q E) : (tRet (tLc (iList K (tCall (spRings K) [] E0 (tCons (tVar 0) (tCons (tVar 1) tNil)))) (gName 2) (tB (tCall (spIsShut K) [] E0 (tCons (tVar 2) (tCons (tVar 1) tNil)))) (tVar 2) [2])) { nx := fun _ H1 => Q .non H1, rt := Q } (start ["boxes", "lead", "ring"] vs) H := by
  obtain ⟨G, n, l, ld, rfl, s, n1, n10, la, gm, q⟩ := h
  have l10 : ld.length ≤ 10 := by have := gm.len; omega
  walk_at "go"
  refine ⟨G, n, l, ld, rfl, s, n1, n10, la, gm, fun p xs G1 H1 e1 np hp hd => ?_⟩
  have ll : xs.length = (ringsOf (lk (real ld)) n.toNat).length := by rw [dpAll_len hd, List.length_map]
  have lr := ringsOf_len (f := lk (real ld)) (n := n.toNat)
  refine ⟨_, rfl, ⟨_, e1.s.seq (SqL.of hp)⟩, ?_⟩
  refine lcL (M := []) e1.s (fun _ h => nomatch h) (SqL.of hp) (by omega) (fun i acc G2 H2 => DpAll K G2 acc ((((ringsOf (lk (real ld)) n.toNat).take i).filter (shutB ld)).map pdInts)) (fun _ _ _ _ _ _ h => h) .nil
    (fun i x acc G2 H2 Ry Rn hi ex e2 iv hy hn => ?_) (fun r acc G2 H2 e2 nr gr hr hl iv => ?_)
  · obtain ⟨t, R, eR, rfl, ht⟩ := ints_at hd ex
    have ht2 := sqT_mono e2.g ht
    walk_at "go"
    refine ⟨rfl, ?_⟩
    walk_at "go"
    refine ⟨G2, t, l, R, ld, rfl, e2.s, ht2, la.mono (e1.trans e2).g, by omega, fun H3 e3 => ?_⟩
    walk_at "go"
    cases hb : shutB ld R with
    | true =>
      refine iteT ?_
      walk_at "go"
      refine hy _ _ _ e3 ?_
      rw [filter_snoc eR, if_pos hb, List.map_append]
      exact dpAll_app iv (dpAll_one (.tup ht2 (dpAll_ints R)))
    | false =>
      refine iteF ?_
      refine hn _ _ e3 ?_
      rw [filter_snoc eR, if_neg (by rw [hb]; exact Bool.false_ne_true)]
      exact iv
  · rw [ll, List.take_length] at iv
    exact q r acc _ H2 ((e1.trans e2).frz (e1.d _ nr) gr hr) (e1.d _ nr) upd_same (dpAll_mono (same_new gr) _ _ iv)
/-! ### the law's own reckoning -/
def spKnown (K : PySem.W.Frag) : Sp := fun vs H Q _ => ∃ (G : Hp) (n : Int) (l : Addr) (ld : Lead), vs = [.ref l] ∧ Same G H ∧ n ≤ 10 ∧ LeadAt K G l ld ∧ GoodM n ld ∧
  ∀ (d : Addr) (G1 H1 : Hp), Ext [] G H G1 H1 → G1 d = some (.dK (dct (real ld))) → Q (.ref d) H1
theorem pure_known (vs : List V) (Q : VK) (E : XK) (h : spKnown K vs H Q E) : t__law_known K w { nx := fun _ H1 => Q .non H1, rt := Q } (start ["_law_lead_here", "_law_pair"] vs) H := by
  obtain ⟨G, n, l, ld, rfl, s, n10, ⟨xs, hx, hd⟩, gm, q⟩ := h
  have ll : xs.length = ld.length := by rw [dpAll_len hd, List.length_map]
  have l10 := gm.len
  unfold t__law_known
  walk_at "go"
  refine ⟨_, rfl, ⟨_, s.seq hx⟩, ?_⟩
  refine lcL (M := []) s (fun _ h => nomatch h) hx (by omega) (fun i acc G1 H1 => ∃ ts : List Addr, acc = ts.map V.ref ∧ Paired (fun t (x : Int × Int) => SqT K G1 t [.int x.1, .int x.2]) ts (real (ld.take i))) (fun _ _ _ _ _ _ h => h) ⟨[], rfl, .nil⟩
    (fun i x acc G1 H1 Ry Rn hi ex e iv hy hn => ?_) (fun p acc G1 H1 e np gp hp hl iv => ?_)
  · obtain ⟨ts, rfl, pr⟩ := iv
    obtain ⟨t, p, ep, rfl, ht⟩ := pair_at hd ex
    have ht1 := sqT_mono e.g ht
    have ht2 := sqT_mono e.s ht1
    walk_at "go"
    refine ⟨rfl, ?_⟩
    walk_at "go"
    refine k_ixT ht2 (v := .int p.1) (atI_nat (j := 0) rfl) ?_
    walk_at "go"
    refine k_ixT ht2 (v := .int p.2) (atI_nat (j := 1) rfl) ?_
    walk_at "go"
    refine k_nboth (fun h => ?_) (fun h => ?_)
    · walk_at "go"
      refine hy _ _ _ (Ext.refl e.s) ⟨ts ++ [t], by simp, ?_⟩
      rw [real_snoc ep, if_pos h]
      exact paired_app pr ht1
    · refine hn _ _ (Ext.refl e.s) ⟨ts, rfl, ?_⟩
      rw [real_snoc ep, if_neg (fun z => z h)]
      exact pr
  · obtain ⟨ts, rfl, pr⟩ := iv
    rw [ll, List.take_length] at pr
    walk_at "go"
    refine k_dictP (G1 := upd G1 p (.lst (ts.map V.ref))) (e.frz np gp hp).s upd_same (paired_mono (fun _ _ z => sqT_mono (same_new gp) z) pr) gm.real.nd fun d nd => ?_
    exact q d _ _ ((e.frz np gp hp).new nd) upd_same
end
end MV
namespace MV
open PySem PySem.Spec PyProof.Rows L2
local macro_rules | `(tactic| walk_at "go") => `(tactic| repeat (first
  | with_reducible refine MV.k_seq ?_ | with_reducible refine MV.k_asg ?_ | with_reducible refine MV.k_name ?_ | with_reducible refine MV.k_op ?_ | ((with_reducible apply MV.k_var); exact rfl) | with_reducible refine MV.k_c ?_
  | with_reducible refine MV.k_add ?_ | with_reducible refine MV.k_sub ?_ | with_reducible refine MV.k_lt ?_ | with_reducible refine MV.k_le ?_ | with_reducible refine MV.k_gt ?_ | with_reducible refine MV.k_ge ?_ | with_reducible refine MV.k_eqI ?_ | with_reducible refine MV.k_neI ?_
  | with_reducible refine MV.k_test ?_ | with_reducible refine MV.k_B ?_ | with_reducible refine MV.k_bl ?_ | with_reducible refine MV.k_blV ?_ | with_reducible refine MV.k_and ?_ | with_reducible refine MV.k_or ?_ | with_reducible refine MV.k_not ?_ | with_reducible refine MV.k_andV ?_ | with_reducible refine MV.k_orV ?_ | with_reducible refine MV.k_notV ?_
  | with_reducible refine MV.k_if ?_ | with_reducible refine MV.k_tru ?_ | with_reducible refine MV.k_chain ?_ | with_reducible refine MV.k_next ?_ | with_reducible refine MV.k_drop ?_ | with_reducible refine MV.k_ret ?_ | with_reducible refine MV.k_retN ?_ | with_reducible refine MV.k_ifS ?_ | with_reducible refine MV.k_brk ?_ | with_reducible refine MV.k_cont ?_
  | with_reducible refine MV.k_nil ?_ | with_reducible refine MV.k_cons ?_ | with_reducible refine MV.k_tup ?_ | with_reducible refine MV.k_lst ?_ | with_reducible refine MV.k_cb ?_ | with_reducible refine MV.k_call ?_ | with_reducible refine MV.k_gnil ?_ | with_reducible refine MV.k_gcons ?_ | with_reducible refine MV.k_gsub ?_
  | with_reducible refine MV.k_bm ?_ | with_reducible refine MV.k_bm0 ?_ | with_reducible refine MV.k_un ?_ | with_reducible refine MV.k_neg ?_ | with_reducible refine MV.k_isN ?_ | with_reducible refine MV.k_notN ?_ | with_reducible refine L2.iteT ?_ | with_reducible refine L2.iteF ?_
  | with_reducible refine MV.k_iList ?_ | with_reducible refine MV.k_iTup ?_ | with_reducible refine MV.k_iRng1 ?_ | with_reducible refine MV.k_lc ?_ | with_reducible refine MV.k_for ?_
  | with_reducible refine MV.k_yes ?_ | with_reducible refine MV.k_dput ?_ | with_reducible refine MV.k_dget ?_ | with_reducible refine MV.k_dget1 ?_ | with_reducible refine MV.k_sl ?_ | with_reducible refine MV.k_nopart ?_ | with_reducible refine MV.k_part ?_ | with_reducible refine MV.k_pint ?_ | with_reducible refine MV.k_dnew ?_ | with_reducible refine MV.k_lstRg ?_ | with_reducible refine MV.k_rg1 ?_))
section
variable {K : PySem.W.Frag} {w : World} {H : Hp}
def shutL (m : Lead) (R : List Int) : Bool := (m.filter fun p => decide (p.2 ∈ R) && !decide (p.1 ∈ R)).isEmpty
theorem shut_same (ld : Lead) (R : List Int) : shutL (real ld) R = shutB ld R := by
  unfold shutL shutB real
  rw [List.filter_filter]
  induction ld with
  | nil => rfl
  | cons p r ih =>
    rw [List.all_cons, ← ih, List.filter_cons]
    by_cases h1 : p.1 ∈ R
    · simp [h1]
    · by_cases h2 : p.2 ∈ R
      · have h3 : p.1 ≠ p.2 := fun z => h1 (by rw [z]; exact h2)
        simp [h1, h2, h3]
      · simp [h1, h2]
def spLawShut (K : PySem.W.Frag) : Sp := fun vs H Q _ => ∃ (G : Hp) (d t : Addr) (n : Int) (m : Lead) (R : List Int), vs = [.ref d, .ref t] ∧ Same G H ∧ G d = some (.dK (dct m)) ∧ GoodM n m ∧ n ≤ 10 ∧ SqT K G t (R.map V.int) ∧ ∀ H1, Ext [] G H G H1 → Q (.bl (shutL m R)) H1
theorem pure_law_shut (vs : List V) (Q : VK) (E : XK) (h : spLawShut K vs H Q E) : t__law_is_shut K w { nx := fun _ H1 => Q .non H1, rt := Q } (start ["_law_known_here", "_law_ring", "_law_goal"] vs) H := by
  obtain ⟨G, d, t, n, m, R, rfl, s, hd, gm, n10, ht, q⟩ := h
  have lm := gm.len
  unfold t__law_is_shut
  walk_at "go"
  refine ⟨d, .dK (dct m), s _ _ hd, trivial, fun od => ?_⟩
  walk_at "go"
  refine ⟨.ref d, rfl, d, od, rfl, .inl ⟨dct m, upd_same, ?_⟩⟩
  have e0 : Same (upd G d (.frz od (.dK (dct m)))) (upd H d (.frz od (.dK (dct m)))) := same_put s
  have ht0 : SqT K (upd G d (.frz od (.dK (dct m)))) t (R.map V.int) := by
    rcases ht with (h | ⟨o, h⟩) | h
    · exact .inl (.inl (by rw [upd_ne (ne_of h hd fun z => nomatch z)]; exact h))
    · exact .inl (.inr ⟨o, by rw [upd_ne (ne_of h hd fun z => nomatch z)]; exact h⟩)
    · exact .inr h
  refine lcK (M := []) (G := upd G d (.frz od (.dK (dct m)))) upd_same e0 (fun _ h => nomatch h) (by rw [dct_len]; omega)
    (fun i acc G1 H1 => acc = ((((m.take i).filter fun p => decide (p.2 ∈ R) && !decide (p.1 ∈ R)).map (·.1))).map V.int) (fun _ _ _ _ _ _ h => h) rfl
    (fun i k v acc G1 H1 Ry Rn hi ek e iv hy hn => ?_) (fun l acc G1 H1 e nl gl hl ln iv => ?_)
  · have hi' : i < m.length := by rwa [dct_len] at hi
    unfold dct at ek
    rw [List.getElem?_map, List.getElem?_eq_getElem hi'] at ek
    have ek2 := Option.some.inj ek
    have k1 : k = Sum.inl m[i].1 := (congrArg Prod.fst ek2).symm
    have v1 : v = V.int m[i].2 := (congrArg Prod.snd ek2).symm
    subst k1 v1
    have em : m[i]? = some m[i] := List.getElem?_eq_getElem hi'
    have ht1 : SqT K H1 t (R.map V.int) := sqT_mono e.s (sqT_mono e.g ht0)
    have hd1 : H1 d = some (.frz od (.dK (dct m))) := e.s _ _ (e.g _ _ upd_same)
    have lkm : lk m m[i].1 = some m[i].2 := lk_of gm.nd (List.getElem_mem hi')
    have dg : DGet H1 d (.int m[i].1) (some (.int m[i].2)) := .inl ⟨dct m, Sum.inl m[i].1, .inr ⟨od, hd1⟩, rfl, by rw [dct_val, lkm]; rfl⟩
    show gName 2 (.int m[i].1) _ H1 _
    walk_at "go"
    refine ⟨rfl, ?_⟩
    walk_at "go"
    refine ⟨d, _, rfl, dg, ?_⟩
    walk_at "go"
    refine k_inI (.inr ht1) ?_
    walk_at "go"
    have yes : (decide (m[i].2 ∈ R) && !decide (m[i].1 ∈ R)) = true → Ry (.int m[i].1) H1 := fun h => by
      refine hy _ _ _ (Ext.refl e.s) ?_
      rw [iv, filter_snoc em, if_pos h, List.map_append, List.map_append]; rfl
    have no : (decide (m[i].2 ∈ R) && !decide (m[i].1 ∈ R)) = false → Rn H1 := fun h => by
      refine hn _ _ (Ext.refl e.s) ?_
      rw [iv, filter_snoc em, if_neg (by rw [h]; exact Bool.false_ne_true)]
    refine k_both (fun h => ?_) (fun h => ?_)
    · walk_at "go"
      refine k_ninI (.inr ht1) ?_
      walk_at "go"
      refine k_nboth (fun h2 => ?_) (fun h2 => ?_)
      · walk_at "go"
        exact yes (by rw [decide_eq_true h, decide_eq_false h2]; rfl)
      · exact no (by rw [decide_eq_true h, decide_eq_true h2]; rfl)
    · refine iteF ?_
      exact no (by rw [decide_eq_false h]; rfl)
  · have e1 := Ext.unlock e s hd (by simp)
    have ldn : l ≠ d := fun z => by rw [z, upd_same] at nl; cases nl
    refine ⟨e.s _ _ (e.g _ _ upd_same), ?_⟩
    walk_at "go"
    refine ⟨sz1 (by simp), fun l2 nl2 => ?_⟩
    rw [dct_len, List.take_length] at iv
    subst iv
    have hl2 : (upd H1 d (.dK (dct m))) l = some (.lst ((((m.filter fun p => decide (p.2 ∈ R) && !decide (p.1 ∈ R)).map (·.1))).map V.int)) := by rw [upd_ne ldn]; exact hl
    refine k_eqNil (SqL.of (upd_two (ne_of_none hl2 nl2) hl2)) (SqL.of upd_same) ?_
    have e2 : ((((m.filter fun p => decide (p.2 ∈ R) && !decide (p.1 ∈ R)).map (·.1))).map PyData.int).isEmpty = shutL m R := by
      unfold shutL
      cases m.filter fun p => decide (p.2 ∈ R) && !decide (p.1 ∈ R) <;> rfl
    rw [e2]
    exact q _ ((e1.back s).tmp nl2)
/-- growing: what is found from some on -/
def spGrown (K : PySem.W.Frag) (lev : Nat) : Sp := fun vs H Q _ => ∃ (G : Hp) (d t : Addr) (n : Int) (m : Lead) (b : Int) (sm : List Int), vs = [.ref d, .ref t] ∧ Same G H ∧ G d = some (.dK (dct m)) ∧ GoodM n m ∧ n ≤ 10 ∧ (∀ x, lk m x ≠ some x) ∧
  SqT K G t (sm.map V.int) ∧ Sm (lk m) b sm ∧ InR n sm ∧ 12 ≤ sm.length + lev ∧
  ∀ (p : Addr) (xs : List V) (G1 H1 : Hp), Ext [] G H G1 H1 → H p = none → G1 p = some (.lst xs) → DpAll K G1 xs ((growR (lk m) b sm).map pdInts) → Q (.ref p) H1
theorem grown_none {vs : List V} {Q : VK} {E : XK} : ¬ spGrown K 0 vs H Q E := by
  rintro ⟨G, d, t, n, m, b, sm, rfl, s, hd, gm, n10, hf, ht, sm1, ir, lev, q⟩
  have := few sm1.nd ir
  omega
theorem k_sortedDI {d : Addr} {m : Lead} {G1 : Hp} {n : Int} {Q : VK} (s : Same G1 H) (hd : G1 d = some (.dK (dct m))) (gm : GoodM n m) (n10 : n ≤ 10) (q : ∀ (ys : List Int) (p : Addr), ys.Perm (m.map (·.1)) → ys.Pairwise (· ≤ ·) → H p = none → Q (.ref p) (upd H p (.lst (ys.map V.int)))) : vSortedDI [.ref d] H Q :=
  ⟨d, dct m, m.map (·.1), rfl, .inl (s _ _ hd), dct_keys m, by rw [List.length_map]; have := gm.len; omega, q⟩
theorem growR_len {f : Int → Option Int} {b : Int} {sm : List Int} : (growR f b sm).length ≤ 1 := by
  unfold growR
  split
  · split <;> simp
  · simp
theorem flat_len {α β : Type} {g : α → List β} (h : ∀ x, (g x).length ≤ 1) : ∀ l : List α, (l.flatMap g).length ≤ l.length
  | [] => Nat.le_refl _
  | a :: l => by rw [List.flatMap_cons, List.length_append, List.length_cons]; have := flat_len h l; have := h a; omega
theorem grownAt_len {f : Int → Option Int} {b last : Int} {sm : List Int} (g : Int) : (grownAt f b last sm g).length ≤ 1 := by
  unfold grownAt
  split
  · exact growR_len
  · simp
theorem flat_snoc {α β : Type} {g : α → List β} {l : List α} {i : Nat} {a : α} (e : l[i]? = some a) : (l.take (i + 1)).flatMap g = (l.take i).flatMap g ++ g a := by
  rw [List.take_add_one, e, List.flatMap_append]
  congr 1
  simp
theorem pure_grown {lev : Nat} (vs : List V) (Q : VK) (E : XK) (h : spGrown K (lev + 1) vs H Q E) : t__law_grown K w (spGrown K lev) { nx := fun _ H1 => Q .non H1, rt := Q } (start ["_law_known_here", "_law_some", "_law_last", "_law_found", "_law_goal"] vs) H := by
  obtain ⟨G, d, t, n, m, b, sm, rfl, s, hd, gm, n10, hf, ht, sm1, ir, lv, q⟩ := h
  have ln : sm.length ≤ 10 := by have := few sm1.nd ir; omega
  obtain ⟨qq, eqq⟩ := sm1.hd
  have hne : sm ≠ [] := by rw [eqq]; exact fun z => nomatch z
  obtain ⟨ini, last, els⟩ : ∃ ini last, sm = ini ++ [last] := ⟨sm.dropLast, sm.getLast hne, (List.dropLast_concat_getLast hne).symm⟩
  have gl : sm.getLast? = some last := by rw [els, List.getLast?_concat]
  have atl : atI (sm.map V.int) (-1) = some (.int last) := by rw [els, List.map_append]; exact atI_last _ _
  have at0 : atI (sm.map V.int) 0 = some (.int b) := by rw [eqq]; exact atI_nat (j := 0) rfl
  unfold t__law_grown
  walk_at "go"
  refine k_ixT (sqT_mono s ht) atl ?_
  walk_at "go"
  refine ⟨sz1 (by simp), fun l nl => ?_⟩
  have e0 := (Ext.refl (M := []) s).tmp (o := .lst []) nl
  have gn : G l = none := s.free nl
  walk_at "go"
  refine k_len (.inr (sqT_mono e0.s ht)) ?_
  have rest : ∀ (H1 : Hp) (xs : List V), Ext [l] G (upd H l (.lst [])) G H1 → H1 l = some (.lst xs) → DpAll K G xs ((found0 (lk m) b last sm).map pdInts) →
      (tSeq (tFor (iList K (tCB vSortedDI (tCons (tVar 0) tNil))) (gName 4) (tIfS (tAnd (tTest (tOp rEq (tDGet (tVar 0) (tVar 4)) (tVar 2))) (tAnd (tTest (tOp vGt (tVar 4) (tOp (rIxT K) (tVar 1) (tC (.int 0))))) (tTest (tOp (rIn K true) (tVar 4) (tVar 1))))) (tDrop (tBM K "list" rExtend (tVar 3) (tCons (tCall (spGrown K lev) [] E0 (tCons (tVar 0) (tCons (tOp (rCatA K) (tVar 1) (tTup (tCons (tVar 4) tNil))) tNil))) tNil))) tNext))
      (tRet (tVar 3))) { nx := fun _ H1 => Q .non H1, rt := Q } [some (.ref d), some (.ref t), some (.int last), some (.ref l), none] H1 := by
    intro H1 xs e1 hl1 dp1
    have e1' : Ext [] G H G H1 := e0.fin e1 (by simp [nl])
    walk_at "go"
    refine k_sortedDI e1.s hd gm n10 fun ys pk pm pw npk => ?_
    have e2 := (Ext.refl (M := [l]) e1.s).new (o := .lst (ys.map V.int)) npk
    have e2' := e1'.new (o := .lst (ys.map V.int)) npk
    have npl : l ≠ pk := ne_of_none hl1 npk
    have gl2 : (upd G pk (.lst (ys.map V.int))) l = none := by rw [upd_ne npl]; exact gn
    have ysn : ys.Nodup := pm.nodup_iff.mpr gm.nd
    refine ⟨_, rfl, ⟨_, SqL.of upd_same⟩, ?_⟩
    refine forL (M := [l]) e2.s (SqL.of upd_same) (fun i σ1 G3 H3 => ∃ (x4 : Option V) (zs : List V), σ1 = [some (.ref d), some (.ref t), some (.int last), some (.ref l), x4] ∧ H3 l = some (.lst zs) ∧ G3 l = none ∧ DpAll K G3 zs ((found0 (lk m) b last sm ++ (ys.take i).flatMap (grownAt (lk m) b last sm)).map pdInts))
      ⟨none, xs, rfl, upd_two npl hl1, gl2, by rw [List.take_zero, List.flatMap_nil, List.append_nil]; exact dpAll_mono e2.g _ _ dp1⟩ (fun i x σ1 G3 H3 hi ex e3 ⟨x4, zs, es, h3, g3, dp3⟩ => ?_) (fun σ1 G3 H3 e3 ⟨x4, zs, es, h3, g3, dp3⟩ => ?_)
    · subst es
      have hi' : i < ys.length := by rwa [List.length_map] at hi
      rw [List.getElem?_map, List.getElem?_eq_getElem hi'] at ex
      cases ex
      have eg : ys[i]? = some ys[i] := List.getElem?_eq_getElem hi'
      have key : ys[i] ∈ m.map (·.1) := pm.mem_iff.mp (List.getElem_mem hi')
      obtain ⟨v, hv⟩ : ∃ v, lk m ys[i] = some v := by
        cases h : lk m ys[i] with
        | none => exact absurd key (lk_none.mp h)
        | some v => exact ⟨v, rfl⟩
      have rg : 0 ≤ ys[i] ∧ ys[i] < n := by have := gm.rg _ (lk_mem hv); exact ⟨this.1, this.2.1⟩
      have hd3 : G3 d = some (.dK (dct m)) := e3.g _ _ (e2.g _ _ hd)
      have ht3 : SqT K G3 t (sm.map V.int) := sqT_mono e3.g (sqT_mono e2.g ht)
      have cG : condG (lk m) b last sm ys[i] = (decide (v = last) && (decide (b < ys[i]) && !decide (ys[i] ∈ sm))) := by
        unfold condG
        rw [hv]
        congr 1
        by_cases z : v = last
        · subst z; simp
        · rw [decide_eq_false z, decide_eq_false fun y => z (Option.some.inj y)]
      have skip : condG (lk m) b last sm ys[i] = false → ∃ G4, Ext [l] G3 H3 G4 H3 ∧ ∃ (x4 : Option V) (zs : List V), [some (V.ref d), some (.ref t), some (.int last), some (.ref l), some (.int ys[i])] = [some (.ref d), some (.ref t), some (.int last), some (.ref l), x4] ∧ H3 l = some (.lst zs) ∧ G4 l = none ∧ DpAll K G4 zs ((found0 (lk m) b last sm ++ (ys.take (i + 1)).flatMap (grownAt (lk m) b last sm)).map pdInts) := fun c => by
        refine ⟨G3, Ext.refl e3.s, _, zs, rfl, h3, g3, ?_⟩
        have : grownAt (lk m) b last sm ys[i] = [] := by unfold grownAt; rw [c, if_neg Bool.false_ne_true]
        rw [flat_snoc eg, this, List.append_nil]
        exact dp3
      walk_at "go"
      refine ⟨d, _, rfl, k_dgetAt (e3.s _ _ hd3) hv, ?_⟩
      walk_at "go"
      refine k_both (fun c1 => ?_) (fun c1 => ?_)
      · walk_at "go"
        refine k_ixT (sqT_mono e3.s ht3) at0 ?_
        walk_at "go"
        refine k_both (fun c2 => ?_) (fun c2 => ?_)
        · walk_at "go"
          refine k_ninI (.inr (sqT_mono e3.s ht3)) ?_
          walk_at "go"
          refine k_nboth (fun c3 => ?_) (fun c3 => ?_)
          · have cT : condG (lk m) b last sm ys[i] = true := by rw [cG, decide_eq_true c1, decide_eq_true c2, decide_eq_false c3]; rfl
            walk_at "go"
            refine ⟨tyL h3, ?_⟩
            walk_at "go"
            refine ⟨sz1 (by simp), fun t2 nt2 => ?_⟩
            have e4 := (Ext.refl (M := [l]) e3.s).new (o := .tup [.int ys[i]]) nt2
            have ht4 := sqT_mono e4.s (sqT_mono e4.g ht3)
            refine ⟨t, t2, _, _, rfl, rfl, ht4, SqT.of upd_same, sz1 (by rw [List.length_map]; simp; omega), fun z => absurd (List.map_eq_nil_iff.mp z) hne, fun _ z => (nomatch z), fun _ _ t3 nt3 => ?_⟩
            have e5 := e4.new (o := .tup (sm.map V.int ++ [.int ys[i]])) nt3
            walk_at "go"
            have hl5 : (upd (upd H3 t2 (.tup [.int ys[i]])) t3 (.tup (sm.map V.int ++ [.int ys[i]]))) l = some (.lst zs) := by
              have a1 := upd_two (o := .tup [.int ys[i]]) (ne_of_none h3 nt2) h3
              exact upd_two (ne_of_none a1 nt3) a1
            have sm2 : Sm (lk m) b (sm ++ [ys[i]]) := by
              refine ⟨⟨qq ++ [ys[i]], by rw [eqq]; rfl⟩, ?_, ?_, fun x hx => ?_⟩
              · rw [List.reverse_append, els, List.reverse_append]
                refine ⟨by rw [hv, c1], ?_⟩
                have := sm1.ch
                rw [els, List.reverse_append] at this
                exact this
              · refine List.nodup_append.mpr ⟨sm1.nd, by simp, fun x hx y hy z => ?_⟩
                have : y = ys[i] := List.mem_singleton.mp hy
                rw [z, this] at hx
                exact c3 hx
              · rcases List.mem_append.mp hx with z | z
                · exact sm1.gt x z
                · have : x = ys[i] := List.mem_singleton.mp z
                  omega
            have ir2 : InR n (sm ++ [ys[i]]) := fun x hx => by
              rcases List.mem_append.mp hx with z | z
              · exact ir x z
              · have : x = ys[i] := List.mem_singleton.mp z
                rw [this]; exact rg
            refine ⟨_, d, t3, n, m, b, sm ++ [ys[i]], rfl, e5.s, e5.g _ _ hd3, gm, n10, hf, SqT.of (by rw [List.map_append]; exact upd_same), sm2, ir2, by simp; omega, fun p rs G6 H6 e6 np hp dp6 => ?_⟩
            have h6 : H6 l = some (.lst zs) := e6.keep0 hl5
            have e7 : Ext [l] G3 H3 G6 H6 := e5.trans e6.to
            have g6 : G6 l = none := e7.un g3 h3
            have lz : zs.length ≤ 11 := by
              rw [dpAll_len dp3, List.length_map, List.length_append]
              have a1 := flat_len (grownAt_len (f := lk m) (b := b) (last := last) (sm := sm)) (ys.take i)
              have a2 : (found0 (lk m) b last sm).length ≤ 1 := by unfold found0; split <;> simp
              have a3 : (ys.take i).length ≤ 10 := by
                have := pm.length_eq
                rw [List.length_map] at this
                have := gm.len
                rw [List.length_take]; omega
              omega
            have lr : rs.length ≤ 1 := by rw [dpAll_len dp6, List.length_map]; exact growR_len
            walk_at "go"
            refine ⟨l, p, zs, rs, rfl, rfl, h6, e6.s _ _ hp, sz1 (by omega), ?_⟩
            refine ⟨G6, e7.mutM (List.mem_singleton.mpr rfl) g6, _, zs ++ rs, rfl, upd_same, g6, ?_⟩
            have eA : grownAt (lk m) b last sm ys[i] = growR (lk m) b (sm ++ [ys[i]]) := by unfold grownAt; rw [cT, if_pos rfl]
            rw [flat_snoc eg, eA, ← List.append_assoc, List.map_append]
            exact dpAll_app (dpAll_mono e7.g _ _ dp3) dp6
          · exact skip (by rw [cG, decide_eq_true c3]; simp)
        · refine iteF ?_
          exact skip (by rw [cG, decide_eq_false c2]; simp)
      · refine iteF ?_
        exact skip (by rw [cG, decide_eq_false c1]; rfl)
    · subst es
      walk_at "go"
      have e4 : Ext [] G H G3 H3 := e2'.fin e3 (by simp [nl])
      rw [List.length_map, List.take_length, grow_step hf sm1 gl ysn (fun g v e => pm.mem_iff.mpr (List.mem_map.mpr ⟨_, lk_mem e, rfl⟩)) (by omega)] at dp3
      exact q l zs _ H3 (e4.frz nl g3 h3) nl upd_same (dpAll_mono (same_new g3) _ _ dp3)
  walk_at "go"
  have lens : ((sm.map V.int).length : Int) = sm.length := by rw [List.length_map]
  rw [lens]
  refine k_both (fun c1 => ?_) (fun c1 => ?_)
  · walk_at "go"
    refine ⟨d, rfl, .inl ⟨_, .inl (e0.s _ _ hd)⟩, ?_⟩
    walk_at "go"
    refine k_ixT (sqT_mono e0.s ht) at0 ?_
    refine ⟨_, k_get1 e0.s hd, ?_⟩
    rw [ov_get]
    walk_at "go"
    have sc : scal (ov (lk m b)) (.int last) = true := by cases lk m b <;> rfl
    refine k_eq sc ?_
    walk_at "go"
    refine k_both (fun c2 => ?_) (fun c2 => ?_)
    · walk_at "go"
      refine ⟨tyL upd_same, ?_⟩
      walk_at "go"
      refine k_append (xs := []) upd_same (sz2 (by simp)) ?_
      refine rest _ [.ref t] ((Ext.refl e0.s).mutM (List.mem_singleton.mpr rfl) gn) upd_same ?_
      have : found0 (lk m) b last sm = [sm] := by
        unfold found0
        rw [if_pos]
        refine ⟨by omega, ?_⟩
        cases hb : lk m b with
        | none => rw [hb] at c2; cases c2
        | some z => rw [hb] at c2; have : V.int z = V.int last := c2; rw [V.int.inj this]
      rw [this]
      exact dpAll_one (.tup ht (dpAll_ints sm))
    · refine rest _ [] (Ext.refl e0.s) upd_same ?_
      have : found0 (lk m) b last sm = [] := by
        unfold found0
        rw [if_neg]
        rintro ⟨_, z⟩
        rw [z] at c2
        exact c2 rfl
      rw [this]; exact .nil
  · refine iteF ?_
    refine rest _ [] (Ext.refl e0.s) upd_same ?_
    have : found0 (lk m) b last sm = [] := by
      unfold found0
      rw [if_neg]
      rintro ⟨z, _⟩
      exact c1 (by omega)
    rw [this]; exact .nil
end
end MV
namespace MV
open PySem PySem.Spec PyProof.Rows L2
local macro_rules | `(tactic| walk_at "go") => `(tactic| repeat (first
  | with_reducible refine MV.k_seq ?_ | with_reducible refine MV.k_asg ?_ | with_reducible refine MV.k_name ?_ | with_reducible refine MV.k_op ?_ | ((with_reducible apply MV.k_var); exact rfl) | with_reducible refine MV.k_c ?_
  | with_reducible refine MV.k_add ?_ | with_reducible refine MV.k_sub ?_ | with_reducible refine MV.k_lt ?_ | with_reducible refine MV.k_le ?_ | with_reducible refine MV.k_gt ?_ | with_reducible refine MV.k_ge ?_ | with_reducible refine MV.k_eqI ?_ | with_reducible refine MV.k_neI ?_
  | with_reducible refine MV.k_test ?_ | with_reducible refine MV.k_B ?_ | with_reducible refine MV.k_bl ?_ | with_reducible refine MV.k_blV ?_ | with_reducible refine MV.k_and ?_ | with_reducible refine MV.k_or ?_ | with_reducible refine MV.k_not ?_ | with_reducible refine MV.k_andV ?_ | with_reducible refine MV.k_orV ?_ | with_reducible refine MV.k_notV ?_
  | with_reducible refine MV.k_if ?_ | with_reducible refine MV.k_tru ?_ | with_reducible refine MV.k_chain ?_ | with_reducible refine MV.k_next ?_ | with_reducible refine MV.k_drop ?_ | with_reducible refine MV.k_ret ?_ | with_reducible refine MV.k_retN ?_ | with_reducible refine MV.k_ifS ?_ | with_reducible refine MV.k_brk ?_ | with_reducible refine MV.k_cont ?_
  | with_reducible refine MV.k_nil ?_ | with_reducible refine MV.k_cons ?_ | with_reducible refine MV.k_tup ?_ | with_reducible refine MV.k_lst ?_ | with_reducible refine MV.k_cb ?_ | with_reducible refine MV.k_call ?_ | with_reducible refine MV.k_gnil ?_ | with_reducible refine MV.k_gcons ?_ | with_reducible refine MV.k_gsub ?_
  | with_reducible refine MV.k_bm ?_ | with_reducible refine MV.k_bm0 ?_ | with_reducible refine MV.k_un ?_ | with_reducible refine MV.k_neg ?_ | with_reducible refine MV.k_isN ?_ | with_reducible refine MV.k_notN ?_ | with_reducible refine L2.iteT ?_ | with_reducible refine L2.iteF ?_
  | with_reducible refine MV.k_iList ?_ | with_reducible refine MV.k_iTup ?_ | with_reducible refine MV.k_iRng1 ?_ | with_reducible refine MV.k_lc ?_ | with_reducible refine MV.k_for ?_
  | with_reducible refine MV.k_yes ?_ | with_reducible refine MV.k_dput ?_ | with_reducible refine MV.k_dget ?_ | with_reducible refine MV.k_dget1 ?_ | with_reducible refine MV.k_sl ?_ | with_reducible refine MV.k_nopart ?_ | with_reducible refine MV.k_part ?_ | with_reducible refine MV.k_pint ?_ | with_reducible refine MV.k_dnew ?_ | with_reducible refine MV.k_lstRg ?_ | with_reducible refine MV.k_rg1 ?_))
section
variable {K : PySem.W.Frag} {w : World} {H : Hp}
theorem filterMap_filter {α β : Type} {g : α → Option β} {p : α → Bool} : ∀ {l : List α}, (∀ x, x ∈ l → p x = false → g x = none) → (l.filter p).filterMap g = l.filterMap g
  | [], _ => rfl
  | a :: l, h => by
    have ih := filterMap_filter (l := l) fun x hx => h x (List.mem_cons_of_mem _ hx)
    rw [List.filter_cons]
    cases e : p a with
    | true => rw [if_pos rfl, List.filterMap_cons, List.filterMap_cons, ih]
    | false => rw [if_neg Bool.false_ne_true, List.filterMap_cons, h a (List.mem_cons_self ..) e, ih]
theorem rangeI_sorted (n : Nat) : (rangeI n).Pairwise (· ≤ ·) := by
  unfold rangeI
  refine List.Pairwise.map _ (fun a b h => ?_) (List.pairwise_lt_range (n := n))
  exact Int.ofNat_le.mpr (Nat.le_of_lt h)
theorem growR_one {f : Int → Option Int} (hf : ∀ x, f x ≠ some x) (b : Int) : growR f b [b] = (leastRing f b).toList := by
  unfold growR
  cases e : leastRing f b with
  | none => rfl
  | some R =>
    obtain ⟨T, _, e1, _⟩ := leastRing_some hf e
    show (if [b] <+: R then [R] else []) = [R]
    rw [if_pos]
    rw [e1]
    exact ⟨T.reverse, rfl⟩
theorem rings_all {f : Int → Option Int} (hf : ∀ x, f x ≠ some x) {n : Nat} {ys : List Int} (nd : ys.Nodup) (so : ys.Pairwise (· ≤ ·)) (rg : ∀ x, x ∈ ys → 0 ≤ x ∧ x < n) (hk : ∀ g v, f g = some v → g ∈ ys) : ys.flatMap (fun b => growR f b [b]) = ringsOf f n := by
  have e1 : ys.flatMap (fun b => growR f b [b]) = ys.filterMap (leastRing f) := by
    clear nd so rg hk
    induction ys with
    | nil => rfl
    | cons a r ih =>
      rw [List.flatMap_cons, ih, growR_one hf, List.filterMap_cons]
      cases leastRing f a <;> rfl
  rw [e1]
  unfold ringsOf
  have e2 : (rangeI n).filter (fun x => decide (x ∈ ys)) = ys := by
    refine List.Perm.eq_of_pairwise (le := (· ≤ ·)) (fun a b _ _ h1 h2 => Int.le_antisymm h1 h2) ((rangeI_sorted n).sublist (List.filter_sublist)) so ?_
    refine (List.perm_ext_iff_of_nodup ((List.filter_sublist).nodup (rangeI_nodup n)) nd).mpr fun x => ?_
    rw [List.mem_filter, mem_rangeI]
    constructor
    · rintro ⟨_, h⟩; exact of_decide_eq_true h
    · intro h; exact ⟨rg x h, decide_eq_true h⟩
  rw [← e2, filterMap_filter]
  intro x _ hx
  have nx : x ∉ ys := of_decide_eq_false hx
  unfold leastRing
  rw [if_neg]
  rintro ⟨h, _⟩
  obtain ⟨T, t, _⟩ := ringFrom_back hf h
  obtain ⟨y0, T', eT⟩ : ∃ y T', T = y :: T' := by
    cases T with
    | nil => exact absurd rfl t.ne
    | cons y T' => exact ⟨y, T', rfl⟩
  have := t.go
  rw [eT] at this
  exact nx (hk x y0 this.1)
def spLawRings (K : PySem.W.Frag) : Sp := fun vs H Q _ => ∃ (G : Hp) (d : Addr) (n : Int) (m : Lead), vs = [.ref d] ∧ Same G H ∧ G d = some (.dK (dct m)) ∧ GoodM n m ∧ 1 ≤ n ∧ n ≤ 10 ∧ (∀ x, lk m x ≠ some x) ∧
  ∀ (p : Addr) (xs : List V) (G1 H1 : Hp), Ext [] G H G1 H1 → H p = none → G1 p = some (.lst xs) → DpAll K G1 xs ((ringsOf (lk m) n.toNat).map pdInts) → Q (.ref p) H1
theorem pure_law_rings {lev : Nat} (h11 : 11 ≤ lev) (vs : List V) (Q : VK) (E : XK) (h : spLawRings K vs H Q E) : t__law_rings K w (spGrown K lev) { nx := fun _ H1 => Q .non H1, rt := Q } (start ["_law_known_here", "_law_found", "_law_box", "_law_ring"] vs) H := by
  obtain ⟨G, d, n, m, rfl, s, hd, gm, n1, n10, hf, q⟩ := h
  have lm := gm.len
  unfold t__law_rings
  walk_at "go"
  refine ⟨sz1 (by simp), fun l nl => ?_⟩
  have e0 := (Ext.refl (M := []) s).tmp (o := .lst []) nl
  have gn : G l = none := s.free nl
  walk_at "go"
  refine k_sortedDI e0.s hd gm n10 fun ys pk pm pw npk => ?_
  have e1 := e0.new (o := .lst (ys.map V.int)) npk
  have npl : l ≠ pk := fun z => by rw [← z, upd_same] at npk; cases npk
  have gl1 : (upd G pk (.lst (ys.map V.int))) l = none := by rw [upd_ne npl]; exact gn
  have ysn : ys.Nodup := pm.nodup_iff.mpr gm.nd
  have ly : ys.length ≤ 10 := by rw [pm.length_eq, List.length_map]; omega
  have rgy : ∀ x, x ∈ ys → 0 ≤ x ∧ x < n := fun x hx => by
    obtain ⟨p, hp, rfl⟩ := List.mem_map.mp (pm.mem_iff.mp hx)
    have := gm.rg p hp
    exact ⟨this.1, this.2.1⟩
  refine ⟨_, rfl, ⟨_, SqL.of upd_same⟩, ?_⟩
  refine forL (M := [l]) e1.s (SqL.of upd_same) (fun i σ1 G3 H3 => ∃ (x2 x3 : Option V) (zs : List V), σ1 = [some (.ref d), some (.ref l), x2, x3] ∧ H3 l = some (.lst zs) ∧ G3 l = none ∧ zs.length ≤ i ∧ DpAll K G3 zs (((ys.take i).flatMap fun b => growR (lk m) b [b]).map pdInts))
    ⟨none, none, [], rfl, upd_two npl upd_same, gl1, Nat.le_refl _, .nil⟩ (fun i x σ1 G3 H3 hi ex e3 ⟨x2, x3, zs, es, h3, g3, lz, dp3⟩ => ?_) (fun σ1 G3 H3 e3 ⟨x2, x3, zs, es, h3, g3, lz, dp3⟩ => ?_)
  · subst es
    have hi' : i < ys.length := by rwa [List.length_map] at hi
    rw [List.getElem?_map, List.getElem?_eq_getElem hi'] at ex
    cases ex
    have eg : ys[i]? = some ys[i] := List.getElem?_eq_getElem hi'
    have hd3 : G3 d = some (.dK (dct m)) := e3.g _ _ (e1.g _ _ hd)
    walk_at "go"
    refine ⟨sz1 (by simp), fun t nt => ?_⟩
    have e4 := (Ext.refl (M := [l]) e3.s).new (o := .tup [.int ys[i]]) nt
    have h4 := upd_two (o := .tup [.int ys[i]]) (ne_of_none h3 nt) h3
    walk_at "go"
    refine ⟨_, d, t, n, m, ys[i], [ys[i]], rfl, e4.s, e4.g _ _ hd3, gm, n10, hf, SqT.of upd_same, ⟨⟨[], rfl⟩, trivial, by simp, fun x hx => by have : x = ys[i] := List.mem_singleton.mp hx; omega⟩,
      fun x hx => by have : x = ys[i] := List.mem_singleton.mp hx; rw [this]; exact rgy _ (List.getElem_mem hi'), by simp; omega, fun p rs G5 H5 e5 np hp dp5 => ?_⟩
    have lr : rs.length ≤ 1 := by rw [dpAll_len dp5, List.length_map]; exact growR_len
    have h5 : H5 l = some (.lst zs) := e5.keep0 h4
    have e6 : Ext [l] G3 H3 G5 H5 := e4.trans e5.to
    have g5 : G5 l = none := e6.un g3 h3
    refine ⟨_, rfl, ⟨_, e5.s.seq (SqL.of hp)⟩, ?_⟩
    refine forL (M := [l]) e5.s (SqL.of hp) (fun j σ1 G6 H6 => ∃ (x3 : Option V), σ1 = [some (.ref d), some (.ref l), some (.int ys[i]), x3] ∧ H6 l = some (.lst (zs ++ rs.take j)) ∧ G6 = G5)
      ⟨x3, rfl, by rw [List.take_zero, List.append_nil]; exact h5, rfl⟩ (fun j y σ1 G6 H6 hj ey e7 ⟨x3, es, h6, eG⟩ => ?_) (fun σ1 G6 H6 e7 ⟨x3, es, h6, eG⟩ => ?_)
    · subst es eG
      walk_at "go"
      refine ⟨tyL h6, ?_⟩
      walk_at "go"
      refine k_append h6 (sz2 (by rw [List.length_append, List.length_take]; omega)) ?_
      refine ⟨G6, (Ext.refl e7.s).mutM (List.mem_singleton.mpr rfl) g5, _, rfl, ?_, rfl⟩
      rw [upd_same, List.take_add_one, ey, List.append_assoc]; rfl
    · subst es eG
      rw [List.take_length] at h6
      refine ⟨G6, e6.trans e7, _, _, zs ++ rs, rfl, h6, g5, by rw [List.length_append]; omega, ?_⟩
      rw [flat_snoc eg, List.map_append]
      exact dpAll_app (dpAll_mono e6.g _ _ dp3) dp5
  · subst es
    walk_at "go"
    have e4 : Ext [] G H G3 H3 := e1.fin e3 (by simp [nl])
    rw [List.length_map, List.take_length, rings_all hf ysn pw (n := n.toNat) (fun x hx => by have := rgy x hx; omega) (fun g v e => pm.mem_iff.mpr (List.mem_map.mpr ⟨_, lk_mem e, rfl⟩))] at dp3
    exact q l zs _ H3 (e4.frz nl g3 h3) nl upd_same (dpAll_mono (same_new g3) _ _ dp3)
end
end MV
namespace PySem
namespace BX
open PySem.W PySem.Calls PyProof.Rows PySem.HandSPX
/-! ### an own error whose __init__ hands a text on to the one above it, then keeps a number -/
structure Ps where
  (p1 p2 p3 p4 p5 p6 p7 p8 p9 pa pb q1 q2 q3 q4 : Pos)
def iA (f : Str) (P : Ps) : Arguments := { posonlyargs := [], args := [{ arg := "self", annotation := none, pos := P.p1 }, { arg := f, annotation := none, pos := P.p2 }], vararg := none, kwonlyargs := [], kw_defaults := [], kwarg := none, defaults := [] }
def iT (f pre post : Str) (P : Ps) : Expr := .JoinedStr [.Constant (.str pre) 0 P.p6, .FormattedValue (.Name f P.p7) (-1) none P.p8, .Constant (.str post) 0 P.p9] P.pa
def iB (f pre post : Str) (P : Ps) : List Stmt :=
  [.Expr (.Call (.Attribute (.Call (.Name "super" P.p3) [] [] P.p4) "__init__" P.p5) [iT f pre post P] [] P.pb) P.pb,
   .Assign [.Attribute (.Name "self" P.q1) f P.q2] (.Name f P.q3) P.q4]
def iS (f : Str) : Scope := { kind := .function, names := [(PySem.Str.ofString "self", .local), (f, .local), (PySem.Str.ofString "__class__", .free), (PySem.Str.ofString "super", .globalImplicit)], isGenerator := false, isCoroutine := false, more := [] }
/-- what the written part says of the class at C, and of its __init__, at fI -/
structure BadTxt (K : Frag) (prog : Program) (C fI : Addr) (f : Str) : Prop where
  cls : ∃ nm q N bs bm sn sub ab col dd k0 k1 k2 k3 k5, K.lookup C = some (excClassObj nm q C N bs bm true sn sub ab col dd k0 k1 k2 k3 k5 "ValueError.__new__") ∧ refsVE bm = true
  sa : findIn K (.ref C) "__setattr__" = some (some (.builtin "object.__setattr__"))
  noN : findIn K (.ref C) f = some none
  iC : findIn K (.ref C) "__init__" = some (some (.ref fI))
  tC : typeIn K (.ref fI) = some (.type "function")
  kC : keepIn K (.ref C) = true
  exC : subIn K (.ref C) (.type "BaseException") = some true
  veC : subIn K (.ref C) (.type "ValueError") = some true
  tyC : typeIn K (.ref C) = some (.type "type")
  mC : mroIn K C (.ref C) = some true
  su : ks_superIn K C C "__init__" = some (some (.builtin "ValueError.__init__"))
  op : nsIn K cStatics "thirdparty.any" = some none
  ng : nsIn K mainGlobals "super" = some none
  top : (prog.main.scope.names.lookup ("super" : Str)).isSome = false
  fl : f = "number" ∨ f = "place"
  fn : ∃ (oc : Value) (od : Option Addr) (doc pm : Value) (an : Option Addr) (ct : Value) (osl : Array (Option Value)) (P : Ps) (q pre post : Str) (cc cda : Addr) (cl : Value) (cld : Option Addr) (csl : Array (Option Value))
      (ccl : Value) (cdd : Option Addr) (vs : Array Value) (ccs : Array (Option Value)) (file : Str) (tf : Tok),
    K.lookup fI = some ⟨oc, od, .func (ksFn "__init__" q (iA f P) (iB f pre post P) (iS f) .none .none doc pm an (.ref cda) ct cc), osl⟩ ∧ codeIn K (.ref cda) q = true ∧ pre.length ≤ 1000 ∧ post.length ≤ 1000 ∧ (P.p5.endLine == P.pb.line) = true ∧
    K.lookup cc = some ⟨cl, cld, .cell (some (.ref C)), csl⟩ ∧ K.lookup cda = some ⟨ccl, cdd, .fields vs, ccs⟩ ∧ vs[2]? = some (.str file tf) ∧ ((prog.main.file : Str) == file) = true
theorem call_eq {env : Env} {pos apos pS pN p6 p7 p8 p9 pa : Pos} {f pre post : Str} (hline : (apos.endLine == pos.line) = true) :
    eval (.Call (.Attribute (.Call (.Name "super" pN) [] [] pS) "__init__" apos) [.JoinedStr [.Constant (.str pre) 0 p6, .FormattedValue (.Name f p7) (-1) none p8, .Constant (.str post) 0 p9] pa] [] pos) env = (do
      let ov ← attributeBase (.Call (.Name "super" pN) [] [] pS) "__init__" env (eval (.Call (.Name "super" pN) [] [] pS) env)
      standAt apos.atName
      let (fu, first) ← holding [ov] (getMethod ov "__init__" (do return (← importBound (.Call (.Name "super" pN) [] [] pS) env).getD true))
      callWith pos fu first (backTo pos (starEach [.JoinedStr [.Constant (.str pre) 0 p6, .FormattedValue (.Name f p7) (-1) none p8, .Constant (.str post) 0 p9] pa] env)) []) := by
  have hpos : methodCallPos true (.Call (.Name "super" pN) [] [] pS) env apos pos = pure pos := by unfold methodCallPos; simp [hline]
  rw [arm_eval_Call]
  have hm : ∀ ov, methodCall (.Call (.Name "super" pN) [] [] pS) "__init__" apos pos env ov 1 (backTo pos (starEach [.JoinedStr [.Constant (.str pre) 0 p6, .FormattedValue (.Name f p7) (-1) none p8, .Constant (.str post) 0 p9] pa] env)) [] = (do
      let (fu, first) ← holding [ov] (getMethod ov "__init__" (do return (← importBound (.Call (.Name "super" pN) [] [] pS) env).getD true))
      callWith pos fu first (backTo pos (starEach [.JoinedStr [.Constant (.str pre) 0 p6, .FormattedValue (.Name f p7) (-1) none p8, .Constant (.str post) 0 p9] pa] env)) []) := fun ov => by
    show (holding [ov] (calleeOf true (.Call (.Name "super" pN) [] [] pS) env ov "__init__") >>= fun x => methodCallPos true (.Call (.Name "super" pN) [] [] pS) env apos pos >>= fun callPos => callWith callPos x.1 x.2 _ _) = _
    rw [hpos]
    rfl
  show (attributeBase (.Call (.Name "super" pN) [] [] pS) "__init__" env _ >>= fun ov => standAt apos.atName >>= fun _ => methodCall (.Call (.Name "super" pN) [] [] pS) "__init__" apos pos env ov 1 _ []) = _
  simp only [hm]
/-- the method-wrapper called: the error's args are laid anew -/
theorem call_mw {prog : Program} {w : World} {A : Around} {E : Value → Shared → Prop} {h : Heap} {g : Array GenState} {d : Drawn} {t : Nat} {os : OsState} {nm q : Str} {C N : Addr} {bs bm : List Value} {hdct : Bool} {sn : List Str} {sub : List Value} {ab : Bool} {col : Option Bool} {dd : Option Addr} {k0 k1 k2 k3 k5 : Option Value}
    {u e t0 : Addr} {rest : List Value} {Q : Value → Shared → Prop}
    (hC : h.get? C = some (excClassObj nm q C N bs bm hdct sn sub ab col dd k0 k1 k2 k3 k5 "ValueError.__new__")) (he : h.get? e = some (excO C t0)) (hu : h.get? u = some (kxs_mw "ValueError.__init__" e)) (hrest : rest.length ≤ sizeLine)
    (hq : ∀ h' t1, (∀ b o, b ≠ e → h.get? b = some o → h'.get? b = some o) → h'.get? e = some (excO C t1) → Q .none ⟨h', g, d, t, os⟩) :
    wpAny (model prog w) A (call (.ref u) rest) Q E ⟨h, g, d, t, os⟩ := by
  refine wpAny_call (codeAny_of_tree ?_)
  show wpAny _ A.in1 (callAny (.ref u) ⟨rest, []⟩) _ _ _
  simp only [callAny]
  refine wpAny_bind (wpAny_load hu ?_)
  simp only [kxs_mw, show (Value.type "method-wrapper" == Value.type "method" || Value.type "method-wrapper" == Value.type "builtin_function_or_method" || Value.type "method-wrapper" == Value.type "method-wrapper") = true by decide, if_true]
  refine W.KFB.if_so (by decide) ?_
  refine wpAny_bind (check_bound_init F.excBase_ValueError.toExcCallFacts hC he rfl ?_)
  refine wpAny_bind (wpAny_pure (wpAny_pure ?_))
  refine ⟨plainId_quiet F.excBase_ValueError.init.plain _, codeAny_builtin F.excBase_ValueError.initEntry ?_⟩
  rw [Around.under_plainId F.excBase_ValueError.init.plain _]
  wp_walk
  refine hq _ h.objs.size (fun b o hb ho => ?_) ?_
  · rw [Heap.get?_update_other _ _ (Ne.symm hb)]
    exact Heap.get?_push_of_some _ ho
  · rw [Heap.get?_update_self _ (Heap.get?_push_of_some _ he) rfl]
    rfl
theorem callWith1 {M : Model} {A : Around} {E : Value → Shared → Prop} {s : Shared} {i : String} {x u : Addr} {pos : Pos} {env : Env} {e : Expr} {rest : List Expr} {Q : Value → Shared → Prop}
    (h : wpAny M A (spliced (backTo pos (starEach (e :: rest) env))) (fun vs s₁ => s₁.heap.get? u = some (kxs_mw i x) ∧ wpAny M A (call (.ref u) vs) Q E s₁) E s)
    (he : starEach (e :: rest) env = (false, eval e env) :: starEach rest env := by rfl) (hplain : (backTo pos (starEach rest env)).any (·.1) = false := by rfl) :
    wpAny M A (callWith pos (.ref u) [] (backTo pos (starEach (e :: rest) env)) []) Q E s := by
  rw [he] at h ⊢
  refine kxs_callWith (i := i) (x := x) (by show (false || (backTo pos (starEach rest env)).any (·.1)) = false; rw [hplain]; rfl) ?_
  exact evalArgs_plain h
theorem one_size (v : Value) : [v].length ≤ sizeLine := by
  rw [sizeLine_eq]
  exact (by decide : 1 ≤ 16777216)
/-- what __init__ leaves of a fresh error at x -/
structure InitEnd (h h' : Heap) (x C dx t1 : Addr) (f : Str) (v : Value) : Prop where
  keep : ∀ b o, b ≠ x → h.get? b = some o → h'.get? b = some o
  obj : h'.get? x = some { cls := .ref C, dict := some dx, data := .fields #[.ref t1, .none, .none, .none, .bool false, .none] }
  dbig : h.objs.size ≤ dx
  dne : dx ≠ x
  ns : h'.Ns1 dx (fun y => if y = f then some v else none)
section
variable {prog : Program} {w : World} {A : Around} {E : Value → Shared → Prop} {R : Result → Shared → Prop} {s : Shared} {K : Frag} {C fI : Addr} {f : Str}
theorem text_runs {env : Env} {m : Str → Option Value} {n : Int} {tn : Tok} {pre post : Str} {P : Ps} {Q : Value → Shared → Prop} (hn : s.heap.Ns env.locals m) (hv : m f = some (.int n tn)) (hk : env.scope.kind = .function) (hl : env.kindOf f = some .local) (hd : (f == ("__debug__" : Str)) = false)
    (hz : n.natAbs.log2 < 1920) (h1 : pre.length ≤ 1000) (h2 : post.length ≤ 1000) (hq : ∀ (y : Str) t tk, Q (.str y t) { s with toks := tk }) :
    wpAny (model prog w) A (eval (iT f pre post P) env) Q E s := by
  have e := int_text_length_le (k := 1920) (by decide) hz
  have e2 : (Str.ofString (toString n)).length ≤ 4000 := by rw [ofString_length]; omega
  have ea : ∀ a b : Str, (a ++ b).length = a.length + b.length := fun a b => size_cat a b
  have z0 : (Str.empty : Str).length = 0 := rfl
  unfold iT
  refine wpAny_JoinedStr ?_
  have e0 : evalEach [.Constant (.str pre) 0 P.p6, .FormattedValue (.Name f P.p7) (-1) none P.p8, .Constant (.str post) 0 P.p9] env = [eval (.Constant (.str pre) 0 P.p6) env, eval (.FormattedValue (.Name f P.p7) (-1) none P.p8) env, eval (.Constant (.str post) 0 P.p9) env] := by first | rfl | simp [evalEach]
  rw [e0]
  refine Calls.Constant_str ⟨_, _, rfl, by rw [ea, sizeLine_eq]; omega, ?_⟩
  refine wpAny_FormattedValue_plain (wpAny_Name (wpAny_loadName_local hk hl hn hv ?_) hd)
  refine wpAny_formatField_int hz ⟨_, _, rfl, by rw [ea, ea, sizeLine_eq]; omega, ?_⟩
  refine Calls.Constant_str ⟨_, _, rfl, by rw [ea, ea, ea, sizeLine_eq]; omega, ?_⟩
  exact ⟨by rw [ea, ea, ea, sizeLine_eq]; omega, hq _ _ _⟩
theorem bad_init (T : BadTxt K prog C fI f) {x t0 : Addr} {n : Int} {tn : Tok} {mg mb : Str → Option Value} (X : K.In s.heap) (hlim : s.heap.NoLimit) (hx : s.heap.get? x = some (excO C t0)) (hnx : K.lookup x = none) (hroom : A.depth < recursionLimit)
    (hg : s.heap.Ns mainGlobals mg) (hb : s.heap.Ns builtinsNs mb) (hmb : mb "super" = some (.type "super")) (hz : n.natAbs.log2 < 1920)
    (hq : ∀ h' tk dx t1, InitEnd s.heap h' x C dx t1 f (.int n tn) → R (.ok (.ret .none)) { s with heap := h', toks := tk }) :
    codeAny (model prog w) A (.call (.ref fI) ⟨[.ref x, .int n tn], []⟩) R s := by
  obtain ⟨oc, od, doc, pm, an, ct, osl, P, q, pre, post, cc, cda, cl, cld, csl, ccl, cdd, vs, ccs, file, tf, ho, hcd, hl1, hl2, hline, hcell, hcode, hvs, hfile⟩ := T.fn
  obtain ⟨nm, q', N, bs, bm, sn, sub, ab, col, dd, k0, k1, k2, k3, k5, hC, hbm⟩ := T.cls
  have hcl : clsIn K C = some { name := nm, bases := bs, mro := .ref C :: bm, ns := N, qualname := q', hasDict := true, slotNames := sn, subclasses := sub, abstract := ab, collection := col, hasDel := false } := by unfold clsIn; rw [hC] <;> rfl
  have hf : (f == ("__debug__" : Str)) = false ∧ (f == ("self" : Str)) = false ∧ (iS f).names.lookup f = some .local := by
    rcases T.fl with rfl | rfl <;> exact ⟨by decide, by decide, by first | rfl | decide⟩
  refine ks_codeAny_call_defAt (fd := ksFn "__init__" q (iA f P) (iB f pre post P) (iS f) .none .none doc pm an (.ref cda) ct cc) (body := iB f pre post P) (binds := [("self", .ref x), (f, .int n tn)]) hroom (X _ _ ho) rfl hlim (codeRec_of X hcd) rfl
    (by rcases T.fl with rfl | rfl <;> exact BindsTo.of_eq (by first | rfl | with_unfolding_all rfl)) (fun y hy => by
      have hy' : y ∈ (iS f).names := hy
      rcases T.fl with rfl | rfl <;> exact (show ∀ y ∈ (iS _).names, y.2 ≠ .cell by decide) y hy')
    (fun y hy => by
      rcases List.mem_cons.mp hy with rfl | hy
      · show (iS f).names.lookup ("self" : Str) = some .local
        rcases T.fl with rfl | rfl <;> first | rfl | decide
      · rcases List.mem_cons.mp hy with rfl | hy
        · exact hf.2.2
        · cases hy) (fun h₁ hns k₁ => ?_)
  have hxL : s.heap.objs.size ≠ x := Nat.ne_of_gt (Heap.lt_size hx)
  have X₁ : K.In h₁ := X.keeps k₁
  have hx₁ := k₁ _ _ hx
  have hlv : ([("self", Value.ref x), (f, Value.int n tn)] : List (Str × Value)).reverse.lookup ("self" : Str) = some (.ref x) := by rcases T.fl with rfl | rfl <;> first | rfl | decide
  have hlf : ([("self", Value.ref x), (f, Value.int n tn)] : List (Str × Value)).reverse.lookup f = some (.int n tn) := by
    show List.lookup f [(f, Value.int n tn), ("self", .ref x)] = _
    simp [List.lookup]
  have hkf : (callEnv (ksFn "__init__" q (iA f P) (iB f pre post P) (iS f) .none .none doc pm an (.ref cda) ct cc) s.heap.objs.size fI).kindOf f = some .local := hf.2.2
  have hks : (callEnv (ksFn "__init__" q (iA f P) (iB f pre post P) (iS f) .none .none doc pm an (.ref cda) ct cc) s.heap.objs.size fI).kindOf "self" = some .local := by
    show (iS f).names.lookup ("self" : Str) = some .local
    rcases T.fl with rfl | rfl <;> first | rfl | decide
  generalize hev : callEnv (ksFn "__init__" q (iA f P) (iB f pre post P) (iS f) .none .none doc pm an (.ref cda) ct cc) s.heap.objs.size fI = env at *
  have hec : env.code = .ref cda := by rw [← hev]; rfl
  have hefu : env.func = some fI := by rw [← hev]; rfl
  have hel : env.locals = s.heap.objs.size := by rw [← hev]; rfl
  have heg : env.globals = mainGlobals := by rw [← hev]; rfl
  have heb : env.builtins = builtinsNs := by rw [← hev]; rfl
  have hek : env.scope.kind = .function := by rw [← hev]; rfl
  have hecl : env.cells.lookup ("__class__" : Str) = some cc := by rw [← hev]; rfl
  have hksu : env.kindOf "super" = some .globalImplicit := by
    rw [← hev]
    show (iS f).names.lookup ("super" : Str) = some .globalImplicit
    rcases T.fl with rfl | rfl <;> first | rfl | decide
  have hkcl : env.kindOf "__class__" = some .free := by
    rw [← hev]
    show (iS f).names.lookup ("__class__" : Str) = some .free
    rcases T.fl with rfl | rfl <;> first | rfl | decide
  have hns' : h₁.Ns env.locals (fun y => ([("self", Value.ref x), (f, Value.int n tn)] : List (Str × Value)).reverse.lookup y) := by rw [hel]; exact hns
  have hint : interactive env = false := by rw [← hev]; rfl
  obtain ⟨sh, sg, sd, stk, sos⟩ := s
  refine ks_wpAt_execs_cons (ks_wpAt_Expr_any (ks_wpAt_MethodCall (ks_wpAt_super_base (fd := ksFn "__init__" q (iA f P) (iB f pre post P) (iS f) .none .none doc pm an (.ref cda) ct cc) (ar := { arg := "self", annotation := none, pos := P.p1 }) hksu hkcl (by decide) hefu (k₁ _ _ (X _ _ ho)) rfl rfl hec (k₁ _ _ (X _ _ hcode)) rfl hvs hfile T.top ?_) (call_eq hline)) hint rfl)
  refine ks_loadName_global hek hksu (loadGlobal_builtin (by rw [heg]; exact hg.keeps k₁) (mg_none_of X hg T.ng) (by rw [heb]; exact hb.keeps k₁) hmb ⟨rfl, ?_⟩)
  refine wpAny_loadName_free hek hkcl hecl ⟨_, X₁ _ _ hcell, rfl⟩ ?_
  refine wpAny_loadName_local hek hks hns' hlv ?_
  refine ks_wpAny_isType_cls (X₁ _ _ hC) rfl ⟨rfl, ?_⟩
  refine ks_wpAny_call_super (X₁ _ _ hC) rfl hx₁ rfl (fun c e => by cases e) (looks_mroIn X₁ T.mC) (fun h₂ hso k₂ => ?_)
  have X₂ : K.In h₂ := X₁.keeps k₂
  have hx₂ := k₂ _ _ hx₁
  have Ix : InstAt h₂ x (excO C t0) C none := ⟨hx₂, rfl, rfl, trivial⟩
  have hmo : alongIn K "__init__" (((Value.ref C :: bm).dropWhile (· != .ref C)).drop 1) = some (some (.builtin "ValueError.__init__")) := by
    have z := T.su
    unfold ks_superIn at z
    rw [hcl] at z
    exact z
  refine kxs_getMethod kxs_ValueError (l₀ := .ref C :: bm) hso (looks_opaque X₂ T.op) (fun A Q E s k q => wpAny_bind ((looks_clsIn X₂ hcl) A _ E s k (wpAny_pure q))) rfl X₂ hmo (Ix.type.andThen (looks_subIn X₂ T.veC)) (ks_ne X₂ Ix hcl) (by decide) ?_
  have k₃ : ∀ b o, h₂.get? b = some o → (h₂.push (kxs_mw "ValueError.__init__" x)).get? b = some o := fun b o e => Heap.get?_push_of_some _ e
  have hns₃ : (h₂.push (kxs_mw "ValueError.__init__" x)).Ns env.locals (fun y => ([("self", Value.ref x), (f, Value.int n tn)] : List (Str × Value)).reverse.lookup y) := (hns'.keeps k₂).keeps k₃
  refine callWith1 (i := "ValueError.__init__") (x := x) (spliced_more ?_) 
  refine text_runs (m := fun y => ([("self", Value.ref x), (f, Value.int n tn)] : List (Str × Value)).reverse.lookup y) hns₃ hlf hek hkf hf.1 hz hl1 hl2 (fun y t tk => ?_)
  refine spliced_none ⟨Heap.get?_push_at rfl rfl, ?_⟩
  refine call_mw ((X₂.keeps k₃) _ _ hC) (k₃ _ _ hx₂) (Heap.get?_push_at rfl rfl) (one_size _) (fun h₄ t1 k₄ hx₄ => ?_)
  have hne : env.locals ≠ x := by rw [hel]; exact hxL
  have hns₄ : h₄.Ns env.locals (fun y => ([("self", Value.ref x), (f, Value.int n tn)] : List (Str × Value)).reverse.lookup y) := by
    obtain ⟨oL, es, ep, hL, r⟩ := hns₃
    exact ⟨oL, es, ep, k₄ _ _ hne hL, r⟩
  have X₄ : K.In h₄ := fun a o e => k₄ a o (fun z => by rw [z, hnx] at e; cases e) ((X₂.keeps k₃) a o e)
  show wpAt _ _ _ (execs [.Assign [.Attribute (.Name "self" P.q1) f P.q2] (.Name f P.q3) P.q4] env) _ _ _
  refine wpAt_of_wpAny (wpAny_execs_cons (plainObj_wpAny_Assign_Attribute (wpAny_Name (wpAny_loadName_local hek hkf hns₄ hlf ?_) hf.1) (by rfl)))
  refine wpAny_Name (wpAny_loadName_local hek hks hns₄ hlv ?_) (by decide)
  refine set_plain X₄ (ox := excO C t1) (od := none) ⟨hx₄, rfl, rfl, trivial⟩ T.sa ?_
  refine exc_osa X₄ hx₄ hcl (show refsVE (.ref C :: bm) = true from hbm) rfl T.noN (fun h₅ tk₅ dx k₅ dn dne hx₅ hn₅ => ?_)
  show wpAny _ _ (execs _ _) _ _ _
  have z : env.locals < h₄.objs.size := hns₄.lt
  rw [hel] at z
  exact wpAny_execs_nil (hq h₅ tk₅ dx t1 ⟨fun b o hb e => k₅ b o hb (k₄ b o hb (k₃ _ _ (k₂ _ _ (k₁ b o e)))), hx₅, Nat.le_of_lt (Nat.lt_of_lt_of_le z dn), dne, hn₅⟩)
/-- a made one -/
structure OwnMade (h h' : Heap) (e C d : Addr) (f : Str) (v : Value) : Prop where
  keep : ∀ b o, h.get? b = some o → h'.get? b = some o
  new : h.objs.size ≤ e
  obj : ∃ oe vs, h'.get? e = some oe ∧ oe.cls = .ref C ∧ oe.dict = some d ∧ oe.data = .fields vs ∧ vs[1]? = some .none
  dbig : h.objs.size ≤ d
  dne : d ≠ e
  ns : h'.Ns1 d (fun y => if y = f then some v else none)
theorem bad_made (T : BadTxt K prog C fI f) {n : Int} {tn : Tok} {mg mb : Str → Option Value} (X : K.In s.heap) (hlim : s.heap.NoLimit) (hroom : A.depth + 1 < recursionLimit)
    (hg : s.heap.Ns mainGlobals mg) (hb : s.heap.Ns builtinsNs mb) (hmb : mb "super" = some (.type "super")) (hz : n.natAbs.log2 < 1920)
    (hq : ∀ h' tk e d, OwnMade s.heap h' e C d f (.int n tn) → R (.ok (.ret (.ref e))) { s with heap := h', toks := tk }) :
    codeAny (model prog w) A (.call (.ref C) ⟨[.int n tn], []⟩) R s := by
  obtain ⟨nm, q, N, bs, bm, sn, sub, ab, col, dd, k0, k1, k2, k3, k5, hC, hbm⟩ := T.cls
  obtain ⟨hp, g, dr, tk, os⟩ := s
  have k : ∀ b o, hp.get? b = some o → ((hp.push (kdv_tup [.int n tn])).push (excO C hp.objs.size)).get? b = some o := fun b o e => Heap.get?_push_of_some _ (Heap.get?_push_of_some _ e)
  have hget : ((hp.push (kdv_tup [.int n tn])).push (excO C hp.objs.size)).get? (hp.objs.size + 1) = some (excO C hp.objs.size) := by heap_get
  have hnx : K.lookup (hp.objs.size + 1) = none := by
    cases e : K.lookup (hp.objs.size + 1) with
    | none => rfl
    | some o =>
      have z : hp.get? (hp.objs.size + 1) = some o := X _ _ e
      exact absurd (Nat.lt_of_succ_lt (Heap.lt_size z)) (Nat.lt_irrefl _)
  refine call_own F.excBase_ValueError (fun X => refsVE_contains X bm hbm) (X _ _ hC) (looks_findIn X T.iC) (fun self => bind_fn X self T.tC) (one_size _) ?_
  refine bad_init (s := ⟨(hp.push (kdv_tup [.int n tn])).push (excO C hp.objs.size), g, dr, tk, os⟩) T (X.keeps k) (hlim.keeps k) hget hnx ?_ (hg.keeps k) (hb.keeps k) hmb hz fun h' tk' dx t1 ⟨k', hx, dn, dne, hns⟩ => ?_
  · show A.depth + 1 < recursionLimit
    exact hroom
  · have old : ∀ b o, hp.get? b = some o → h'.get? b = some o := fun b o e => k' b o (Nat.ne_of_lt (Nat.lt_succ_of_lt (Heap.lt_size e))) (k b o e)
    have z : hp.objs.size + 1 + 1 ≤ dx := by
      first
        | (simpa only [Heap.size_push] using dn)
        | exact dn
        | (have q := dn; rw [Heap.size_push, Heap.size_push] at q; exact q)
    exact ⟨rfl, hq h' tk' (hp.objs.size + 1) dx ⟨old, Nat.le_succ _, ⟨_, _, hx, rfl, rfl, rfl, rfl⟩, Nat.le_trans (Nat.le_trans (Nat.le_succ _) (Nat.le_succ _)) z, dne, hns⟩⟩
end
end BX
end PySem
namespace L2
open PySem PySem.Spec PyProof.Rows
theorem relO_bad {g : Str} {v : V} {v' : Value} (r : RelV v v') (f : Str) : RelO (List.lookup f [(g, v)]) (if f = g then some v' else none) := by
  by_cases hw : f = g
  · subst hw
    rw [if_pos rfl]
    have q : List.lookup f [(f, v)] = some v := by simp [List.lookup]
    rw [q]
    exact r
  · rw [if_neg hw]
    have qw : (f == g) = false := by simpa using hw
    have q2 : List.lookup f [(g, v)] = none := by simp [List.lookup, qw]
    rw [q2]
    trivial
section
variable {X : Cx} {C fI : Addr} {f : Str}
/-- Bad(e) -/
def tMkBad (C : Addr) (f : Str) (ta : TA) : St → Hp → XK → Prop := fun σ H Q => ta σ H fun vs H1 => ∃ n : Int, vs = [.int n] ∧ n.natAbs.log2 < 1920 ∧ ∀ d, H1 d = none → Q (.ref C) (some d) (upd H1 d (.xd [(f, .int n)]))
theorem pmk_bad {x : Str} {a : Expr} {ta : TA} {p pos : Pos} {k : Nat} (T : PySem.BX.BadTxt X.K X.prog C fI f) (gC : X.mg x = some (.ref C)) (hr : Room k X.A) (ha : PA X [a] ta) (hg : Gl X x := by rfl) (hdb : (x == ("__debug__" : Str)) = false := by decide)
    (he : starEach (a :: []) X.env = (false, eval a X.env) :: starEach [] X.env := by rfl) (hpl : (backTo pos (starEach [] X.env)).any (·.1) = false := by rfl) :
    PMk X (.Call (.Name x p) [a] [] pos) (tMkBad C f ta) := by
  intro pins s σ H Q I h
  refine wpAny_Call_Name_kw (ld_glob I hg gC ?_ hdb)
  refine PySem.W.callWith_K (h₀ := X.base) I.ok.mod.kin T.kC (thn (ha.run pos pins s σ H _ I h) fun us s1 hh => ?_) he hpl
  obtain ⟨vs, H1, I1, r1, v, ev, hz, q1⟩ := hh
  subst ev
  refine ⟨I1.kIn, ?_⟩
  cases r1 with
  | cons rv rn =>
    rename_i v' us'
    cases rn
    obtain ⟨tn, rfl⟩ := rv
    show wpAny _ _ (call (.ref C) [Value.int v tn]) _ _ _
    have hlim := I1.nolimit
    obtain ⟨mb, hb1, hb2⟩ := I1.mod.blt
    obtain ⟨hp, g, dr, tk, os⟩ := s1
    refine wpAny_call (PySem.BX.bad_made T I1.kIn hlim (by have := hr.dp; omega) (I1.mod.glob.keeps I1.bk) (hb1.keeps I1.bk) ((hb2 "super" (by decide)).trans (by decide +kernel)) hz fun h' tk' e d M => ?_)
    show MkP X pins σ Q (.ref e) ⟨h', g, dr, tk', os⟩
    obtain ⟨oe, fv, hoe, hc, hd, hdat, h1⟩ := M.obj
    have hns := M.ns
    obtain ⟨G', g1, g2⟩ := restrict h' fun b => decide (b ≠ e)
    have gk : ∀ b, b ≠ e → G'.get? b = h'.get? b := fun b hb => g1 b (decide_eq_true hb)
    have ge : G'.get? e = none := g2 e (by simp)
    have old : ∀ b o, hp.get? b = some o → G'.get? b = some o := fun b o q => (gk b (Nat.ne_of_lt (Nat.lt_of_lt_of_le (Heap.lt_size q) M.new))).trans (M.keep b o q)
    have ob : ObjOk X.prog X.w (upd H1 d (.xd [(f, .int v)])) G' d (.xd [(f, .int v)]) :=
      ⟨_, hns.at (fun o q => (gk d M.dne).trans q), fun g => relO_bad (v := .int v) (v' := .int v tn) ⟨tn, rfl⟩ g⟩
    have J : Inv X pins σ (upd H1 d (.xd [(f, .int v)])) ⟨G', g, dr, tk', os⟩ := I1.laid (t' := tk') old M.dbig ob
    refine ⟨e, oe, fv, ⟨G', g, dr, tk', os⟩, _, .ref C, some d, rfl, J, fun b o q => ?_, ge, hoe, ⟨hc, hd⟩, hdat, h1, ?_, rfl, I1.bare, raises_own T.exC T.tyC, q1 d (I1.hok.fresh M.dbig)⟩
    · by_cases hb : b = e
      · have q' : G'.get? b = some o := q
        rw [hb, ge] at q'; cases q'
      · exact (gk b hb).symm.trans q
    · rw [upd_ne (Ne.symm M.dne)]
      exact I1.hok.fresh M.new
/-- raise Bad(e) -/
def tRaiseBad (C : Addr) (f : Str) (W : WX) (ta : TA) : TS := fun _ σ H => tMkBad C f ta σ H fun cls d H' => W cls d σ H'
theorem ps_raiseBad {x : Str} {a : Expr} {ta : TA} {W : WX} {p pos pos2 : Pos} {k : Nat} (hc : X.calm = true) (T : PySem.BX.BadTxt X.K X.prog C fI f) (gC : X.mg x = some (.ref C)) (hr : Room k X.A) (tk : Takes X W) (ha : PA X [a] ta) (hg : Gl X x := by rfl) (hdb : (x == ("__debug__" : Str)) = false := by decide)
    (he : starEach (a :: []) X.env = (false, eval a X.env) :: starEach [] X.env := by rfl) (hpl : (backTo pos (starEach [] X.env)).any (·.1) = false := by rfl) :
    PS X (.Raise (some (.Call (.Name x p) [a] [] pos)) none pos2) (tRaiseBad C f W ta) := ps_raise hc tk (pmk_bad T gC hr ha hg hdb he hpl)
end
end L2
namespace EX
open PySem PySem.Spec PyProof.Rows L2
/-! ### how often a flat value stands in a list -/
theorem eqU_count {y : V} {uy : Value} (fy : flatV y = true) (ry : RelV y uy) : ∀ {ys : List V} {us : List Value}, Vals ys us → ys.all flatV = true → us.countP (eqU y) = ys.countP (fun z => eqV z y)
  | _, _, .nil, _ => rfl
  | _ :: _, _ :: _, .cons rz rs, f => by
    rw [List.all_cons, Bool.and_eq_true] at f
    rw [List.countP_cons, List.countP_cons, eqU_count fy ry rs f.2, eqU_of rz f.1]
def vCount (K : PySem.W.Frag) : V → List V → Hp → VK → Prop := fun x xs H Q => ∃ (p : Addr) (ys : List V) (y : V), x = .ref p ∧ xs = [y] ∧ SqL K H p ys ∧ flatV y = true ∧ ys.all flatV = true ∧ Q (.int ((ys.countP fun z => eqV z y) : Nat)) H
theorem mt_countF {X : Cx} : MtR X "list.count" (vCount X.K) := by
  intro pins s σ H x xs v us Q I rx rxs h
  obtain ⟨p, ys, y, rfl, rfl, hs, fy, fys, q⟩ := h
  cases rx
  obtain ⟨uy, rfl, ry⟩ := rxs.one
  obtain ⟨its, rv, ⟨⟨cls, dd, data, sl⟩, n, ho, hc, hdn, hd⟩, hlen⟩ := I.list hs
  simp only at hc hd
  subst hc hd
  refine call_meets PySem.F.slot_list_count ⟨_, ho, rfl⟩ PySem.F.entry_list_count (PySem.F.args_list_count_2 _ _)
    (SeqAt.list_countAt p its.toArray n dd sl uy (eqU y)) ⟨ho, fun u' hu' => mem_eqAt ry fy rv fys u' (by simpa using hu'), ?_⟩
  have ec : its.toArray.toList.countP (eqU y) = ys.countP (fun z => eqV z y) := eqU_count fy ry rv fys
  refine ⟨.int ((ys.countP fun z => eqV z y) : Nat), H, I.tok _, ⟨s.toks, ?_⟩, q⟩
  show Value.int ((its.toArray.toList.countP (eqU y) : Nat) : Int) s.toks = _
  rw [ec]
/-! ### isinstance of the error that the suite holds, with a dict of its own or none -/
def Own (H : Hp) (d : Option Addr) : Prop := ∀ dd, d = some dd → ∃ fs, H dd = some (.xd fs)
def vIsE (K : PySem.W.Frag) (cls : Value) (d : Option Addr) (a : Addr) : List V → Hp → VK → Prop := fun xs H Q =>
  ∃ (D : Addr) (c : V) (cv : Value) (b : Bool), xs = [.ref a, c] ∧ cls = .ref D ∧ ExcC K D ∧ (∀ u, RelV c u → u = cv) ∧ PySem.W.kitOne K (.ref D) cv = some b ∧ Own H d ∧ Q (.bl b) H
theorem call_isO {X : Cx} {a : Addr} {cls : Value} {d : Option Addr} {oe : Obj} {pn : List (Addr × Obj)} (hz : Zc cls d oe) (hf : ∃ vs, oe.data = .fields vs) : CallR (X.suite a ((a, oe) :: pn)) (.builtin "isinstance") (vIsE X.K cls d a) := by
  intro pins s σ H xs us Q I r h
  obtain ⟨D, c, cv, b, rfl, rfl, C, hcv, e, ow, q⟩ := h
  cases r with
  | cons rx rr =>
    cases rr with
    | cons rt rr =>
      cases rr
      cases rx
      have ec := hcv _ rt
      subst ec
      obtain ⟨hget, _⟩ := I.pin (a, oe) (List.mem_append.mpr (.inl List.mem_cons_self))
      obtain ⟨vs, hv⟩ := hf
      have hcl : (PySem.W.clsIn X.K D).isSome = true := by
        obtain ⟨cd, hc, _⟩ := PySem.W.any_some C.hd
        rw [hc]
        rfl
      have J : ∃ od, PySem.W.InstAt s.heap a oe D od := by
        cases d with
        | none =>
          obtain ⟨oc, od, oda, osl⟩ := oe
          obtain ⟨h1, h2⟩ := hz
          dsimp only at h1 h2 hv
          subst h1 h2 hv
          exact ⟨none, hget, rfl, rfl, trivial⟩
        | some dd =>
          obtain ⟨fs, hfs⟩ := ow dd rfl
          obtain ⟨mA, hns, _⟩ := (I.hok dd _ hfs : ObjOk X.prog X.w H s.heap dd (.xd fs))
          obtain ⟨od, ho, _⟩ := lookIn_ns hns
          exact ⟨some od, hget, hz.1, by unfold PySem.W.notCls; rw [hv] <;> rfl, by rw [hz.2]; exact ho⟩
      obtain ⟨od, J⟩ := J
      exact PySem.W.kia_one (PySem.W.kitx_exc (ox := oe) (od := od) hcl C.hg C.hk C.hs C.ha C.hn C.ht C.hm) I.kIn J e (fun z => nomatch z) fun tk => ⟨.bl b, H, I.kept (t' := tk) fun _ _ z => z, rfl, q⟩
/-! ### the field of the error that the suite holds, whatever its class -/
theorem pe_fld {X : Cx} {a C : Addr} {oe : Obj} {cls : Value} {d : Option Addr} {pn : List (Addr × Obj)} {e : Expr} {te : TE} {pos : Pos} {n : Str} (T : XfC X.K C) (hno : PySem.W.findIn X.K (.ref C) n = some none)
    (hz : Zc cls d oe) (hf : ∃ vs, oe.data = .fields vs) (he : PE (X.suite a ((a, oe) :: pn)) e te) (hb : attributeBase e n X.env (eval e X.env) = eval e X.env := by rfl) :
    PE (X.suite a ((a, oe) :: pn)) (.Attribute e n pos) (tXf a cls d C n te) := pe_xf T hno hz hf he hb
end EX
namespace EX
open PySem PySem.Spec PyProof.Rows L2
/-! ### a def that may raise, called by its name -/
structure CalX (P : Program) (w : World) (K : PySem.W.Frag) (mg : Str → Option Value) (base : Heap) (k : Nat) (x : Str) (sp : Sp) : Prop where
  ex : ∃ (f : Addr) (fd : FuncData) (ps : List Str), FnOk P w K mg base (L2.CX P w) k f fd ps sp ∧ mg x = some (.ref f) ∧ PySem.W.keepIn K (.ref f) = true ∧ Binds K fd ps []
theorem pe_cx {X : Cx} {k j : Nat} {x : Str} {sp : Sp} {W : WX} {p pos : Pos} {e : Expr} {es : List Expr} {t : TA} (c : CalX X.prog X.w X.K X.mg X.base k x sp) (hr : Room j X.A) (hk : k ≤ j) (hg : Gl X x) (tk : Takes X W) (ha : PA X (e :: es) t)
    (hdb : (x == ("__debug__" : Str)) = false := by decide) (he : starEach (e :: es) X.env = (false, eval e X.env) :: starEach es X.env := by rfl) (hpl : (backTo pos (starEach es X.env)).any (·.1) = false := by rfl) :
    PE X (.Call (.Name x p) (e :: es) [] pos) (tCallS sp (WE W) t) := by
  obtain ⟨f, fd, ps, F, hm, kp, b⟩ := c.ex
  exact pe_callS F (hr.mono hk) hg hm kp b (fun σ => passAt tk σ) ha hdb he hpl
/-! ### raise of an own class that is made with a text -/
structure PlainX (K : PySem.W.Frag) (x : Str) : Prop where
  q : PySem.W.excIn K (He.ga K x) [.type "ValueError", .type "Exception", .type "BaseException", .type "object"] "ValueError.__new__" = true
  k : PySem.W.keepIn K (.ref (He.ga K x)) = true
  r1 : PySem.W.subIn K (.ref (He.ga K x)) (.type "BaseException") = some true
  r2 : PySem.W.typeIn K (.ref (He.ga K x)) = some (.type "type")
def tRaiseOwn (C : Addr) (W : WX) : TS := fun _ σ H => W (.ref C) none σ H
theorem ps_raiseOwn {X : Cx} {x m : Str} {W : WX} {j : Nat} {p p2 pos pos2 : Pos} (hc : X.calm = true) (T : PlainX X.K x) (gC : X.mg x = some (.ref (He.ga X.K x))) (tk : Takes X W) (hg : Gl X x) (hdb : (x == ("__debug__" : Str)) = false := by decide) :
    PS X (.Raise (some (.Call (.Name x p) [.Constant (.str m) j p2] [] pos)) none pos2) (tRaiseOwn (He.ga X.K x) W) :=
  ps_raise hc tk (pmk_own PySem.F.excBase_ValueError T.q gC T.k (raises_own T.r1 T.r2) hg hdb)
/-- takes, for slots as many as names -/
theorem takes_len {X : Cx} {W : WX} (tk : Takes X W) : Takes X (fun cls d σ H => σ.length = X.N.length → W cls d σ H) := fun u s' ⟨a, B, sI, pins, σ, H, cls, d, e, I, nb, up, sky, na, os, ag, w⟩ =>
  tk u s' ⟨a, B, sI, pins, σ, H, cls, d, e, I, nb, up, sky, na, os, ag, w I.len⟩
/-! ### what a law's reader of refusals makes of an error -/
abbrev Same (H H' : Hp) : Prop := ∀ b o, H b = some o → H' b = some o
def kinds8 : List Str := ["BadLead", "BadSpare", "BadMove", "NoWay", "BadWord", "BadHouse", "BadCall", "BadText"]
structure KindC (K : PySem.W.Frag) : Prop where
  exc : ∀ x ∈ kinds8, ExcC K (He.ga K x)
  exm : ∀ x ∈ kinds8, PySem.W.exmOne K (.ref (He.ga K x)) (.ref (He.ga K "MoveError")) = some true
  kit : ∀ x ∈ kinds8, ∀ y ∈ kinds8, PySem.W.kitOne K (.ref (He.ga K x)) (.ref (He.ga K y)) = some (decide (x = y))
  ve : ∀ x ∈ kinds8, PySem.W.kitOne K (.ref (He.ga K x)) (.type "ValueError") = some true
  xm : XfC K (He.ga K "BadMove")
  xt : XfC K (He.ga K "BadText")
  nm : PySem.W.findIn K (.ref (He.ga K "BadMove")) "number" = some none
  nt : PySem.W.findIn K (.ref (He.ga K "BadText")) "place" = some none
def KindE (K : PySem.W.Frag) (cls : Value) (d : Option Addr) (H : Hp) (Q : VK) : Prop := ∃ x ∈ kinds8, cls = .ref (He.ga K x) ∧
  ((x ≠ "BadMove" ∧ x ≠ "BadText" ∧ d = none ∧ ∀ H', Same H H' → Q (.str x) H') ∨
   (∃ (f : Str) (dd : Addr) (n : Int), (x = "BadMove" ∧ f = "number" ∨ x = "BadText" ∧ f = "place") ∧ d = some dd ∧ H dd = some (.xd [(f, .int n)]) ∧ ∀ H' p, Same H H' → H' p = some (.tup [.str x, .int n]) → Q (.ref p) H'))
/-- what the reader makes of the work's own reading -/
def TKind (K : PySem.W.Frag) : (XK → Hp → VK → Prop) → Hp → VK → Prop := fun tl H Q => tl (fun cls d H' => KindE K cls d H' Q) H Q
end EX
namespace EX
open PySem PySem.Spec PyProof.Rows L2 MV
local macro_rules | `(tactic| walk_at "go") => `(tactic| repeat (first
  | with_reducible refine MV.k_seq ?_ | with_reducible refine MV.k_asg ?_ | with_reducible refine MV.k_name ?_ | with_reducible refine MV.k_op ?_ | ((with_reducible apply MV.k_var); exact rfl) | with_reducible refine MV.k_c ?_
  | with_reducible refine MV.k_add ?_ | with_reducible refine MV.k_sub ?_ | with_reducible refine MV.k_lt ?_ | with_reducible refine MV.k_le ?_ | with_reducible refine MV.k_gt ?_ | with_reducible refine MV.k_ge ?_ | with_reducible refine MV.k_eqI ?_ | with_reducible refine MV.k_neI ?_
  | with_reducible refine MV.k_test ?_ | with_reducible refine MV.k_B ?_ | with_reducible refine MV.k_bl ?_ | with_reducible refine MV.k_blV ?_ | with_reducible refine MV.k_and ?_ | with_reducible refine MV.k_or ?_ | with_reducible refine MV.k_not ?_ | with_reducible refine MV.k_andV ?_ | with_reducible refine MV.k_orV ?_ | with_reducible refine MV.k_notV ?_
  | with_reducible refine MV.k_if ?_ | with_reducible refine MV.k_tru ?_ | with_reducible refine MV.k_chain ?_ | with_reducible refine MV.k_next ?_ | with_reducible refine MV.k_drop ?_ | with_reducible refine MV.k_ret ?_ | with_reducible refine MV.k_retN ?_ | with_reducible refine MV.k_ifS ?_ | with_reducible refine MV.k_brk ?_ | with_reducible refine MV.k_cont ?_
  | with_reducible refine MV.k_nil ?_ | with_reducible refine MV.k_cons ?_ | with_reducible refine MV.k_tup ?_ | with_reducible refine MV.k_lst ?_ | with_reducible refine MV.k_cb ?_ | with_reducible refine MV.k_call ?_ | with_reducible refine MV.k_gnil ?_ | with_reducible refine MV.k_gcons ?_ | with_reducible refine MV.k_gsub ?_
  | with_reducible refine MV.k_bm ?_ | with_reducible refine MV.k_bm0 ?_ | with_reducible refine MV.k_un ?_ | with_reducible refine MV.k_neg ?_ | with_reducible refine MV.k_isN ?_ | with_reducible refine MV.k_notN ?_ | with_reducible refine L2.iteT ?_ | with_reducible refine L2.iteF ?_
  | with_reducible refine MV.k_iList ?_ | with_reducible refine MV.k_iTup ?_ | with_reducible refine MV.k_iRng1 ?_ | with_reducible refine MV.k_lc ?_ | with_reducible refine MV.k_for ?_
  | with_reducible refine MV.k_yes ?_ | with_reducible refine MV.k_dput ?_ | with_reducible refine MV.k_dget ?_ | with_reducible refine MV.k_dget1 ?_ | with_reducible refine MV.k_sl ?_ | with_reducible refine MV.k_nopart ?_ | with_reducible refine MV.k_part ?_ | with_reducible refine MV.k_pint ?_ | with_reducible refine MV.k_dnew ?_ | with_reducible refine MV.k_lstRg ?_ | with_reducible refine MV.k_rg1 ?_))
def tKind8 (K : PySem.W.Frag) (w : World) (a : Addr) (cls : Value) (d : Option Addr) : TS :=
  (tSeq (tAsg (tLst (tCons (tCB (vIsE K cls d a) (tCons (tVar 1) (tCons (tC (.ref (He.ga K "BadLead"))) tNil))) (tCons (tCB (vIsE K cls d a) (tCons (tVar 1) (tCons (tC (.ref (He.ga K "BadSpare"))) tNil))) (tCons (tCB (vIsE K cls d a) (tCons (tVar 1) (tCons (tC (.ref (He.ga K "BadMove"))) tNil))) (tCons (tCB (vIsE K cls d a) (tCons (tVar 1) (tCons (tC (.ref (He.ga K "NoWay"))) tNil))) tNil))))) (gName 2))
    (tSeq (tAsg (tOp rCat (tVar 2) (tLst (tCons (tCB (vIsE K cls d a) (tCons (tVar 1) (tCons (tC (.ref (He.ga K "BadWord"))) tNil))) (tCons (tCB (vIsE K cls d a) (tCons (tVar 1) (tCons (tC (.ref (He.ga K "BadHouse"))) tNil))) (tCons (tCB (vIsE K cls d a) (tCons (tVar 1) (tCons (tC (.ref (He.ga K "BadCall"))) tNil))) tNil))))) (gName 2))
    (tSeq (tDrop (tBM K "list" rAppend (tVar 2) (tCons (tCB (vIsE K cls d a) (tCons (tVar 1) (tCons (tC (.ref (He.ga K "BadText"))) tNil))) tNil)))
    (tSeq (tAsg (tLst (tCons (tC (.str "BadLead")) (tCons (tC (.str "BadSpare")) (tCons (tC (.str "BadMove")) (tCons (tC (.str "NoWay")) (tCons (tC (.str "BadWord")) (tCons (tC (.str "BadHouse")) (tCons (tC (.str "BadCall")) (tCons (tC (.str "BadText")) tNil))))))))) (gName 3))
    (tSeq (tIfS (tOr (tTest (tOp rNe (tBM K "list" (vCount K) (tVar 2) (tCons (tC (.bl true)) tNil)) (tC (.int 1)))) (tNot (tB (tCB (vIsE K cls d a) (tCons (tVar 1) (tCons (tC (.ty "ValueError")) tNil)))))) (tRet (tC (.str "other"))) tNext)
    (tSeq (tAsg (tOp (rIxL K) (tVar 3) (tBM K "list" (rIndex K) (tVar 2) (tCons (tC (.bl true)) tNil))) (gName 4))
    (tSeq (tIfS (tTest (tOp rEq (tVar 4) (tC (.str "BadMove")))) (tRet (tTup (tCons (tVar 4) (tCons (tXf a cls d (He.ga K "BadMove") "number" (tVar 1)) tNil)))) tNext)
    (tRet (tIf (tTest (tOp rEq (tVar 4) (tC (.str "BadText")))) (tTup (tCons (tVar 4) (tCons (tXf a cls d (He.ga K "BadText") "place" (tVar 1)) tNil))) (tVar 4))))))))))
section
variable {K : PySem.W.Frag} {w : World} {a : Addr} {d : Option Addr} {H : Hp} {Q : VK} {x y : Str}
theorem k_isE (KC : KindC K) (hx : x ∈ kinds8) (hy : y ∈ kinds8) (ow : Own H d) (q : Q (.bl (decide (x = y))) H) : vIsE K (.ref (He.ga K x)) d a [.ref a, .ref (He.ga K y)] H Q :=
  ⟨He.ga K x, .ref (He.ga K y), .ref (He.ga K y), _, rfl, rfl, KC.exc x hx, fun u r => r, KC.kit x hx y hy, ow, q⟩
theorem k_isV (KC : KindC K) (hx : x ∈ kinds8) (ow : Own H d) (q : Q (.bl true) H) : vIsE K (.ref (He.ga K x)) d a [.ref a, .ty "ValueError"] H Q :=
  ⟨He.ga K x, .ty "ValueError", .type "ValueError", true, rfl, rfl, KC.exc x hx, fun u r => r, KC.ve x hx, ow, q⟩
theorem Own.new {p : Addr} {o : HO} (ow : Own H d) (n : H p = none) : Own (upd H p o) d := fun dd e => by
  obtain ⟨fs, h⟩ := ow dd e
  exact ⟨fs, by rw [upd_ne (ne_of_none h n)]; exact h⟩
def bits8 (x : Str) : List V := kinds8.map fun y => .bl (decide (x = y))
theorem bits_in (h : x ∈ kinds8) : (bits8 x).countP (fun z => eqV z (.bl true)) = 1 ∧ (bits8 x).all flatV = true ∧ ∃ j : Nat, j < 8 ∧ (bits8 x)[j]? = some (.bl true) ∧ (∀ m z, m < j → (bits8 x)[m]? = some z → eqV z (.bl true) = false) ∧ (kinds8.map V.str)[j]? = some (.str x) := by
  have key : ∀ x ∈ kinds8, ∃ j : Nat, j < 8 ∧ kinds8.map (fun y => decide (x = y)) = (List.range 8).map (fun i => decide (i = j)) ∧ (kinds8.map V.str)[j]? = some (.str x) := by
    intro x hx
    simp only [kinds8, List.mem_cons, List.not_mem_nil, or_false] at hx
    rcases hx with rfl | rfl | rfl | rfl | rfl | rfl | rfl | rfl
    · exact ⟨0, by decide, by decide, rfl⟩
    · exact ⟨1, by decide, by decide, rfl⟩
    · exact ⟨2, by decide, by decide, rfl⟩
    · exact ⟨3, by decide, by decide, rfl⟩
    · exact ⟨4, by decide, by decide, rfl⟩
    · exact ⟨5, by decide, by decide, rfl⟩
    · exact ⟨6, by decide, by decide, rfl⟩
    · exact ⟨7, by decide, by decide, rfl⟩
  obtain ⟨j, hj, e, e2⟩ := key x h
  have eb : bits8 x = ((List.range 8).map fun i => decide (i = j)).map V.bl := by
    rw [← e, List.map_map]
    rfl
  have fin : ∀ j < 8, ((((List.range 8).map fun i => decide (i = j)).map V.bl).countP (fun z => eqV z (.bl true)) = 1) ∧ (((List.range 8).map fun i => decide (i = j)).map V.bl).all flatV = true ∧ (((List.range 8).map fun i => decide (i = j)).map V.bl)[j]? = some (.bl true) := by
    intro j hj
    have : j = 0 ∨ j = 1 ∨ j = 2 ∨ j = 3 ∨ j = 4 ∨ j = 5 ∨ j = 6 ∨ j = 7 := by omega
    rcases this with rfl | rfl | rfl | rfl | rfl | rfl | rfl | rfl <;> exact ⟨rfl, rfl, rfl⟩
  obtain ⟨f1, f2, f3⟩ := fin j hj
  refine ⟨by rw [eb]; exact f1, by rw [eb]; exact f2, j, hj, by rw [eb]; exact f3, fun m z hm hz => ?_, e2⟩
  rw [eb, List.getElem?_map, List.getElem?_map, List.getElem?_range (by omega)] at hz
  have hz2 := (Option.some.inj hz).symm
  subst hz2
  show ((decide (m = j)) == true) = false
  rw [decide_eq_false (by omega)]
  rfl
theorem len5 {σ : L2.St} (h : σ.length = 5) (v : Option V) : ∃ s0 s2 s3 s4, σ.set 1 v = [s0, v, s2, s3, s4] := by
  match σ, h with
  | [s0, s1, s2, s3, s4], _ => exact ⟨s0, s2, s3, s4, rfl⟩
theorem pure_kind (KC : KindC K) (cls : Value) (d : Option Addr) (H : Hp) (Q : VK) (h : KindE K cls d H Q) (σ : L2.St) (a : Addr) (D : Ends) (hl : σ.length = 5) (_ha : H a = none) (hD : D.rt = Q) :
    tKind8 K w a cls d D (σ.set 1 (some (.ref a))) H := by
  obtain ⟨x, hx, rfl, hk⟩ := h
  have ow : Own H d := by
    rcases hk with ⟨_, _, rfl, _⟩ | ⟨f, dd, n, _, rfl, hdd, _⟩
    · intro dd e; cases e
    · intro dd' e; cases e; exact ⟨_, hdd⟩
  obtain ⟨s0, s2, s3, s4, es⟩ := len5 hl (some (.ref a))
  rw [es]
  unfold tKind8
  walk_at "go"
  refine k_isE KC hx (by decide) ow ?_
  walk_at "go"
  refine k_isE KC hx (by decide) ow ?_
  walk_at "go"
  refine k_isE KC hx (by decide) ow ?_
  walk_at "go"
  refine k_isE KC hx (by decide) ow ?_
  walk_at "go"
  refine ⟨sz1 (by show 4 ≤ 100000; decide), fun p1 n1 => ?_⟩
  have ow1 : Own (upd H p1 (.lst [V.bl (decide (x = "BadLead")), V.bl (decide (x = "BadSpare")), V.bl (decide (x = "BadMove")), V.bl (decide (x = "NoWay"))])) d := ow.new n1
  have h1 : (upd H p1 (.lst [V.bl (decide (x = "BadLead")), V.bl (decide (x = "BadSpare")), V.bl (decide (x = "BadMove")), V.bl (decide (x = "NoWay"))])) p1 = some (.lst [V.bl (decide (x = "BadLead")), V.bl (decide (x = "BadSpare")), V.bl (decide (x = "BadMove")), V.bl (decide (x = "NoWay"))]) := upd_same
  have m1 : Same H (upd H p1 (.lst [V.bl (decide (x = "BadLead")), V.bl (decide (x = "BadSpare")), V.bl (decide (x = "BadMove")), V.bl (decide (x = "NoWay"))])) := fun b o e => by rw [upd_ne (ne_of_none e n1)]; exact e
  generalize upd H p1 (.lst [V.bl (decide (x = "BadLead")), V.bl (decide (x = "BadSpare")), V.bl (decide (x = "BadMove")), V.bl (decide (x = "NoWay"))]) = H1 at *
  walk_at "go"
  refine k_isE KC hx (by decide) ow1 ?_
  walk_at "go"
  refine k_isE KC hx (by decide) ow1 ?_
  walk_at "go"
  refine k_isE KC hx (by decide) ow1 ?_
  walk_at "go"
  refine ⟨sz1 (by show 3 ≤ 100000; decide), fun p2 n2 => ?_⟩
  refine ⟨p1, p2, _, _, rfl, rfl, by rw [upd_ne (ne_of_none h1 n2)]; exact h1, upd_same, sz1 (by show 7 ≤ 100000; decide), fun p3 n3 => ?_⟩
  have m2 : Same H1 (upd H1 p2 (.lst [V.bl (decide (x = "BadWord")), V.bl (decide (x = "BadHouse")), V.bl (decide (x = "BadCall"))])) := fun b o e => by rw [upd_ne (ne_of_none e n2)]; exact e
  generalize upd H1 p2 (.lst [V.bl (decide (x = "BadWord")), V.bl (decide (x = "BadHouse")), V.bl (decide (x = "BadCall"))]) = H2 at *
  have n3' : H p3 = none := by
    cases e : H p3 with
    | none => rfl
    | some o => rw [m2 _ _ (m1 _ _ e)] at n3; cases n3
  have ow3 : Own (upd H2 p3 (.lst ([V.bl (decide (x = "BadLead")), V.bl (decide (x = "BadSpare")), V.bl (decide (x = "BadMove")), V.bl (decide (x = "NoWay"))] ++ [V.bl (decide (x = "BadWord")), V.bl (decide (x = "BadHouse")), V.bl (decide (x = "BadCall"))]))) d := by
    intro dd e
    obtain ⟨fs, z⟩ := ow dd e
    exact ⟨fs, by rw [upd_ne (ne_of_none z n3')]; exact m2 _ _ (m1 _ _ z)⟩
  walk_at "go"
  refine ⟨tyL upd_same, ?_⟩
  walk_at "go"
  refine k_isE KC hx (by decide) ow3 ?_
  walk_at "go"
  refine k_append upd_same (sz2 (by show 7 < 100000; decide)) ?_
  have h4 : (upd (upd H2 p3 (.lst ([V.bl (decide (x = "BadLead")), V.bl (decide (x = "BadSpare")), V.bl (decide (x = "BadMove")), V.bl (decide (x = "NoWay"))] ++ [V.bl (decide (x = "BadWord")), V.bl (decide (x = "BadHouse")), V.bl (decide (x = "BadCall"))]))) p3 (.lst ([V.bl (decide (x = "BadLead")), V.bl (decide (x = "BadSpare")), V.bl (decide (x = "BadMove")), V.bl (decide (x = "NoWay"))] ++ [V.bl (decide (x = "BadWord")), V.bl (decide (x = "BadHouse")), V.bl (decide (x = "BadCall"))] ++ [V.bl (decide (x = "BadText"))]))) p3 = some (.lst (bits8 x)) := upd_same
  have m4 : Same H (upd (upd H2 p3 (.lst ([V.bl (decide (x = "BadLead")), V.bl (decide (x = "BadSpare")), V.bl (decide (x = "BadMove")), V.bl (decide (x = "NoWay"))] ++ [V.bl (decide (x = "BadWord")), V.bl (decide (x = "BadHouse")), V.bl (decide (x = "BadCall"))]))) p3 (.lst ([V.bl (decide (x = "BadLead")), V.bl (decide (x = "BadSpare")), V.bl (decide (x = "BadMove")), V.bl (decide (x = "NoWay"))] ++ [V.bl (decide (x = "BadWord")), V.bl (decide (x = "BadHouse")), V.bl (decide (x = "BadCall"))] ++ [V.bl (decide (x = "BadText"))]))) := fun b o e => by
    rw [upd_ne (ne_of_none e n3'), upd_ne (ne_of_none e n3')]
    exact m2 _ _ (m1 _ _ e)
  generalize upd (upd H2 p3 (.lst ([V.bl (decide (x = "BadLead")), V.bl (decide (x = "BadSpare")), V.bl (decide (x = "BadMove")), V.bl (decide (x = "NoWay"))] ++ [V.bl (decide (x = "BadWord")), V.bl (decide (x = "BadHouse")), V.bl (decide (x = "BadCall"))]))) p3 (.lst ([V.bl (decide (x = "BadLead")), V.bl (decide (x = "BadSpare")), V.bl (decide (x = "BadMove")), V.bl (decide (x = "NoWay"))] ++ [V.bl (decide (x = "BadWord")), V.bl (decide (x = "BadHouse")), V.bl (decide (x = "BadCall"))] ++ [V.bl (decide (x = "BadText"))])) = H4 at *
  walk_at "go"
  refine ⟨sz1 (by show 8 ≤ 100000; decide), fun p5 n5 => ?_⟩
  have h5 : (upd H4 p5 (.lst (kinds8.map V.str))) p5 = some (.lst (kinds8.map V.str)) := upd_same
  have h45 : (upd H4 p5 (.lst (kinds8.map V.str))) p3 = some (.lst (bits8 x)) := by rw [upd_ne (ne_of_none h4 n5)]; exact h4
  have m5 : Same H (upd H4 p5 (.lst (kinds8.map V.str))) := fun b o e => by rw [upd_ne (ne_of_none (m4 _ _ e) n5)]; exact m4 _ _ e
  show gName 3 (V.ref p5) _ (upd H4 p5 (.lst (kinds8.map V.str))) _
  generalize upd H4 p5 (.lst (kinds8.map V.str)) = H5 at *
  have ow5 : Own H5 d := fun dd e => by
    obtain ⟨fs, z⟩ := ow dd e
    exact ⟨fs, m5 _ _ z⟩
  obtain ⟨b1, b2, j, hj, b3, b4, b5⟩ := bits_in hx
  walk_at "go"
  refine ⟨tyL h45, ?_⟩
  walk_at "go"
  refine ⟨p3, bits8 x, .bl true, rfl, rfl, SqL.of h45, rfl, b2, ?_⟩
  rw [b1]
  walk_at "go"
  refine k_nfalse rfl ?_
  walk_at "go"
  refine k_isV KC hx ow5 ?_
  walk_at "go"
  refine L2.iteF ?_
  walk_at "go"
  refine ⟨tyL h45, ?_⟩
  walk_at "go"
  refine ⟨p3, bits8 x, .bl true, j, .bl true, rfl, rfl, SqL.of h45, rfl, b2, b3, rfl, b4, ?_⟩
  refine k_ixL (v := .str x) (SqL.of h5) (atI_nat (j := j) b5) ?_
  walk_at "go"
  refine k_eq rfl ?_
  have de : ∀ y : Str, decide (V.str x = V.str y) = decide (x = y) := fun y => by
    by_cases h : x = y
    · subst h; simp
    · rw [decide_eq_false h, decide_eq_false fun z => h (V.str.inj z)]
  rw [de]
  walk_at "go"
  rcases hk with ⟨x1, x2, rfl, q⟩ | ⟨f, dd, n, ⟨rfl, rfl⟩ | ⟨rfl, rfl⟩, rfl, hdd, q⟩
  · refine k_false x1 ?_
    walk_at "go"
    refine k_eq rfl ?_
    rw [de]
    walk_at "go"
    refine k_false x2 ?_
    walk_at "go"
    rw [hD]
    exact q _ m5
  · refine k_true rfl ?_
    walk_at "go"
    refine ⟨.ref a, rfl, rfl, rfl, dd, _, .int n, rfl, m5 _ _ hdd, rfl, ?_⟩
    walk_at "go"
    refine ⟨sz1 (by show 2 ≤ 100000; decide), fun p6 n6 => ?_⟩
    rw [hD]
    exact q _ p6 (fun b o e => by rw [upd_ne (ne_of_none (m5 _ _ e) n6)]; exact m5 _ _ e) upd_same
  · refine k_false (by decide) ?_
    walk_at "go"
    refine k_eq rfl ?_
    rw [de]
    walk_at "go"
    refine k_true rfl ?_
    walk_at "go"
    refine ⟨.ref a, rfl, rfl, rfl, dd, _, .int n, rfl, m5 _ _ hdd, rfl, ?_⟩
    walk_at "go"
    refine ⟨sz1 (by show 2 ≤ 100000; decide), fun p6 n6 => ?_⟩
    rw [hD]
    exact q _ p6 (fun b o e => by rw [upd_ne (ne_of_none (m5 _ _ e) n6)]; exact m5 _ _ e) upd_same
end
end EX
namespace EX
open PySem PySem.Spec PyProof.Rows L2
/-! ### the reader called with a lambda -/
/-- the name of a law's lambda -/
def qlaw : Str := (("law" : Str) ++ ".<locals>.") ++ "<lambda>"
theorem pe_kind {X : Cx} {x a : Str} {st : Stmt} {Ng : List Str} {f c P : Addr} {fd : FuncData} {k : Nat} {TT : (XK → Hp → VK → Prop) → Hp → VK → Prop} {params : Arguments} {body : Expr} {scope : Scope} {t : XK → TE} {p lpos pos : Pos} {q : Str}
    (F : Fun X.K x x st f fd) (hb : Binds X.K fd [a] []) (kp : PySem.W.keepIn X.K (.ref f) = true) (hm : X.mg x = some (.ref f)) (Sg : FnScope Ng [a] (defScope st)) (h0 : Ng[0]? = some a) (hva : Vis (defScope st) a)
    (hG : ∀ cdg, LamX.GivesTo X Ng x (defScope st) f cdg (defBody st) a (X.env.qual ++ "<lambda>") TT) (hg : Gl X x) (TB : LamX.TabB X.base X.mg c P) (hcode : X.env.code = .ref c) (hq : X.env.qual ++ "<lambda>" = q) (hr : Room (k + 2) X.A)
    (L : LamX.LamS X.env.scope scope) (hdef : defaultsOf params X.env = ([], [])) (hbind : ∀ (q : Str) (cl : List (Str × Addr)) (pm cv ctv : Value), bindArgs (PySem.W.kla_fn "<lambda>" q params body scope cl pm cv ctv) ⟨[], []⟩ = pure [])
    (hbody : ∀ (A : Around) (outer : List Env) (s : Shared) (H : Hp) (E : XK) (f c' : Addr), Room k (A.deeper (LamX.lamEnv X scope s.heap.objs.size f c')) → PE (LamX.lamCx X A outer s H E scope f c') body (t E))
    (hdb : (x == ("__debug__" : Str)) = false := by decide) (hd : (a == ("__debug__" : Str)) = false := by decide) (hcd : (a == ("__classdict__" : Str)) = false := by decide) :
    PE X (.Call (.Name x p) [.Lambda params body scope lpos] [] pos) (LamX.tLam [(P, q)] TT t) := by
  subst hq
  obtain ⟨oc, od, kV, doc, pm, an, cdv, ct, osl, rfl, lk, hcg⟩ := F.ex
  exact LamX.pe_lamcall hg hm kp lk hcg hb Sg h0 hva (hG cdv) TB hcode (List.mem_singleton.mpr rfl) (fun p hp _ => by rw [List.mem_singleton.mp hp]) hr L hdef hbind hbody hdb hd hcd
/-- a def whose code object is known -/
theorem okC {P : Program} {w : World} {K : PySem.W.Frag} {mg : Str → Option Value} {base : Heap} {x qual : Str} {st : Stmt} {f c : Addr} {N ps : List Str} {k : Nat} {sp : Sp} {oc kV doc pm ct : Value} {od an : Option Addr} {osl : Array (Option Value)}
    (lk : K.lookup f = some ⟨oc, od, .func (PySem.W.fnOf x qual (defArgs st) (defBody st) (defScope st) .none kV doc pm an (.ref c) ct), osl⟩) (hcd : PySem.W.codeIn K (.ref c) qual = true) (S : FnScope N ps (defScope st)) (len : ∀ vs H Q E, sp vs H Q E → vs.length = ps.length)
    (hbody : ∀ (A : Around) (outer : List Env) (s : Shared) (H : Hp) (vs : List V) (Q : VK) (E : XK), Room k (A.deeper (envOfC qual (defScope st) s.heap.objs.size f (.ref c))) → sp vs H Q E →
      ∃ t, PSs (cxOf CX0 P w K mg base N qual (defScope st) f (.ref c) A outer s H E).nox (defBody st) t ∧ t { nx := fun _ H' => Q .non H', rt := Q } (start N vs) H) :
    FnOk P w K mg base CX0 (k + 1) f (PySem.W.fnOf x qual (defArgs st) (defBody st) (defScope st) .none kV doc pm an (.ref c) ct) ps sp := by
  refine fn_of lk hcd S len fun A outer s H vs Q E hr hsp => ?_
  obtain ⟨t, h, q⟩ := hbody A outer s H vs Q E hr hsp
  exact ⟨t, h.nox, q⟩
end EX
namespace EX
open PySem PySem.Spec PySem.W PyProof.Rows L2 PySem.BX
/-! ### facts of the head as truth values -/
def badCls (K : Frag) (C : Addr) : Bool := match K.lookup C with
  | some ⟨.type t, _, .cls cd, ⟨sl⟩⟩ => (match cd.mro, sl with
    | .ref C1 :: bm, [_, _, _, _, some (.builtin n), _] => decide (t = "type") && (decide (C1 = C) && (decide (n = "ValueError.__new__") && (cd.hasDict && (!cd.hasDel && PySem.HandSPX.refsVE bm))))
    | _, _ => false)
  | _ => false
theorem badCls_ok {K : Frag} {C : Addr} (h : badCls K C = true) : ∃ nm q N bs bm sn sub ab col dd k0 k1 k2 k3 k5, K.lookup C = some (excClassObj nm q C N bs bm true sn sub ab col dd k0 k1 k2 k3 k5 "ValueError.__new__") ∧ PySem.HandSPX.refsVE bm = true := by
  unfold badCls at h
  split at h
  · rename_i t dd cd sl e
    split at h
    · rename_i C1 bm k0 k1 k2 k3 n k5 hm
      obtain ⟨h1, h⟩ := He.ba h
      obtain ⟨h2, h⟩ := He.ba h
      obtain ⟨h3, h⟩ := He.ba h
      obtain ⟨h4, h⟩ := He.ba h
      obtain ⟨h5, h6⟩ := He.ba h
      obtain ⟨nm, bs, mro, ns, qn, hd, sn, sub, ab, col, del⟩ := cd
      have e1 := of_decide_eq_true h1
      have e2 := of_decide_eq_true h2
      have e3 := of_decide_eq_true h3
      dsimp only at hm h4 h5
      subst e1 e2 e3 hm h4
      have e5 : del = false := by
        cases del
        · rfl
        · cases h5
      subst e5
      exact ⟨_, _, _, _, _, _, _, _, _, _, _, _, _, _, _, e, h6⟩
    · cases h
  · cases h
/-- a class with an __init__ of the form of BX -/
structure InitD where
  x : Str
  f : Str
  pre : Str
  post : Str
  P : Ps
  q : Str
abbrev InitV : Type := Option (Str × Str × Arguments × FuncBody × Scope × Addr × Addr)
def initV (K : Frag) (x : Str) : InitV := match K.lookup (He.ma K (He.ga K x) "__init__") with
  | some ⟨_, _, .func fd, _⟩ => some (fd.name, fd.qualname, fd.params, fd.body, fd.scope, fd.globals, fd.builtins)
  | _ => none
def InitD.val (d : InitD) : InitV := some ("__init__", d.q, iA d.f d.P, .stmts (iB d.f d.pre d.post d.P), iS d.f, mainGlobals, builtinsNs)
def cellB (K : Frag) (cc C : Addr) : Bool := match K.lookup cc with
  | some ⟨_, _, .cell (some v), _⟩ => decide (v = .ref C)
  | _ => false
theorem cellB_ok {K : Frag} {cc C : Addr} (h : cellB K cc C = true) : ∃ cl cld csl, K.lookup cc = some ⟨cl, cld, .cell (some (.ref C)), csl⟩ := by
  unfold cellB at h
  split at h
  · rename_i cl cld v csl e
    rw [of_decide_eq_true h] at e
    exact ⟨_, _, _, e⟩
  · cases h
def fileB (K : Frag) (file : Str) (cda : Addr) : Bool := match K.lookup cda with
  | some ⟨_, _, .fields vs, _⟩ => (match (vs[2]? : Option Value) with
    | some (.str z _) => file == z
    | _ => false)
  | _ => false
theorem fileB_ok {K : Frag} {f : Str} {cda : Addr} (h : fileB K f cda = true) : ∃ ccl cdd vs ccs z tf, K.lookup cda = some ⟨ccl, cdd, .fields vs, ccs⟩ ∧ vs[2]? = some (.str z tf) ∧ (f == z) = true := by
  unfold fileB at h
  split at h
  · rename_i ccl cdd vs ccs e
    split at h
    · rename_i z tf e2
      exact ⟨_, _, _, _, _, _, e, e2, h⟩
    · cases h
  · cases h
def initB (K : Frag) (file : Str) (d : InitD) : Bool := match K.lookup (He.ma K (He.ga K d.x) "__init__") with
  | some ⟨_, _, .func fd, _⟩ => (match fd.closure, fd.code with
    | [(n, cc)], .ref cda => decide (n = "__class__") && (decide (fd.defaults = .none) && (decide (fd.kwdefaults = .none) && (codeIn K (.ref cda) d.q && (cellB K cc (He.ga K d.x) && fileB K file cda))))
    | _, _ => false)
  | _ => false
def badB (K : Frag) (prog : Program) (d : InitD) : Bool :=
  badCls K (He.ga K d.x) && (He.eqO (findIn K (.ref (He.ga K d.x)) "__setattr__") (some (some (.builtin "object.__setattr__"))) && (He.eqO (findIn K (.ref (He.ga K d.x)) d.f) (some none) &&
  (He.eqO (findIn K (.ref (He.ga K d.x)) "__init__") (some (some (.ref (He.ma K (He.ga K d.x) "__init__")))) && (decide (typeIn K (.ref (He.ma K (He.ga K d.x) "__init__")) = some (.type "function")) && (keepIn K (.ref (He.ga K d.x)) &&
  (decide (subIn K (.ref (He.ga K d.x)) (.type "BaseException") = some true) && (decide (subIn K (.ref (He.ga K d.x)) (.type "ValueError") = some true) && (decide (typeIn K (.ref (He.ga K d.x)) = some (.type "type")) && (decide (mroIn K (He.ga K d.x) (.ref (He.ga K d.x)) = some true) &&
  (He.eqO (ks_superIn K (He.ga K d.x) (He.ga K d.x) "__init__") (some (some (.builtin "ValueError.__init__"))) && (He.eqO (nsIn K cStatics "thirdparty.any") (some none) && (He.eqO (nsIn K mainGlobals "super") (some none) &&
  (!(prog.main.scope.names.lookup ("super" : Str)).isSome && (decide (d.f = "number" ∨ d.f = "place") && (initB K prog.main.file d && (decide (d.pre.length ≤ 1000) && (decide (d.post.length ≤ 1000) && (d.P.p5.endLine == d.P.pb.line))))))))))))))))))
theorem badB_ok {K : Frag} {prog : Program} {d : InitD} (h : badB K prog d = true) (e : initV K d.x = d.val) : BadTxt K prog (He.ga K d.x) (He.ma K (He.ga K d.x) "__init__") d.f := by
  unfold badB at h
  obtain ⟨h1, h⟩ := He.ba h
  obtain ⟨h2, h⟩ := He.ba h
  obtain ⟨h3, h⟩ := He.ba h
  obtain ⟨h4, h⟩ := He.ba h
  obtain ⟨h5, h⟩ := He.ba h
  obtain ⟨h6, h⟩ := He.ba h
  obtain ⟨h7, h⟩ := He.ba h
  obtain ⟨h8, h⟩ := He.ba h
  obtain ⟨h9, h⟩ := He.ba h
  obtain ⟨h10, h⟩ := He.ba h
  obtain ⟨h11, h⟩ := He.ba h
  obtain ⟨h12, h⟩ := He.ba h
  obtain ⟨h13, h⟩ := He.ba h
  obtain ⟨h14, h⟩ := He.ba h
  obtain ⟨h15, h⟩ := He.ba h
  obtain ⟨h16, h⟩ := He.ba h
  obtain ⟨h17, h⟩ := He.ba h
  obtain ⟨h18, h19⟩ := He.ba h
  refine ⟨badCls_ok h1, He.eqO_ok h2, He.eqO_ok h3, He.eqO_ok h4, of_decide_eq_true h5, h6, of_decide_eq_true h7, of_decide_eq_true h8, of_decide_eq_true h9, of_decide_eq_true h10, He.eqO_ok h11, He.eqO_ok h12, He.eqO_ok h13, ?_, of_decide_eq_true h15, ?_⟩
  · cases q : (prog.main.scope.names.lookup ("super" : Str)).isSome
    · rfl
    · rw [q] at h14; cases h14
  · unfold initV at e
    unfold initB at h16
    cases q : K.lookup (He.ma K (He.ga K d.x) "__init__") with
    | none => rw [q] at e; cases e
    | some o =>
      obtain ⟨oc, od, dt, osl⟩ := o
      rw [q] at e h16
      cases dt with
      | func fd =>
        obtain ⟨n1, n2, n3, n4, n5, n6, n7, n8, n9, n10, n11, n12, n13, n14, n15⟩ := fd
        have e2 : (some (n1, n2, n3, n4, n5, n6, n15) : InitV) = some (("__init__" : Str), d.q, iA d.f d.P, FuncBody.stmts (iB d.f d.pre d.post d.P), iS d.f, mainGlobals, builtinsNs) := e
        simp only [Option.some.injEq, Prod.mk.injEq] at e2
        obtain ⟨z1, z2, z3, z4, z5, z6, z7⟩ := e2
        subst z1 z2 z3 z4 z5 z6 z7
        dsimp only at h16
        split at h16
        · rename_i n cc cda
          obtain ⟨g1, g⟩ := He.ba h16
          obtain ⟨g2, g⟩ := He.ba g
          obtain ⟨g3, g⟩ := He.ba g
          obtain ⟨g4, g⟩ := He.ba g
          obtain ⟨g5, g6⟩ := He.ba g
          have y1 := of_decide_eq_true g1
          have y2 := of_decide_eq_true g2
          have y3 := of_decide_eq_true g3
          subst y1 y2 y3
          obtain ⟨cl, cld, csl, k1⟩ := cellB_ok g5
          obtain ⟨ccl, cdd, vs, ccs, z, tf, k2, k3, k4⟩ := fileB_ok g6
          exact ⟨oc, od, _, _, _, _, osl, d.P, d.q, d.pre, d.post, cc, cda, cl, cld, csl, ccl, cdd, vs, ccs, z, tf, rfl, g4, of_decide_eq_true h17, of_decide_eq_true h18, h19, k1, k2, k3, k4⟩
        · cases h16
      | _ => cases e
/-! ### the reader's facts -/
def excB (K : Frag) (D : Addr) : Bool := He.eqO (findIn K (.ref D) "__getattribute__") (some (some (.builtin "BaseException.__getattribute__"))) && (He.eqO (findIn K (.ref D) "__getattr__") (some none) && (decide (subIn K (.ref D) (.type "BaseException") = some true) && (hasDictIn K D &&
  (He.eqO (findIn K (.ref D) "__class__") (some (some (.builtin "object.__class__"))) && (He.eqO (specialIn K (.builtin "object.__class__") "__get__") (some (some (.builtin "getset_descriptor.__get__"))) && (decide (takesIn K (.builtin "object.__class__") = some true) && decide (mroIn K D (.type "object") = some true)))))))
theorem excB_ok {K : Frag} {D : Addr} (h : excB K D = true) : ExcC K D := by
  obtain ⟨h1, h⟩ := He.ba h
  obtain ⟨h2, h⟩ := He.ba h
  obtain ⟨h3, h⟩ := He.ba h
  obtain ⟨h4, h⟩ := He.ba h
  obtain ⟨h5, h⟩ := He.ba h
  obtain ⟨h6, h⟩ := He.ba h
  obtain ⟨h7, h8⟩ := He.ba h
  exact ⟨He.eqO_ok h1, He.eqO_ok h2, of_decide_eq_true h3, h4, He.eqO_ok h5, He.eqO_ok h6, of_decide_eq_true h7, of_decide_eq_true h8⟩
def kindB (K : Frag) : Bool := kinds8.all (fun x => excB K (He.ga K x) && (decide (exmOne K (.ref (He.ga K x)) (.ref (He.ga K "MoveError")) = some true) && (decide (kitOne K (.ref (He.ga K x)) (.type "ValueError") = some true) && kinds8.all fun y => decide (kitOne K (.ref (He.ga K x)) (.ref (He.ga K y)) = some (decide (x = y)))))) &&
  (xfB K (He.ga K "BadMove") && (xfB K (He.ga K "BadText") && (He.eqO (findIn K (.ref (He.ga K "BadMove")) "number") (some none) && He.eqO (findIn K (.ref (He.ga K "BadText")) "place") (some none))))
theorem kindB_ok {K : Frag} (h : kindB K = true) : KindC K := by
  obtain ⟨h0, h⟩ := He.ba h
  obtain ⟨h1, h⟩ := He.ba h
  obtain ⟨h2, h⟩ := He.ba h
  obtain ⟨h3, h4⟩ := He.ba h
  have a := List.all_eq_true.mp h0
  refine ⟨fun x hx => excB_ok (He.ba (a x hx)).1, fun x hx => of_decide_eq_true (He.ba (He.ba (a x hx)).2).1, fun x hx y hy => ?_, fun x hx => of_decide_eq_true (He.ba (He.ba (He.ba (a x hx)).2).2).1, xfB_ok h1, xfB_ok h2, He.eqO_ok h3, He.eqO_ok h4⟩
  exact of_decide_eq_true (List.all_eq_true.mp (He.ba (He.ba (He.ba (a x hx)).2).2).2 y hy)
def plainB (K : Frag) (x : Str) : Bool := excIn K (He.ga K x) [.type "ValueError", .type "Exception", .type "BaseException", .type "object"] "ValueError.__new__" && (keepIn K (.ref (He.ga K x)) && (decide (subIn K (.ref (He.ga K x)) (.type "BaseException") = some true) && decide (typeIn K (.ref (He.ga K x)) = some (.type "type"))))
theorem plainB_ok {K : Frag} {x : Str} (h : plainB K x = true) : PlainX K x := by
  obtain ⟨h1, h⟩ := He.ba h
  obtain ⟨h2, h⟩ := He.ba h
  obtain ⟨h3, h4⟩ := He.ba h
  exact ⟨h1, h2, of_decide_eq_true h3, of_decide_eq_true h4⟩
/-! ### the Hook: facts, defs, the two classes' __init__, the law's table -/
def frZ (g : Addr → Option Obj) (n : Nat) : Frag := He.frT g (cStatics :: He.asD g n)
abbrev AlZ : Type := He.Al × Bool × List InitV
def obsZ (n : Nat) (fa : List He.Fa) (fn : List He.FnD) (tf : List He.Defn) (bad : List InitD) (ex : Frag → Bool) (g : Addr → Option Obj) : AlZ :=
  (He.obsE fa fn (frZ g n), ex (frZ g n) && He.tabsB g tf (frZ g n), bad.map fun d => initV (frZ g n) d.x)
def valZ (fn : List He.FnD) (bad : List InitD) : AlZ := (He.valE fn, true, bad.map InitD.val)
structure SaysZ (fa : List He.Fa) (fn : List He.FnD) (tf : List He.Defn) (bad : List InitD) (ex : Frag → Bool) (h : Heap) (K : Frag) : Prop where
  t : He.SaysE fa fn K
  more : ex K = true
  init : bad.map (fun d => initV K d.x) = bad.map InitD.val
  hd : ∀ p ∈ tf, codeHdIn K (He.cT K p).1 (He.cT K p).2 = true
  out : ∀ p ∈ tf, K.lookup (He.cT K p).2 = none
  empty : ∀ p ∈ tf, h.get? (He.cT K p).2 = some { cls := .none, data := .fields #[] }
theorem saysZ_of {n : Nat} {fa : List He.Fa} {fn : List He.FnD} {tf : List He.Defn} {bad : List InitD} {ex : Frag → Bool} {h : Heap} (e : obsZ n fa fn tf bad ex h.get? = valZ fn bad) : SaysZ fa fn tf bad ex h (frZ h.get? n) := by
  have e1 : He.obsE fa fn (frZ h.get? n) = He.valE fn := congrArg (fun z : AlZ => z.1) e
  have e2 : (ex (frZ h.get? n) && He.tabsB h.get? tf (frZ h.get? n)) = true := congrArg (fun z : AlZ => z.2.1) e
  have e3 : bad.map (fun d => initV (frZ h.get? n) d.x) = bad.map InitD.val := congrArg (fun z : AlZ => z.2.2) e
  obtain ⟨h1, h2⟩ := He.ba e2
  have key : ∀ p ∈ tf, codeHdIn (frZ h.get? n) (He.cT (frZ h.get? n) p).1 (He.cT (frZ h.get? n) p).2 = true ∧ ∃ o, h.get? (He.cT (frZ h.get? n) p).2 = some o ∧ He.emptyTab o = true := fun p hp => by
    obtain ⟨h3, h4⟩ := He.ba (List.all_eq_true.mp h2 p hp)
    refine ⟨h3, ?_⟩
    cases q : h.get? (He.cT (frZ h.get? n) p).2 with
    | none => rw [q] at h4; cases h4
    | some o => rw [q] at h4; exact ⟨o, rfl, h4⟩
  refine ⟨e1, h1, e3, fun p hp => (key p hp).1, fun p hp => ?_, fun p hp => ?_⟩
  · obtain ⟨_, o, q, z⟩ := key p hp
    exact He.frT_none q z
  · obtain ⟨_, o, q, z⟩ := key p hp
    rw [q, He.emptyTab_eq z]
def hookZ (n : Nat) (fa : List He.Fa) (fn : List He.FnD) (tf : List He.Defn) (bad : List InitD) (ex : Frag → Bool) : Hook where
  α := AlZ
  obs := fun s => obsZ n fa fn tf bad ex s.heap.get?
  val := fun _ => valZ fn bad
  says := fun _ h => ∃ K : Frag, K.In h ∧ SaysZ fa fn tf bad ex h K
  of := fun _ _ e => ⟨_, He.frT_in, saysZ_of e⟩
  keeps := fun _ _ _ ⟨K, hK, c⟩ k => ⟨K, Frag.In.keeps hK k, ⟨c.t, c.more, c.init, c.hd, c.out, fun p hp => k _ _ (c.empty p hp)⟩⟩
theorem obsZ_eq {n : Nat} {fa : List He.Fa} {fn : List He.FnD} {tf : List He.Defn} {bad : List InitD} {ex : Frag → Bool} {g : Addr → Option Obj} {s : Shared} (h : ∀ a, g a = s.heap.get? a) : obsZ n fa fn tf bad ex g = (hookZ n fa fn tf bad ex).obs s := by
  have e : g = s.heap.get? := funext h
  rw [e] <;> rfl
/-- a def of the module, of no default -/
theorem fun_of {fa : List He.Fa} {fn : List He.FnD} {K : Frag} (c : He.SaysE fa fn K) {x : Str} {st : Stmt} (i : Nat) (h : fn[i]? = some ⟨(x, none), x, x, defArgs st, defBody st, defScope st⟩) (k : keepIn K (.ref (He.ga K x)) = true) : ∃ fd, Fun K x x st (He.ga K x) fd ∧ fd.defaults = .none := by
  obtain ⟨oc, od, osl, kV, doc, pm, an, cdv, ct, lk, hcd⟩ := c.def_ i h
  exact ⟨_, ⟨⟨oc, od, kV, doc, pm, an, cdv, ct, osl, rfl, lk, hcd⟩, k⟩, rfl⟩
/-- the law's own def: its code object and its table -/
theorem law_of {fa : List He.Fa} {fn : List He.FnD} {K : Frag} (c : He.SaysE fa fn K) {x : Str} {st : Stmt} (i : Nat) (h : fn[i]? = some ⟨(x, none), x, x, defArgs st, defBody st, defScope st⟩) :
    ∃ (oc : Value) (od : Option Addr) (osl : Array (Option Value)) (kV doc pm : Value) (an : Option Addr) (cc : Addr) (ct : Value), K.lookup (He.ga K x) = some ⟨oc, od, .func (fnOf x x (defArgs st) (defBody st) (defScope st) .none kV doc pm an (.ref cc) ct), osl⟩ ∧ codeIn K (.ref cc) x = true ∧ (He.cT K (x, none)).1 = cc := by
  obtain ⟨oc, od, osl, kV, doc, pm, an, cdv, ct, lk, hcd⟩ := c.def_ i h
  obtain ⟨cc, e⟩ := He.codeIn_ref hcd
  subst e
  exact ⟨oc, od, osl, kV, doc, pm, an, cc, ct, lk, hcd, He.codeOf_eq (p := (x, none)) lk rfl⟩
end EX
namespace EX
open PySem PySem.Spec PyProof.Rows L2 LamX
/-! ### a lambda is made: only its maker's own table is written -/
structure ButP (D : Addr) (H H1 : Hp) : Prop where
  st : ∀ b o, b ≠ D → H b = some o → H1 b = some o
  no : ∀ b, H1 b = none → H b = none
theorem ButP.rfl' {D : Addr} (H : Hp) : ButP D H H := ⟨fun _ _ _ e => e, fun _ e => e⟩
section
variable {X : Cx} {pins : List (Addr × Obj)} {σ : L2.St} {H : Hp} {s : Shared}
theorem lam_new {q : Str} {cc D : Addr} {params : Arguments} {body : Expr} {scope : Scope} {pos : Pos} {E Q : Value → Shared → Prop}
    (J : Inv X pins σ H s) (B : TabB X.base X.mg cc D) (hcc : X.env.code = .ref cc) (hq : X.env.qual ++ "<lambda>" = q) (tb : TabS H D q)
    (nd : defaultsOf params X.env = ([], [])) (fr : ∀ y ∈ scope.names, y.2 = .free → ∃ c, X.env.cells.lookup y.1 = some c)
    (k : ∀ (f c2 : Addr) (pm ctv : Value) (H1 : Hp) (s1 : Shared), Inv X pins σ H1 s1 → ButP D H H1 → TabS H1 D q →
      s1.heap.get? f = some (PySem.W.kla_obj "<lambda>" q params body scope (cloFrom X.env.cells scope.names []) pm c2 ctv) → H1 f = none → f ∉ frs X.stack → H1 c2 = some (CodeO c2 q) → Q (.ref f) s1) :
    wpAny (model X.prog X.w) X.A (eval (.Lambda params body scope pos) X.env) Q E s := by
  subst hq
  obtain ⟨vs, hD, tr, am⟩ := tb
  have gD : s.heap.get? D = some { cls := .none, data := .fields vs } := J.hok D _ hD
  have bD : s.heap.BuiltinsAt X.mg D := B.bm.keeps J.bk
  have far : ∀ a : Addr, s.heap.objs.size ≤ a → a ∉ frs X.stack := fun a ha m => by
    rcases List.mem_cons.mp (J.stkSub _ m) with z | z
    · have y := J.lt
      rw [← z] at y
      exact absurd (Nat.lt_of_lt_of_le y ha) (Nat.lt_irrefl _)
    · exact J.nofs ha z
  refine PySem.W.kla_eval nd ?_
  cases look : codeAmong pos vs.toList with
  | some cv =>
    obtain ⟨c2, rfl, at2⟩ := am pos cv look
    refine PySem.W.kla_makeFunctionHit (mg := X.mg) (c := cc) (P := D) (ps := vs) (closure_ok fr) J.ok.glob (J.mod.glob.keeps J.bk) hcc (B.code.keeps J.bk) gD tr look bD fun ctv h1 tk kx ks => ?_
    exact k h1.objs.size c2 ((X.mg "__name__").getD .none) ctv H _ (J.kept fun b o e => Heap.get?_push_of_some _ (kx b o e)) (ButP.rfl' H) ⟨vs, hD, tr, am⟩ (Heap.get?_push_size _ rfl) (J.hok.fresh ks) (far _ ks) at2
  | none =>
    refine PySem.W.kla_makeFunction (mg := X.mg) (c := cc) (P := D) (ps := vs) (closure_ok fr) J.ok.glob (J.mod.glob.keeps J.bk) hcc (B.code.keeps J.bk) gD tr look B.gP bD fun c2 ctv h1 tk kx ge lt rec tab => ?_
    obtain ⟨c3, oc, ws, t, e3, g3, d3, n3⟩ := rec
    cases e3
    have room : s.heap.objs.size ≤ h1.objs.size := by omega
    have none2 : H c2 = none := J.hok.fresh ge
    have ne2 : D ≠ c2 := ne_of_none hD none2
    have J1 := inv_table (t' := tk) (more := #[rawInt pos.line, rawInt pos.col, .ref c2]) (h' := h1.push (PySem.W.kla_obj "<lambda>" (X.env.qual ++ "<lambda>") params body scope (cloFrom X.env.cells scope.names []) ((X.mg "__name__").getD .none) c2 ctv)) J hD
      (fun b o hb e => Heap.get?_push_of_some _ (kx b o hb e)) (Heap.get?_push_of_some _ tab) ge ⟨oc, ws, t, Heap.get?_push_of_some _ g3, d3, n3⟩
    have but : ButP D H (upd (upd H D (.tbl (vs ++ #[rawInt pos.line, rawInt pos.col, .ref c2]))) c2 (CodeO c2 (X.env.qual ++ "<lambda>"))) := by
      refine ⟨fun b o hb e => ?_, fun b e => ?_⟩
      · rw [upd_ne (ne_of_none e none2), upd_ne hb]
        exact e
      · by_cases z : b = c2
        · rw [z]; exact none2
        · rw [upd_ne z] at e
          by_cases y : b = D
          · rw [y, upd_same] at e; cases e
          · rw [upd_ne y] at e; exact e
    have lst : (vs ++ #[rawInt pos.line, rawInt pos.col, .ref c2]).toList = vs.toList ++ [rawInt pos.line, rawInt pos.col, .ref c2] := by simp
    refine k h1.objs.size c2 ((X.mg "__name__").getD .none) ctv _ _ J1 but ⟨_, by rw [upd_ne ne2, upd_same], by rw [lst]; exact PySem.TriplesOk_snoc _ _ _ _ tr, fun p cv h => ?_⟩ (Heap.get?_push_size _ rfl) ?_ (far _ room) upd_same
    · rw [lst] at h
      rcases among_app _ tr h with h | rfl
      · obtain ⟨c4, e4, a4⟩ := am p cv h
        refine ⟨c4, e4, ?_⟩
        by_cases z : c4 = D
        · rw [z, hD] at a4
          exact absurd (Option.some.inj a4).symm (codeO_ne _)
        · exact but.st _ _ z a4
      · exact ⟨c2, rfl, upd_same⟩
    · rw [upd_ne (Nat.ne_of_gt lt), upd_ne (Nat.ne_of_gt (Nat.lt_of_lt_of_le (Heap.lt_size gD) room))]
      exact J.hok.fresh room
/-- the reader called with a lambda, what it leaves told exactly -/
def tLamP (D : Addr) (q : Str) (TT : (XK → Hp → VK → Prop) → Hp → VK → Prop) (t : XK → TE) : TE := fun σ H Q => TabS H D q ∧ ∀ H1, ButP D H H1 → TabS H1 D q → TT (fun E H' Q' => t E σ H' Q') H1 Q
theorem pe_kindP {x a : Str} {st : Stmt} {Ng : List Str} {f c D : Addr} {fd : FuncData} {k : Nat} {TT : (XK → Hp → VK → Prop) → Hp → VK → Prop} {params : Arguments} {body : Expr} {scope : Scope} {t : XK → TE} {p lpos pos : Pos} {q : Str}
    (F : Fun X.K x x st f fd) (hb : Binds X.K fd [a] []) (kp : PySem.W.keepIn X.K (.ref f) = true) (hm : X.mg x = some (.ref f)) (Sg : FnScope Ng [a] (defScope st)) (h0 : Ng[0]? = some a) (hva : Vis (defScope st) a)
    (hG : ∀ cdg, LamX.GivesTo X Ng x (defScope st) f cdg (defBody st) a (X.env.qual ++ "<lambda>") TT) (hg : Gl X x) (TB : LamX.TabB X.base X.mg c D) (hcode : X.env.code = .ref c) (hq : X.env.qual ++ "<lambda>" = q) (hr : Room (k + 2) X.A)
    (L : LamX.LamS X.env.scope scope) (hdef : defaultsOf params X.env = ([], [])) (hbind : ∀ (q : Str) (cl : List (Str × Addr)) (pm cv ctv : Value), bindArgs (PySem.W.kla_fn "<lambda>" q params body scope cl pm cv ctv) ⟨[], []⟩ = pure [])
    (hbody : ∀ (A : Around) (outer : List Env) (s : Shared) (H : Hp) (E : XK) (f c' : Addr), Room k (A.deeper (LamX.lamEnv X scope s.heap.objs.size f c')) → PE (LamX.lamCx X A outer s H E scope f c') body (t E))
    (hdb : (x == ("__debug__" : Str)) = false := by decide) (hd : (a == ("__debug__" : Str)) = false := by decide) (hcd : (a == ("__classdict__" : Str)) = false := by decide) :
    PE X (.Call (.Name x p) [.Lambda params body scope lpos] [] pos) (tLamP D q TT t) := by
  subst hq
  obtain ⟨oc, od, kV, doc, pm, an, cdv, ct, osl, rfl, lk, hcg⟩ := F.ex
  refine ⟨fun pins s σ H Q J ⟨tb, h⟩ => wpAny_Call_Name_kw (ld_glob J hg hm (PySem.W.callWith_K (h₀ := X.base) J.ok.mod.kin kp ?_ (by rfl) (by rfl)) hdb)⟩
  show wpAny _ _ (spliced ((false, eval (.Lambda params body scope lpos) X.env) :: backTo pos (starEach [] X.env))) _ _ s
  refine Calls.spliced_cons (lam_new J TB hcode rfl tb hdef (L.has J.ok) fun f2 c2 pm2 ctv H1 s1 J1 but tb1 g2 n2 fr2 co => Calls.spliced_nil ⟨J1.kIn, ?_⟩)
  have run : codeAny (model X.prog X.w) X.A (.call (.ref f) ⟨[.ref f2], []⟩) (CR C8.CX0 X.stack X.prog X.w H1 s1 Q C8.E0) s1 :=
    run_ofS (N := Ng) (ps := [a]) (us := [.ref f2]) (vs := [.ref f2]) lk hcg Sg hr J1.env0 (hb s1 [.ref f2] J1.kIn rfl) (.cons rfl .nil) rfl fun hr2 => by
      obtain ⟨t2, a2, b2⟩ := hG cdv f2 c2 s1 H1 Q (fun E H' Q' => t E σ H' Q') (fun W pn xe E p1 p2 tk hW => pe_act (i := 0) J1 L g2 n2 fr2 (hbind _ _ _ _ _) tk hW hr2 (fun A outer s H hr3 => hbody A outer s H E f2 c2 hr3) h0 hva hd hcd) co (h H1 but tb1)
      exact ⟨t2, a2.nox, b2⟩
  refine wpAny_call (codeAny_mono run fun r s2 z => ?_)
  cases r with
  | error e => exact False.elim z
  | ok fl => cases fl with
    | ret u => exact J1.after z
    | _ => exact False.elim z
end
theorem cal_none {P : Program} {w : World} {K : PySem.W.Frag} {mg : Str → Option Value} {base : Heap} {x : Str} {st : Stmt} {f : Addr} {fd : FuncData} {ps : List Str} {sp : Sp} (F : Fun K x x st f fd) (hb : Binds K fd ps []) (hm : mg x = some (.ref f)) (no : ∀ vs H Q E, ¬ sp vs H Q E) : C8.Cal P w K mg base 0 x sp [] :=
  ⟨f, fd, ps, [], ⟨fun vs H Q E h => absurd h (no vs H Q E), fun A outer s H args us vs Q E _ _ _ _ h => absurd h (no vs H Q E)⟩, hm, F.kp, hb, .nil⟩
end EX
namespace CX
open PySem PySem.Spec PyProof.Rows L2 MV
theorem k_iEnum {K : PySem.W.Frag} {σ : L2.St} {H : Hp} {A : TA} {R : It → Hp → Prop} (q : A σ H fun vs H1 => ∃ a xs, vs = [.ref a] ∧ SqL K H1 a xs ∧ R (Ite K a) H1) : iEnum K A σ H R := q
theorem k_callS {σ : L2.St} {H : Hp} {Q : VK} {A : TA} {sp : Sp} {E : L2.St → XK} (q : A σ H fun vs H1 => sp vs H1 Q (E σ)) : tCallS sp E A σ H Q := q
local macro_rules | `(tactic| walk_at "go") => `(tactic| repeat (first
  | with_reducible refine MV.k_seq ?_ | with_reducible refine MV.k_asg ?_ | with_reducible refine MV.k_name ?_ | with_reducible refine MV.k_op ?_ | ((with_reducible apply MV.k_var); exact rfl) | with_reducible refine MV.k_c ?_
  | with_reducible refine MV.k_add ?_ | with_reducible refine MV.k_sub ?_ | with_reducible refine MV.k_lt ?_ | with_reducible refine MV.k_le ?_ | with_reducible refine MV.k_gt ?_ | with_reducible refine MV.k_ge ?_ | with_reducible refine MV.k_eqI ?_ | with_reducible refine MV.k_neI ?_
  | with_reducible refine MV.k_test ?_ | with_reducible refine MV.k_B ?_ | with_reducible refine MV.k_bl ?_ | with_reducible refine MV.k_blV ?_ | with_reducible refine MV.k_and ?_ | with_reducible refine MV.k_or ?_ | with_reducible refine MV.k_not ?_ | with_reducible refine MV.k_andV ?_ | with_reducible refine MV.k_orV ?_ | with_reducible refine MV.k_notV ?_
  | with_reducible refine MV.k_if ?_ | with_reducible refine MV.k_tru ?_ | with_reducible refine MV.k_chain ?_ | with_reducible refine MV.k_next ?_ | with_reducible refine MV.k_drop ?_ | with_reducible refine MV.k_ret ?_ | with_reducible refine MV.k_retN ?_ | with_reducible refine MV.k_ifS ?_ | with_reducible refine MV.k_brk ?_ | with_reducible refine MV.k_cont ?_
  | with_reducible refine MV.k_nil ?_ | with_reducible refine MV.k_cons ?_ | with_reducible refine MV.k_tup ?_ | with_reducible refine MV.k_lst ?_ | with_reducible refine MV.k_cb ?_ | with_reducible refine MV.k_call ?_ | with_reducible refine MV.k_gnil ?_ | with_reducible refine MV.k_gcons ?_ | with_reducible refine MV.k_gsub ?_
  | with_reducible refine MV.k_bm ?_ | with_reducible refine MV.k_bm0 ?_ | with_reducible refine MV.k_un ?_ | with_reducible refine MV.k_neg ?_ | with_reducible refine MV.k_isN ?_ | with_reducible refine MV.k_notN ?_ | with_reducible refine L2.iteT ?_ | with_reducible refine L2.iteF ?_
  | with_reducible refine MV.k_iList ?_ | with_reducible refine MV.k_iTup ?_ | with_reducible refine MV.k_iRng1 ?_ | with_reducible refine MV.k_lc ?_ | with_reducible refine MV.k_for ?_
  | with_reducible refine MV.k_yes ?_ | with_reducible refine MV.k_dput ?_ | with_reducible refine MV.k_dget ?_ | with_reducible refine MV.k_dget1 ?_ | with_reducible refine MV.k_sl ?_ | with_reducible refine MV.k_nopart ?_ | with_reducible refine MV.k_part ?_ | with_reducible refine MV.k_pint ?_ | with_reducible refine MV.k_dnew ?_ | with_reducible refine MV.k_lstRg ?_ | with_reducible refine MV.k_rg1 ?_
  | with_reducible refine CX.k_callS ?_ | with_reducible refine CX.k_iEnum ?_))
def t_check_boxes (K : PySem.W.Frag) (w : World) (s_is_count : Sp) (E : XK) : TS :=
  (tIfS (tNot (tB (tCall s_is_count [] E0 (tCons (tVar 0) tNil)))) (EX.tRaiseOwn (He.ga K "BadLead") (fun cls d _ H => E cls d H)) tNext)
def t_can_be (K : PySem.W.Frag) (w : World) (s_is_box : Sp) : TS :=
  (tSeq (tIfS (tTest (tOp rNe (tCB (vLen K) (tCons (tVar 1) tNil)) (tC (.int 3)))) (tRet (tC (.bl false))) tNext)
    (tSeq (tAsg (tVar 1) (gTup K 3 (gCons (gName 2) (gCons (gName 3) (gCons (gName 4) gNil)))))
    (tSeq (tIfS (tAnd (tTest (tOp rNe (tVar 2) (tC (.str "copy")))) (tTest (tOp rNe (tVar 2) (tC (.str "swap"))))) (tRet (tC (.bl false))) tNext)
    (tRet (tAndV (tCall s_is_box [] E0 (tCons (tVar 0) (tCons (tVar 3) tNil))) (tAndV (tCall s_is_box [] E0 (tCons (tVar 0) (tCons (tVar 4) tNil))) (tOp rNe (tVar 3) (tVar 4))))))))
def t_check_moves (K : PySem.W.Frag) (w : World) (s_can_be : Sp) (E : XK) : TS :=
  (tFor (iEnum K (tCons (tVar 1) tNil)) (gTup K 2 (gCons (gName 2) (gCons (gName 3) gNil))) (tIfS (tNot (tB (tCall s_can_be [] E0 (tCons (tVar 0) (tCons (tVar 3) tNil))))) (tRaiseBad (He.ga K "BadMove") "number" (fun cls d _ H => E cls d H) (tCons (tVar 2) tNil)) tNext))
def t_do_move (K : PySem.W.Frag) (w : World) : TS :=
  (tSeq (tAsg (tVar 1) (gTup K 3 (gCons (gName 2) (gCons (gName 3) (gCons (gName 4) gNil)))))
    (tIfS (tTest (tOp rEq (tVar 2) (tC (.str "swap")))) (tAsg (tTup (tCons (tOp (rIxL K) (tVar 0) (tVar 4)) (tCons (tOp (rIxL K) (tVar 0) (tVar 3)) tNil))) (gTup K 2 (gCons (gSub (tVar 0) (tVar 3) rSetL) (gCons (gSub (tVar 0) (tVar 4) rSetL) gNil)))) (tAsg (tOp (rIxL K) (tVar 0) (tVar 4)) (gSub (tVar 0) (tVar 3) rSetL))))
def t_moved (K : PySem.W.Frag) (w : World) (s_check_boxes : Sp) (s_check_moves : Sp) (s_do_move : Sp) (E : XK) : TS :=
  (tSeq (tDrop (tCallS s_check_boxes (WE (fun cls d _ H => E cls d H)) (tCons (tCB (vLen K) (tCons (tVar 0) tNil)) tNil)))
    (tSeq (tDrop (tCallS s_check_moves (WE (fun cls d _ H => E cls d H)) (tCons (tCB (vLen K) (tCons (tVar 0) tNil)) (tCons (tVar 1) tNil))))
    (tSeq (tAsg (tCB (vListOf K) (tCons (tVar 0) tNil)) (gName 2))
    (tSeq (tFor (iList K (tVar 1)) (gName 3) (tDrop (tCall s_do_move [] E0 (tCons (tVar 2) (tCons (tVar 3) tNil)))))
    (tRet (tVar 2))))))
section
variable {K : PySem.W.Frag} {w : World} {H : Hp}
/-! ### single moves as lists of values -/
structure MsAt (K : PySem.W.Frag) (G : Hp) (l : Addr) (ms : List (List V)) : Prop where
  ex : ∃ ts : List Addr, SqL K G l (ts.map V.ref) ∧ ts.length = ms.length ∧ ∀ (i : Nat) (t : Addr) (m : List V), ts[i]? = some t → ms[i]? = some m → SqT K G t m
theorem MsAt.mono {G G1 : Hp} {l : Addr} {ms : List (List V)} (h : MsAt K G l ms) (s : Same G G1) : MsAt K G1 l ms := by
  obtain ⟨ts, a, b, c⟩ := h.ex
  exact ⟨ts, s.seq a, b, fun i t m e1 e2 => sqT_mono s (c i t m e1 e2)⟩
def Wf (m : List V) : Prop := m.length ≠ 3 ∨ ∃ (u : Str) (i j : Int), m = [.str u, .int i, .int j]
def canBe (n : Int) : List V → Bool
  | [.str u, .int i, .int j] => (decide (u = "copy") || decide (u = "swap")) && (decide (0 ≤ i ∧ i < n) && (decide (0 ≤ j ∧ j < n) && !decide (i = j)))
  | _ => false
theorem canBe_len {n : Int} {m : List V} (h : m.length ≠ 3) : canBe n m = false := by
  unfold canBe
  split
  · exact absurd rfl h
  · rfl
theorem pure_check_boxes (vs : List V) (Q : VK) (E : XK) (h : MV.spCheckBoxes vs H Q E) : t_check_boxes K w spIsCount E { nx := fun _ H1 => Q .non H1, rt := Q } (start ["boxes"] vs) H := by
  obtain ⟨n, rfl, n1, n10, q⟩ := h
  unfold t_check_boxes
  walk_at "go"
  refine ⟨n, rfl, ?_⟩
  walk_at "go"
  refine k_nfalse ⟨n1, n10⟩ ?_
  exact q
/-- any count: refused beyond 1 to 10 -/
def spCheckBoxes (K : PySem.W.Frag) : Sp := fun vs H Q E => ∃ n : Int, vs = [.int n] ∧ ((1 ≤ n ∧ n ≤ 10 ∧ Q .non H) ∨ (¬ (1 ≤ n ∧ n ≤ 10) ∧ E (.ref (He.ga K "BadLead")) none H))
theorem pure_check_boxesB (vs : List V) (Q : VK) (E : XK) (h : spCheckBoxes K vs H Q E) : t_check_boxes K w spIsCount E { nx := fun _ H1 => Q .non H1, rt := Q } (start ["boxes"] vs) H := by
  obtain ⟨n, rfl, ⟨n1, n10, q⟩ | ⟨nn, q⟩⟩ := h
  · exact pure_check_boxes _ Q E ⟨n, rfl, n1, n10, q⟩
  · unfold t_check_boxes
    walk_at "go"
    refine ⟨n, rfl, ?_⟩
    walk_at "go"
    refine k_ntrue nn ?_
    exact q
def spCanBe (K : PySem.W.Frag) : Sp := fun vs H Q _ => ∃ (n : Int) (t : Addr) (m : List V), vs = [.int n, .ref t] ∧ SqT K H t m ∧ Wf m ∧ Q (.bl (canBe n m)) H
theorem dec_str (x y : Str) : decide (V.str x = V.str y) = decide (x = y) := by
  by_cases h : x = y
  · subst h; simp
  · rw [decide_eq_false h, decide_eq_false fun z => h (V.str.inj z)]
theorem pure_can_be (vs : List V) (Q : VK) (E : XK) (h : spCanBe K vs H Q E) : t_can_be K w spIsBox { nx := fun _ H1 => Q .non H1, rt := Q } (start ["boxes", "move", "word", "one", "other"] vs) H := by
  obtain ⟨n, t, m, rfl, ht, wf, q⟩ := h
  unfold t_can_be
  walk_at "go"
  refine k_len (.inr ht) ?_
  walk_at "go"
  by_cases h3 : m.length = 3
  · refine k_nfalse (by omega) ?_
    rcases wf with wf | ⟨u, i, j, rfl⟩
    · exact absurd h3 wf
    walk_at "go"
    refine k_tupN ht rfl ?_
    walk_at "go"
    refine k_ne rfl ?_
    rw [dec_str]
    have tail : canBe n [.str u, .int i, .int j] = ((decide (0 ≤ i ∧ i < n) && (decide (0 ≤ j ∧ j < n) && !decide (i = j)))) → spIsBox [.int n, .int i] H (fun x H1 => ∃ c, x = V.bl c ∧ if c = true then tAndV (tCall spIsBox [] E0 (tCons (tVar 0) (tCons (tVar 4) tNil))) (tOp rNe (tVar 3) (tVar 4)) [some (.int n), some (.ref t), some (.str u), some (.int i), some (.int j)] H1 Q else Q (.bl false) H1) E0 := by
      intro e
      rw [e] at q
      refine ⟨n, i, rfl, ?_⟩
      refine k_blV ?_
      refine k_both (fun hi => ?_) (fun hi => ?_)
      · rw [decide_eq_true hi, Bool.true_and] at q
        walk_at "go"
        refine ⟨n, j, rfl, ?_⟩
        refine k_blV ?_
        refine k_both (fun hj => ?_) (fun hj => ?_)
        · rw [decide_eq_true hj, Bool.true_and] at q
          walk_at "go"
          exact q
        · rw [decide_eq_false hj, Bool.false_and] at q
          exact q
      · rw [decide_eq_false hi, Bool.false_and] at q
        exact q
    by_cases hc : u = "copy"
    · rw [decide_eq_true hc]
      walk_at "go"
      refine L2.iteF ?_
      walk_at "go"
      refine tail ?_
      subst hc
      rfl
    · rw [decide_eq_false hc]
      walk_at "go"
      refine L2.iteT ?_
      walk_at "go"
      refine k_ne rfl ?_
      rw [dec_str]
      by_cases hs : u = "swap"
      · rw [decide_eq_true hs]
        walk_at "go"
        refine L2.iteF ?_
        walk_at "go"
        refine tail ?_
        subst hs
        rfl
      · rw [decide_eq_false hs]
        walk_at "go"
        refine L2.iteT ?_
        walk_at "go"
        have e : canBe n [.str u, .int i, .int j] = false := by
          show ((decide (u = "copy") || decide (u = "swap")) && _) = false
          rw [decide_eq_false hc, decide_eq_false hs]
          rfl
        rw [e] at q
        exact q
  · refine k_ntrue (by omega) ?_
    walk_at "go"
    rw [canBe_len h3] at q
    exact q
/-! ### enumerate over a list that stands -/
theorem forE {M : List Addr} {G : Hp} {σ : L2.St} {a : Addr} {xs : List V} {g : TG} {tb : TS} {D : Ends} (s : Same G H) (hx : SqL K G a xs) (Pv : Nat → L2.St → Hp → Hp → Prop) (h0 : Pv 0 σ G H)
    (hs : ∀ (i : Nat) (x : V) (T : Addr) (σ1 : L2.St) (G1 H1 : Hp), i < xs.length → xs[i]? = some x → Ext M G H G1 H1 → Pv i σ1 G1 H1 → H1 T = none → g (.ref T) σ1 (upd H1 T (.tup [.int (i : Nat), x])) fun σ2 H2 =>
      tb { D with nx := fun σ3 H3 => ∃ G3, Ext M G1 H1 G3 H3 ∧ Pv (i + 1) σ3 G3 H3, ct := fun σ3 H3 => ∃ G3, Ext M G1 H1 G3 H3 ∧ Pv (i + 1) σ3 G3 H3, bk := D.nx } σ2 H2)
    (hd : ∀ (σ1 : L2.St) (G1 H1 : Hp), Ext M G H G1 H1 → Pv xs.length σ1 G1 H1 → D.nx σ1 H1) :
    ∃ W : Nat → Nat → L2.St → Hp → Prop, (∃ m, W 0 m σ H) ∧ ∀ i m σ H, W i m σ H →
      ((Ite K a).stop i H ∧ D.nx σ H) ∨ ((Ite K a).go i H ∧ ∃ N : L2.St → Hp → Prop, (∀ σ' H', N σ' H' → ∃ m', m' < m ∧ W (i + 1) m' σ' H') ∧ ∀ x H', (Ite K a).yld i H x H' → g x σ H' fun σ2 H2 => tb { D with nx := N, ct := N, bk := D.nx } σ2 H2) := by
  refine ⟨fun i m σ1 H1 => m = xs.length - i ∧ i ≤ xs.length ∧ ∃ G1, Ext M G H G1 H1 ∧ Pv i σ1 G1 H1, ⟨xs.length, rfl, Nat.zero_le _, G, Ext.refl s, h0⟩, ?_⟩
  rintro i m σ1 H1 ⟨rfl, hi, G1, e, p⟩
  have sG : Same G H1 := e.g.trans e.s
  by_cases hlt : i < xs.length
  · refine .inr ⟨⟨xs, xs[i], sG.seq hx, List.getElem?_eq_getElem hlt⟩, fun σ3 H3 => ∃ G3, Ext M G1 H1 G3 H3 ∧ Pv (i + 1) σ3 G3 H3, fun σ3 H3 ⟨G3, e3, p3⟩ => ⟨xs.length - (i + 1), by omega, rfl, hlt, G3, e.trans e3, p3⟩, fun x H2 y => ?_⟩
    obtain ⟨T, x, rfl, hT, rfl, hq⟩ := y
    exact hs i x T σ1 G1 H1 hlt (hq xs (sG.seq hx)) e p hT
  · have en : i = xs.length := by omega
    subst en
    exact .inl ⟨⟨xs, sG.seq hx, Nat.le_refl _⟩, hd σ1 G1 H1 e p⟩
/-- all can be, or the first that can't -/
def spCheckMoves (K : PySem.W.Frag) : Sp := fun vs H Q E => ∃ (G : Hp) (n : Int) (l : Addr) (ms : List (List V)), vs = [.int n, .ref l] ∧ Same G H ∧ MsAt K G l ms ∧ (∀ m, m ∈ ms → Wf m) ∧ ms.length ≤ 1000 ∧
  (((∀ m, m ∈ ms → canBe n m = true) ∧ ∀ H1, Ext [] G H G H1 → Q .non H1) ∨
   ∃ (k : Nat) (m : List V), ms[k]? = some m ∧ canBe n m = false ∧ (∀ i m', i < k → ms[i]? = some m' → canBe n m' = true) ∧ ∀ (H1 : Hp) (dd : Addr), Ext [] G H G H1 → H1 dd = none → E (.ref (He.ga K "BadMove")) (some dd) (upd H1 dd (.xd [("number", .int (k : Nat))])))
theorem pure_check_moves (vs : List V) (Q : VK) (E : XK) (h : spCheckMoves K vs H Q E) : t_check_moves K w (spCanBe K) E { nx := fun _ H1 => Q .non H1, rt := Q } (start ["boxes", "moves", "number", "move"] vs) H := by
  obtain ⟨G, n, l, ms, rfl, s, ⟨ts, hx, hl, ht⟩, wf, h1000, q⟩ := h
  unfold t_check_moves
  walk_at "go"
  refine ⟨l, ts.map V.ref, rfl, s.seq hx, ?_⟩
  have key : ∀ (i : Nat) (m : List V), i < ts.length → ms[i]? = some m → m ∈ ms := fun i m _ e => List.mem_of_getElem? e
  refine forE (M := []) s hx (fun i σ1 G1 H1 => G1 = G ∧ (∃ x2 x3, σ1 = [some (.int n), some (.ref l), x2, x3]) ∧ ∀ j m, j < i → ms[j]? = some m → canBe n m = true)
    ⟨rfl, ⟨none, none, rfl⟩, fun j m z => absurd z (Nat.not_lt_zero _)⟩ (fun i x T σ1 G1 H1 hi ex e ⟨eG, ⟨x2, x3, es⟩, hb⟩ hT => ?_) (fun σ1 G1 H1 e ⟨eG, ⟨x2, x3, es⟩, hb⟩ => ?_)
  · subst eG es
    rw [List.length_map] at hi
    have hm : i < ms.length := by omega
    rw [List.getElem?_map, List.getElem?_eq_getElem hi] at ex
    have ex2 : V.ref ts[i] = x := Option.some.inj ex
    subst ex2
    have em : ms[i]? = some ms[i] := List.getElem?_eq_getElem hm
    have hti := ht i ts[i] ms[i] (List.getElem?_eq_getElem hi) em
    have e1 := (Ext.refl (M := []) e.s).tmp (o := .tup [.int (i : Nat), .ref ts[i]]) hT
    have ht1 : SqT K (upd H1 T (.tup [.int (i : Nat), .ref ts[i]])) ts[i] ms[i] := sqT_mono e1.s hti
    refine k_tupN (SqT.of upd_same) rfl ?_
    walk_at "go"
    refine ⟨n, ts[i], ms[i], rfl, ht1, wf _ (List.getElem_mem hm), ?_⟩
    walk_at "go"
    rcases q with ⟨qa, qn⟩ | ⟨k, m, ek, ck, hk, qe⟩
    · rw [qa _ (List.getElem_mem hm)]
      refine L2.iteF ?_
      walk_at "go"
      refine ⟨G1, e1, rfl, ⟨_, _, rfl⟩, fun j m hj em2 => qa m (List.mem_of_getElem? em2)⟩
    · by_cases hik : i = k
      · subst hik
        rw [em] at ek
        cases ek
        rw [ck]
        refine L2.iteT ?_
        refine ⟨_, rfl, (i : Int), rfl, ?_, fun dd hdd => qe _ dd (e.fin e1 (fun p hp => nomatch hp)) hdd⟩
        have : ((i : Int)).natAbs = i := Int.natAbs_natCast i
        rw [this]
        exact Nat.lt_of_le_of_lt (Nat.log2_le_self i) (by omega)
      · have hlt : i < k := by
          rcases Nat.lt_or_ge i k with z | z
          · exact z
          · have hk2 : k < i := by omega
            have := hb k m hk2 ek
            rw [ck] at this
            cases this
        rw [hk i _ hlt em]
        refine L2.iteF ?_
        walk_at "go"
        refine ⟨G1, e1, rfl, ⟨_, _, rfl⟩, fun j m2 hj em2 => hk j m2 (by omega) em2⟩
  · subst eG es
    rw [List.length_map] at hb
    rcases q with ⟨qa, qn⟩ | ⟨k, m, ek, ck, hk, qe⟩
    · exact qn H1 e
    · have hk2 : k < ts.length := by
        have := (List.getElem?_eq_some_iff.mp ek).1
        omega
      have := hb k m hk2 ek
      rw [ck] at this
      cases this
/-! ### moved -/
def mvI (ws : List Int) : List V → List Int
  | [.str u, .int i, .int j] => if u = "swap" then (ws.set i.toNat (ws.getD j.toNat 0)).set j.toNat (ws.getD i.toNat 0) else ws.set i.toNat (ws.getD j.toNat 0)
  | _ => ws
theorem mvI_eq (ws : List Int) (u : Str) (i j : Int) : mvI ws [.str u, .int i, .int j] = if u = "swap" then (ws.set i.toNat (ws.getD j.toNat 0)).set j.toNat (ws.getD i.toNat 0) else ws.set i.toNat (ws.getD j.toNat 0) := rfl
theorem mvI_len (ws : List Int) (m : List V) : (mvI ws m).length = ws.length := by
  unfold mvI
  split
  · split <;> simp
  · rfl
theorem mvs_len : ∀ (ms : List (List V)) (ws : List Int), (ms.foldl mvI ws).length = ws.length
  | [], _ => rfl
  | m :: r, ws => by rw [List.foldl_cons, mvs_len r, mvI_len]
theorem take_fold {α β : Type} (f : β → α → β) {l : List α} {i : Nat} {x : α} {b : β} (h : l[i]? = some x) : (l.take (i + 1)).foldl f b = f ((l.take i).foldl f b) x := by
  rw [List.take_add_one, h, List.foldl_append]
  rfl
theorem ixN_in {n : Nat} {i : Int} (h : 0 ≤ i) (h2 : i < n) : ixN n i = some i.toNat := by
  unfold ixN
  rw [if_pos h, if_pos h2]
theorem at_in {zs : List Int} {i : Int} (h : 0 ≤ i) (h2 : i < zs.length) : atI (zs.map V.int) i = some (.int (zs.getD i.toNat 0)) := by
  have hk : i.toNat < zs.length := by omega
  have e := atI_here' (zs := zs) (k := i.toNat) hk
  rw [show ((i.toNat : Nat) : Int) = i by omega] at e
  rw [e, List.getD_eq_getElem?_getD, List.getElem?_eq_getElem hk]
  rfl
theorem canBe_in {n : Int} {m : List V} (h : canBe n m = true) : ∃ (u : Str) (i j : Int), m = [.str u, .int i, .int j] ∧ (u = "copy" ∨ u = "swap") ∧ 0 ≤ i ∧ i < n ∧ 0 ≤ j ∧ j < n ∧ i ≠ j := by
  unfold canBe at h
  split at h
  · rename_i u i j
    obtain ⟨h1, h2⟩ := Bool.and_eq_true_iff.mp h
    obtain ⟨h3, h4⟩ := Bool.and_eq_true_iff.mp h2
    obtain ⟨h5, h6⟩ := Bool.and_eq_true_iff.mp h4
    have a := of_decide_eq_true h3
    have b := of_decide_eq_true h5
    refine ⟨u, i, j, rfl, ?_, a.1, a.2, b.1, b.2, fun z => ?_⟩
    · rcases Bool.or_eq_true_iff.mp h1 with z | z
      · exact .inl (of_decide_eq_true z)
      · exact .inr (of_decide_eq_true z)
    · rw [decide_eq_true z] at h6
      cases h6
  · cases h
/-- one move done in a list -/
def spDoMove (K : PySem.W.Frag) : Sp := fun vs H Q _ => ∃ (G : Hp) (p t : Addr) (m : List V) (cur : List Int), vs = [.ref p, .ref t] ∧ Same G H ∧ G p = none ∧ SqT K G t m ∧ canBe (cur.length : Nat) m = true ∧ H p = some (.lst (cur.map V.int)) ∧
  ∀ H1, Ext [p] G H G H1 → H1 p = some (.lst ((mvI cur m).map V.int)) → Q .non H1
theorem pure_do_move (vs : List V) (Q : VK) (E : XK) (h : spDoMove K vs H Q E) : t_do_move K w { nx := fun _ H1 => Q .non H1, rt := Q } (start ["held", "move", "word", "one", "other"] vs) H := by
  obtain ⟨G, p, t, m, cur, rfl, s, gp, ht, cb, hb, q⟩ := h
  obtain ⟨u, a, b, rfl, hu, a0, a1, b0, b1, ab⟩ := canBe_in cb
  have ht1 : SqT K H t [.str u, .int a, .int b] := sqT_mono s ht
  have aL : a < cur.length := by omega
  have bL : b < cur.length := by omega
  unfold t_do_move
  walk_at "go"
  refine k_tupN ht1 rfl ?_
  walk_at "go"
  refine k_eq rfl ?_
  rw [dec_str]
  walk_at "go"
  by_cases hs : u = "swap"
  · refine k_true hs ?_
    walk_at "go"
    refine k_ixL (SqL.of hb) (at_in b0 bL) ?_
    walk_at "go"
    refine k_ixL (SqL.of hb) (at_in a0 aL) ?_
    walk_at "go"
    refine ⟨sz1 (by show 2 ≤ 100000; decide), fun t2 ht2 => ?_⟩
    have np : p ≠ t2 := fun z => by rw [z, ht2] at hb; cases hb
    have hb2 := upd_two (o := .tup [.int (cur.getD b.toNat 0), .int (cur.getD a.toNat 0)]) np hb
    refine k_tupN (SqT.of upd_same) rfl ?_
    walk_at "go"
    refine k_setL hb2 (ixN_in a0 (by rw [List.length_map]; exact aL)) ?_
    walk_at "go"
    refine k_setL upd_same (j := b.toNat) (ixN_in b0 (by rw [List.length_set, List.length_map]; exact bL)) ?_
    walk_at "go"
    refine q _ ((((Ext.refl (M := [p]) s).tmp ht2).mutM (by simp) gp).mutM (by simp) gp) ?_
    rw [upd_same, mvI_eq, if_pos hs, List.map_set, List.map_set]
  · refine k_false hs ?_
    walk_at "go"
    refine k_ixL (SqL.of hb) (at_in b0 bL) ?_
    walk_at "go"
    refine k_setL hb (ixN_in a0 (by rw [List.length_map]; exact aL)) ?_
    walk_at "go"
    refine q _ ((Ext.refl (M := [p]) s).mutM (by simp) gp) ?_
    rw [upd_same, mvI_eq, if_neg hs, List.map_set]
/-- the worths behind all, or the first that can't be -/
def spMoved (K : PySem.W.Frag) : Sp := fun vs H Q E => ∃ (G : Hp) (wl : Addr) (ws : List Int) (l : Addr) (ms : List (List V)), vs = [.ref wl, .ref l] ∧ Same G H ∧ SqL K G wl (ws.map V.int) ∧ 1 ≤ ws.length ∧ ws.length ≤ 10 ∧ MsAt K G l ms ∧ (∀ m, m ∈ ms → Wf m) ∧ ms.length ≤ 1000 ∧
  (((∀ m, m ∈ ms → canBe (ws.length : Nat) m = true) ∧ ∀ (p : Addr) (G1 H1 : Hp), Ext [] G H G1 H1 → H p = none → G1 p = some (.lst ((ms.foldl mvI ws).map V.int)) → Q (.ref p) H1) ∨
   ∃ (k : Nat) (m : List V), ms[k]? = some m ∧ canBe (ws.length : Nat) m = false ∧ (∀ i m', i < k → ms[i]? = some m' → canBe (ws.length : Nat) m' = true) ∧ ∀ (H1 : Hp) (dd : Addr), Ext [] G H G H1 → H1 dd = none → E (.ref (He.ga K "BadMove")) (some dd) (upd H1 dd (.xd [("number", .int (k : Nat))])))
theorem pure_moved (vs : List V) (Q : VK) (E : XK) (h : spMoved K vs H Q E) : t_moved K w MV.spCheckBoxes (spCheckMoves K) (spDoMove K) E { nx := fun _ H1 => Q .non H1, rt := Q } (start ["worths", "moves", "held", "move"] vs) H := by
  obtain ⟨G, wl, ws, l, ms, rfl, s, hw, w1, w10, ma, wf, h1000, q⟩ := h
  unfold t_moved
  walk_at "go"
  refine k_len (.inl (s.seq hw)) ?_
  walk_at "go"
  rw [List.length_map]
  refine ⟨_, rfl, by omega, by omega, ?_⟩
  walk_at "go"
  refine k_len (.inl (s.seq hw)) ?_
  walk_at "go"
  rw [List.length_map]
  refine ⟨G, _, l, ms, rfl, s, ma, wf, h1000, ?_⟩
  rcases q with ⟨qa, qn⟩ | q
  · refine .inl ⟨qa, fun H1 e1 => ?_⟩
    obtain ⟨ts, hx, hl, ht⟩ := ma.ex
    walk_at "go"
    refine ⟨wl, _, rfl, .inl (e1.s.seq hw), fun p hp => ?_⟩
    have e2 := e1.tmp (o := .lst (ws.map V.int)) hp
    have gp : G p = none := e1.s.free hp
    have hp0 : H p = none := e1.d p hp
    walk_at "go"
    refine ⟨l, rfl, ⟨_, e2.s.seq hx⟩, ?_⟩
    refine forL (M := [p]) e2.s hx (fun i σ1 G1 H1 => G1 = G ∧ (∃ x3, σ1 = [some (.ref wl), some (.ref l), some (.ref p), x3]) ∧ H1 p = some (.lst (((ms.take i).foldl mvI ws).map V.int)))
      ⟨rfl, ⟨none, rfl⟩, upd_same⟩ (fun i x σ1 G1 H1 hi ex e ⟨eG, ⟨x3, es⟩, hb⟩ => ?_) (fun σ1 G1 H1 e ⟨eG, ⟨x3, es⟩, hb⟩ => ?_)
    · subst eG es
      rw [List.length_map] at hi
      have hm : i < ms.length := by omega
      rw [List.getElem?_map, List.getElem?_eq_getElem hi] at ex
      have ex2 : V.ref ts[i] = x := Option.some.inj ex
      subst ex2
      have em : ms[i]? = some ms[i] := List.getElem?_eq_getElem hm
      have hti := ht i ts[i] ms[i] (List.getElem?_eq_getElem hi) em
      have step := take_fold mvI (b := ws) em
      have wl2 : ((ms.take i).foldl mvI ws).length = ws.length := mvs_len _ _
      walk_at "go"
      refine ⟨G1, p, ts[i], ms[i], _, rfl, e.s, gp, hti, by rw [wl2]; exact qa _ (List.getElem_mem hm), hb, fun H3 e3 h3 => ?_⟩
      walk_at "go"
      exact ⟨G1, e3, rfl, ⟨_, rfl⟩, by rw [step]; exact h3⟩
    · subst eG es
      rw [List.length_map, hl, List.take_length] at hb
      walk_at "go"
      have e3 := (e2.fin e (fun x hx2 => by rw [List.mem_singleton.mp hx2]; exact .inr hp0)).frz hp0 gp hb
      exact qn p _ _ e3 hp0 upd_same
  · obtain ⟨k, m, ek, ck, hk, qe⟩ := q
    exact .inr ⟨k, m, ek, ck, hk, qe⟩
end
end CX
namespace CX
open PySem PySem.Spec PyProof.Rows L2 MV
local macro_rules | `(tactic| walk_at "go") => `(tactic| repeat (first
  | with_reducible refine MV.k_seq ?_ | with_reducible refine MV.k_asg ?_ | with_reducible refine MV.k_name ?_ | with_reducible refine MV.k_op ?_ | ((with_reducible apply MV.k_var); exact rfl) | with_reducible refine MV.k_c ?_
  | with_reducible refine MV.k_add ?_ | with_reducible refine MV.k_sub ?_ | with_reducible refine MV.k_lt ?_ | with_reducible refine MV.k_le ?_ | with_reducible refine MV.k_gt ?_ | with_reducible refine MV.k_ge ?_ | with_reducible refine MV.k_eqI ?_ | with_reducible refine MV.k_neI ?_
  | with_reducible refine MV.k_test ?_ | with_reducible refine MV.k_B ?_ | with_reducible refine MV.k_bl ?_ | with_reducible refine MV.k_blV ?_ | with_reducible refine MV.k_and ?_ | with_reducible refine MV.k_or ?_ | with_reducible refine MV.k_not ?_ | with_reducible refine MV.k_andV ?_ | with_reducible refine MV.k_orV ?_ | with_reducible refine MV.k_notV ?_
  | with_reducible refine MV.k_if ?_ | with_reducible refine MV.k_tru ?_ | with_reducible refine MV.k_chain ?_ | with_reducible refine MV.k_next ?_ | with_reducible refine MV.k_drop ?_ | with_reducible refine MV.k_ret ?_ | with_reducible refine MV.k_retN ?_ | with_reducible refine MV.k_ifS ?_ | with_reducible refine MV.k_brk ?_ | with_reducible refine MV.k_cont ?_
  | with_reducible refine MV.k_nil ?_ | with_reducible refine MV.k_cons ?_ | with_reducible refine MV.k_tup ?_ | with_reducible refine MV.k_lst ?_ | with_reducible refine MV.k_cb ?_ | with_reducible refine MV.k_call ?_ | with_reducible refine MV.k_gnil ?_ | with_reducible refine MV.k_gcons ?_ | with_reducible refine MV.k_gsub ?_
  | with_reducible refine MV.k_bm ?_ | with_reducible refine MV.k_bm0 ?_ | with_reducible refine MV.k_un ?_ | with_reducible refine MV.k_neg ?_ | with_reducible refine MV.k_isN ?_ | with_reducible refine MV.k_notN ?_ | with_reducible refine L2.iteT ?_ | with_reducible refine L2.iteF ?_
  | with_reducible refine MV.k_iList ?_ | with_reducible refine MV.k_iTup ?_ | with_reducible refine MV.k_iRng1 ?_ | with_reducible refine MV.k_lc ?_ | with_reducible refine MV.k_for ?_
  | with_reducible refine MV.k_yes ?_ | with_reducible refine MV.k_dput ?_ | with_reducible refine MV.k_dget ?_ | with_reducible refine MV.k_dget1 ?_ | with_reducible refine MV.k_sl ?_ | with_reducible refine MV.k_nopart ?_ | with_reducible refine MV.k_part ?_ | with_reducible refine MV.k_pint ?_ | with_reducible refine MV.k_dnew ?_ | with_reducible refine MV.k_lstRg ?_ | with_reducible refine MV.k_rg1 ?_
  | with_reducible refine CX.k_callS ?_ | with_reducible refine CX.k_iEnum ?_))
def t_check_lead (K : PySem.W.Frag) (w : World) (s_check_boxes : Sp) (s_is_box : Sp) (E : XK) : TS :=
  (tSeq (tDrop (tCallS s_check_boxes (WE (fun cls d _ H => E cls d H)) (tCons (tVar 0) tNil)))
    (tSeq (tAsg (tCB (rSet0 w) tNil) (gName 2))
    (tFor (iList K (tVar 1)) (gName 3) (tSeq (tIfS (tTest (tOp rNe (tCB (vLen K) (tCons (tVar 3) tNil)) (tC (.int 2)))) (EX.tRaiseOwn (He.ga K "BadLead") (fun cls d _ H => E cls d H)) tNext)
    (tSeq (tAsg (tVar 3) (gTup K 2 (gCons (gName 4) (gCons (gName 5) gNil))))
    (tSeq (tIfS (tOr (tNot (tB (tCall s_is_box [] E0 (tCons (tVar 0) (tCons (tVar 4) tNil))))) (tNot (tB (tCall s_is_box [] E0 (tCons (tVar 0) (tCons (tVar 5) tNil)))))) (EX.tRaiseOwn (He.ga K "BadLead") (fun cls d _ H => E cls d H)) tNext)
    (tSeq (tIfS (tTest (tOp (rSIn w) (tVar 4) (tVar 2))) (EX.tRaiseOwn (He.ga K "BadLead") (fun cls d _ H => E cls d H)) tNext)
    (tDrop (tSAdd w (tVar 2) (tCons (tVar 4) tNil))))))))))
def t_at_once (K : PySem.W.Frag) (w : World) (s_check_lead : Sp) (E : XK) : TS :=
  (tSeq (tDrop (tCallS s_check_lead (WE (fun cls d _ H => E cls d H)) (tCons (tCB (vLen K) (tCons (tVar 0) tNil)) (tCons (tVar 1) tNil))))
    (tSeq (tAsg (tCB (vListOf K) (tCons (tVar 0) tNil)) (gName 2))
    (tSeq (tFor (iList K (tVar 1)) (gTup K 2 (gCons (gName 3) (gCons (gName 4) gNil))) (tAsg (tOp (rIxL K) (tVar 0) (tVar 4)) (gSub (tVar 2) (tVar 3) rSetL)))
    (tRet (tVar 2)))))
def t_check_spares (K : PySem.W.Frag) (w : World) (s_real_pairs : Sp) (s_is_box : Sp) (E : XK) : TS :=
  (tSeq (tAsg (tLc2 (iList K (tCall s_real_pairs [] E0 (tCons (tVar 1) tNil))) (gName 6) tYes (iTup K (tVar 6)) (gName 7) tYes (tVar 7) [6, 7] [7]) (gName 3))
    (tFor (iEnum K (tCons (tVar 2) tNil)) (gTup K 2 (gCons (gName 4) (gCons (gName 5) gNil))) (tSeq (tIfS (tNot (tB (tCall s_is_box [] E0 (tCons (tVar 0) (tCons (tVar 5) tNil))))) (EX.tRaiseOwn (He.ga K "BadSpare") (fun cls d _ H => E cls d H)) tNext)
    (tSeq (tIfS (tTest (tOp (rIn K false) (tVar 5) (tVar 3))) (EX.tRaiseOwn (He.ga K "BadSpare") (fun cls d _ H => E cls d H)) tNext)
    (tIfS (tTest (tOp (rIn K false) (tVar 5) (tSl (rSlL K) (tVar 2) tNoPart (tPart (tVar 4))))) (EX.tRaiseOwn (He.ga K "BadSpare") (fun cls d _ H => E cls d H)) tNext)))))
def t_does (K : PySem.W.Frag) (w : World) (s_check_lead : Sp) (s_check_spares : Sp) (s_at_once : Sp) (s_moved : Sp) (E : XK) : TS :=
  (tSeq (tDrop (tCallS s_check_lead (WE (fun cls d _ H => E cls d H)) (tCons (tVar 0) (tCons (tVar 1) tNil))))
    (tSeq (tDrop (tCallS s_check_spares (WE (fun cls d _ H => E cls d H)) (tCons (tVar 0) (tCons (tVar 1) (tCons (tVar 2) tNil)))))
    (tSeq (tAsg (tLstRg (tRg1 (tVar 0))) (gName 4))
    (tSeq (tAsg (tCallS s_at_once (WE (fun cls d _ H => E cls d H)) (tCons (tVar 4) (tCons (tVar 1) tNil))) (gName 5))
    (tSeq (tAsg (tCallS s_moved (WE (fun cls d _ H => E cls d H)) (tCons (tVar 4) (tCons (tVar 3) tNil))) (gName 6))
    (tRet (tCB (rAll K) (tCons (tLc (iRng1 (tCons (tVar 0) tNil)) (gName 7) (tTest (tOp (rIn K true) (tVar 7) (tVar 2))) (tOp rEq (tOp (rIxL K) (tVar 6) (tVar 7)) (tOp (rIxL K) (tVar 5) (tVar 7))) [7]) tNil))))))))
section
variable {K : PySem.W.Frag} {w : World} {H : Hp}
theorem pure_check_lead (vs : List V) (Q : VK) (E : XK) (h : MV.spCheckLead K vs H Q E) : t_check_lead K w MV.spCheckBoxes spIsBox E { nx := fun _ H1 => Q .non H1, rt := Q } (start ["boxes", "lead", "goals", "pair", "goal", "source"] vs) H := by
  obtain ⟨G, n, l, ld, rfl, s, n1, n10, ⟨xs, hx, hd⟩, gm, q⟩ := h
  have ll : xs.length = ld.length := by rw [dpAll_len hd, List.length_map]
  have l10 : ld.length ≤ 10 := by have := gm.len; omega
  unfold t_check_lead
  walk_at "go"
  refine ⟨n, rfl, n1, n10, ?_⟩
  walk_at "go"
  refine ⟨rfl, fun gs ngs => ?_⟩
  have e0 := (Ext.refl (M := []) s).tmp (o := SetO w gs (fun _ => false) 0) ngs
  have gg : G gs = none := s.free ngs
  walk_at "go"
  refine ⟨_, rfl, ⟨_, e0.s.seq hx⟩, ?_⟩
  refine forL (M := [gs]) e0.s hx (fun i σ1 G1 H1 => G1 = G ∧ ∃ (x3 x4 x5 : Option V) (S : Int → Bool) (k : Nat), σ1 = [some (.int n), some (.ref l), some (.ref gs), x3, x4, x5] ∧ H1 gs = some (SetO w gs S k) ∧ k ≤ i ∧ ∀ z, S z = decide (z ∈ (ld.take i).map (·.1)))
    ⟨rfl, none, none, none, _, 0, rfl, upd_same, Nat.le_refl _, fun z => by simp⟩ (fun i x σ1 G1 H1 hi ex e ⟨eG, x3, x4, x5, S, k, es, hS, hk, hz⟩ => ?_) (fun σ1 G1 H1 e ⟨eG, x3, x4, x5, S, k, es, hS, hk, hz⟩ => ?_)
  · subst eG es
    obtain ⟨t, p, ep, rfl, ht⟩ := pair_at hd ex
    have ht1 : SqT K H1 t [.int p.1, .int p.2] := sqT_mono e.s ht
    have hp : p ∈ ld := List.mem_of_getElem? ep
    have r := gm.rg p hp
    walk_at "go"
    refine k_len (.inr ht1) ?_
    walk_at "go"
    refine k_nfalse rfl ?_
    walk_at "go"
    refine k_tupN ht1 rfl ?_
    walk_at "go"
    refine ⟨n, p.1, rfl, ?_⟩
    walk_at "go"
    rw [decide_eq_true (show 0 ≤ p.1 ∧ p.1 < n by omega)]
    refine iteF ?_
    walk_at "go"
    refine ⟨n, p.2, rfl, ?_⟩
    walk_at "go"
    rw [decide_eq_true (show 0 ≤ p.2 ∧ p.2 < n by omega)]
    refine iteF ?_
    walk_at "go"
    refine ⟨p.1, gs, S, k, rfl, rfl, hS, ?_⟩
    walk_at "go"
    have hno : S p.1 = false := by
      rw [hz]
      refine decide_eq_false fun m => ?_
      have nd := gm.nd
      have e2 : ld = ld.take i ++ p :: ld.drop (i + 1) := by
        have hi' : i < ld.length := (List.getElem?_eq_some_iff.mp ep).1
        have e3 : ld[i] = p := (List.getElem?_eq_some_iff.mp ep).2
        rw [← e3, ← List.drop_eq_getElem_cons hi', List.take_append_drop]
      rw [e2, List.map_append, List.map_cons] at nd
      exact (List.nodup_append.mp nd).2.2 _ m _ (List.mem_cons_self ..) rfl
    rw [hno]
    refine iteF ?_
    walk_at "go"
    show tVar 2 _ _ _
    walk_at "go"
    refine ⟨⟨gs, S, k, rfl, hS⟩, ?_⟩
    walk_at "go"
    refine ⟨gs, p.1, S, k, rfl, rfl, hS, by unfold scanBound; omega, ?_⟩
    refine ⟨G1, (Ext.refl e.s).mutM (by simp) gg, rfl, _, _, _, _, _, rfl, upd_same, by split <;> omega, fun z => ?_⟩
    rw [hz, List.take_add_one, ep, List.map_append]
    show (decide (z ∈ (ld.take i).map (·.1)) || decide (z = p.1)) = decide (z ∈ (ld.take i).map (·.1) ++ [p.1])
    by_cases m1 : z ∈ (ld.take i).map (·.1)
    · rw [decide_eq_true m1, decide_eq_true (List.mem_append_left _ m1)]; rfl
    · by_cases m2 : z = p.1
      · rw [decide_eq_true m2, decide_eq_true (List.mem_append_right _ (List.mem_singleton.mpr m2)), Bool.or_true]
      · rw [decide_eq_false m1, decide_eq_false m2, decide_eq_false fun y => (List.mem_append.mp y).elim m1 fun y => m2 (List.mem_singleton.mp y)]; rfl
  · subst eG es
    exact q _ (e0.fin e (by simp [ngs]))
/-! ### at_once of a good lead -/
def leadI (ws cur : List Int) : Lead → List Int
  | [] => cur
  | p :: r => leadI ws (cur.set p.1.toNat (ws.getD p.2.toNat 0)) r
def spAtOnce (K : PySem.W.Frag) : Sp := fun vs H Q _ => ∃ (G : Hp) (wl : Addr) (ws : List Int) (l : Addr) (ld : Lead), vs = [.ref wl, .ref l] ∧ Same G H ∧ SqL K G wl (ws.map V.int) ∧ 1 ≤ ws.length ∧ ws.length ≤ 10 ∧ LeadAt K G l ld ∧ GoodM (ws.length : Nat) ld ∧
  ∀ (p : Addr) (G1 H1 : Hp), Ext [] G H G1 H1 → H p = none → G1 p = some (.lst ((leadI ws ws ld).map V.int)) → Q (.ref p) H1
theorem leadI_app (ws : List Int) : ∀ (a : Lead) (cur : List Int) (p : Int × Int), leadI ws cur (a ++ [p]) = (leadI ws cur a).set p.1.toNat (ws.getD p.2.toNat 0)
  | [], cur, p => rfl
  | q :: r, cur, p => leadI_app ws r _ p
theorem leadI_len (ws : List Int) : ∀ (a : Lead) (cur : List Int), (leadI ws cur a).length = cur.length
  | [], cur => rfl
  | q :: r, cur => by
    show (leadI ws (cur.set _ _) r).length = _
    rw [leadI_len ws r, List.length_set]
theorem pure_at_once (vs : List V) (Q : VK) (E : XK) (h : spAtOnce K vs H Q E) : t_at_once K w (MV.spCheckLead K) E { nx := fun _ H1 => Q .non H1, rt := Q } (start ["worths", "lead", "held", "goal", "source"] vs) H := by
  obtain ⟨G, wl, ws, l, ld, rfl, s, hw, w1, w10, la, gm, q⟩ := h
  unfold t_at_once
  walk_at "go"
  refine k_len (.inl (s.seq hw)) ?_
  walk_at "go"
  rw [List.length_map]
  refine ⟨G, _, l, ld, rfl, s, by omega, by omega, la, gm, fun H1 e1 => ?_⟩
  obtain ⟨xs, hx, hd⟩ := la.ex
  have ll : xs.length = ld.length := by rw [dpAll_len hd, List.length_map]
  walk_at "go"
  refine ⟨wl, _, rfl, .inl (e1.s.seq hw), fun p hp => ?_⟩
  have e2 := e1.tmp (o := .lst (ws.map V.int)) hp
  have gp : G p = none := e1.s.free hp
  have hp0 : H p = none := e1.d p hp
  walk_at "go"
  refine ⟨l, rfl, ⟨_, e2.s.seq hx⟩, ?_⟩
  refine forL (M := [p]) e2.s hx (fun i σ1 G1 H1 => G1 = G ∧ (∃ x3 x4, σ1 = [some (.ref wl), some (.ref l), some (.ref p), x3, x4]) ∧ H1 p = some (.lst ((leadI ws ws (ld.take i)).map V.int)))
    ⟨rfl, ⟨none, none, rfl⟩, upd_same⟩ (fun i x σ1 G1 H1 hi ex e ⟨eG, ⟨x3, x4, es⟩, hb⟩ => ?_) (fun σ1 G1 H1 e ⟨eG, ⟨x3, x4, es⟩, hb⟩ => ?_)
  · subst eG es
    obtain ⟨t, pr, ep, rfl, ht⟩ := pair_at hd ex
    have ht1 : SqT K H1 t [.int pr.1, .int pr.2] := sqT_mono e.s ht
    have r := gm.rg pr (List.mem_of_getElem? ep)
    have cl : (leadI ws ws (ld.take i)).length = ws.length := leadI_len _ _ _
    refine k_tupN ht1 rfl ?_
    walk_at "go"
    refine k_ixL (e.s.seq hw) (at_in r.2.2.1 r.2.2.2) ?_
    walk_at "go"
    refine k_setL hb (ixN_in r.1 (by rw [List.length_map, cl]; exact r.2.1)) ?_
    walk_at "go"
    refine ⟨G1, (Ext.refl (M := [p]) e.s).mutM (by simp) gp, rfl, ⟨_, _, rfl⟩, ?_⟩
    rw [upd_same, List.take_add_one, ep]
    show some (HO.lst _) = some (.lst ((leadI ws ws (ld.take i ++ [pr])).map V.int))
    rw [leadI_app, List.map_set]
  · subst eG es
    rw [ll, List.take_length] at hb
    walk_at "go"
    have e3 := (e2.fin e (fun x hx2 => by rw [List.mem_singleton.mp hx2]; exact .inr hp0)).frz hp0 gp hb
    exact q p _ _ e3 hp0 upd_same
/-! ### no spares beside the empty lead -/
def spCheckSpares0 (K : PySem.W.Frag) : Sp := fun vs H Q _ => ∃ (G : Hp) (n : Int) (l sp : Addr), vs = [.int n, .ref l, .ref sp] ∧ Same G H ∧ LeadAt K G l [] ∧ SqL K G sp [] ∧ ∀ H1, Ext [] G H G H1 → Q .non H1
theorem pure_check_spares0 (vs : List V) (Q : VK) (E : XK) (h : spCheckSpares0 K vs H Q E) : t_check_spares K w (MV.spRealPairs K) MV.spIsBox E { nx := fun _ H1 => Q .non H1, rt := Q } (start ["boxes", "lead", "spares", "busy", "place", "spare", "pair", "box"] vs) H := by
  obtain ⟨G, n, l, sp, rfl, s, la, hsp, q⟩ := h
  unfold t_check_spares
  walk_at "go"
  refine ⟨_, rfl, G, l, [], rfl, s, la, Nat.zero_le _, fun p ts G1 H1 e1 hp g1 pr => ?_⟩
  have ets : ts = [] := by cases pr; rfl
  subst ets
  have h1 : H1 p = some (.lst []) := e1.s _ _ g1
  refine ⟨p, rfl, ⟨[], SqL.of h1⟩, fun D hD => ⟨fun i m H2 => i = 0 ∧ H2 = upd H1 D (.lst []), ⟨0, rfl, rfl⟩, ?_⟩⟩
  rintro i m H2 ⟨rfl, rfl⟩
  have e2 := (e1.back s).tmp (o := .lst []) hD
  refine .inl ⟨⟨[], SqL.of (by rw [upd_ne (ne_of_none h1 hD)]; exact h1), Nat.le_refl _⟩, ?_⟩
  walk_at "go"
  refine ⟨sp, [], rfl, e2.s.seq hsp, ?_⟩
  refine forE (M := []) e2.s hsp (fun i σ1 G1 H1 => G1 = G) rfl (fun i x T σ1 G1 H1 hi => absurd hi (Nat.not_lt_zero _)) (fun σ1 G1 H1 e eG => ?_)
  subst eG
  exact q _ (e2.fin e (fun _ z => nomatch z))
/-- does, refused by the moves -/
def spDoes0 (K : PySem.W.Frag) : Sp := fun vs H Q E => ∃ (G : Hp) (n : Nat) (l sp ml : Addr) (ms : List (List V)), vs = [.int n, .ref l, .ref sp, .ref ml] ∧ Same G H ∧ 1 ≤ n ∧ n ≤ 10 ∧ LeadAt K G l [] ∧ SqL K G sp [] ∧ MsAt K G ml ms ∧ (∀ m, m ∈ ms → Wf m) ∧ ms.length ≤ 1000 ∧
  ∃ (k : Nat) (m : List V), ms[k]? = some m ∧ canBe n m = false ∧ (∀ i m', i < k → ms[i]? = some m' → canBe n m' = true) ∧ ∀ (G1 H1 : Hp) (dd : Addr), Ext [] G H G1 H1 → H1 dd = none → E (.ref (He.ga K "BadMove")) (some dd) (upd H1 dd (.xd [("number", .int (k : Nat))]))
theorem pure_does0 (vs : List V) (Q : VK) (E : XK) (h : spDoes0 K vs H Q E) : t_does K w (MV.spCheckLead K) (spCheckSpares0 K) (spAtOnce K) (spMoved K) E { nx := fun _ H1 => Q .non H1, rt := Q } (start ["boxes", "lead", "spares", "moves", "worths", "wanted", "held", "box"] vs) H := by
  obtain ⟨G, n, l, sp, ml, ms, rfl, s, n1, n10, la, hsp, ma, wf, h1000, k, m, ek, ck, hk, q⟩ := h
  have gm : GoodM (n : Nat) [] := ⟨fun p hp => (nomatch hp), List.nodup_nil⟩
  unfold t_does
  walk_at "go"
  refine ⟨G, n, l, [], rfl, s, by omega, by omega, la, gm, fun H1 e1 => ?_⟩
  walk_at "go"
  refine ⟨G, n, l, sp, rfl, e1.s, la, hsp, fun H2 e2 => ?_⟩
  walk_at "go"
  refine ⟨by unfold RgOk; omega, fun wl hwl => ?_⟩
  have e12 := e1.trans e2
  have e3 := e12.new (o := .lst (rgV 0 n)) hwl
  have ew : rgV 0 (n : Int) = (rangeI n).map V.int := by rw [rgV_ints]; simp
  rw [ew] at e3
  have hw3 : (upd G wl (.lst ((rangeI n).map V.int))) wl = some (.lst ((rangeI n).map V.int)) := upd_same
  have len : (rangeI n).length = n := by simp [rangeI]
  rw [ew]
  have la3 := la.mono e3.g
  have ma3 := ma.mono e3.g
  generalize upd G wl (.lst ((rangeI n).map V.int)) = G3 at *
  generalize upd H2 wl (.lst ((rangeI n).map V.int)) = H3 at *
  walk_at "go"
  refine ⟨G3, wl, rangeI n, l, [], rfl, e3.s, SqL.of hw3, by omega, by omega, la3, by rw [len]; exact gm, fun p G4 H4 e4 hp g4 => ?_⟩
  walk_at "go"
  refine ⟨G4, wl, rangeI n, ml, ms, rfl, e4.s, SqL.of (e4.g _ _ hw3), by omega, by omega, ma3.mono e4.g, wf, h1000, .inr ⟨k, m, ek, by rw [len]; exact ck, fun i m' h1 h2 => by rw [len]; exact hk i m' h1 h2, fun H5 dd e5 hdd => ?_⟩⟩
  exact q _ H5 dd ((e3.trans e4).trans e5) hdd
end
end CX
namespace CX
open PySem PySem.Spec PyProof.Rows L2 MV
local macro_rules | `(tactic| walk_at "go") => `(tactic| repeat (first
  | with_reducible refine MV.k_seq ?_ | with_reducible refine MV.k_asg ?_ | with_reducible refine MV.k_name ?_ | with_reducible refine MV.k_op ?_ | ((with_reducible apply MV.k_var); exact rfl) | with_reducible refine MV.k_c ?_
  | with_reducible refine MV.k_add ?_ | with_reducible refine MV.k_sub ?_ | with_reducible refine MV.k_lt ?_ | with_reducible refine MV.k_le ?_ | with_reducible refine MV.k_gt ?_ | with_reducible refine MV.k_ge ?_ | with_reducible refine MV.k_eqI ?_ | with_reducible refine MV.k_neI ?_
  | with_reducible refine MV.k_test ?_ | with_reducible refine MV.k_B ?_ | with_reducible refine MV.k_bl ?_ | with_reducible refine MV.k_blV ?_ | with_reducible refine MV.k_and ?_ | with_reducible refine MV.k_or ?_ | with_reducible refine MV.k_not ?_ | with_reducible refine MV.k_andV ?_ | with_reducible refine MV.k_orV ?_ | with_reducible refine MV.k_notV ?_
  | with_reducible refine MV.k_if ?_ | with_reducible refine MV.k_tru ?_ | with_reducible refine MV.k_chain ?_ | with_reducible refine MV.k_next ?_ | with_reducible refine MV.k_drop ?_ | with_reducible refine MV.k_ret ?_ | with_reducible refine MV.k_retN ?_ | with_reducible refine MV.k_ifS ?_ | with_reducible refine MV.k_brk ?_ | with_reducible refine MV.k_cont ?_
  | with_reducible refine MV.k_nil ?_ | with_reducible refine MV.k_cons ?_ | with_reducible refine MV.k_tup ?_ | with_reducible refine MV.k_lst ?_ | with_reducible refine MV.k_cb ?_ | with_reducible refine MV.k_call ?_ | with_reducible refine MV.k_gnil ?_ | with_reducible refine MV.k_gcons ?_ | with_reducible refine MV.k_gsub ?_
  | with_reducible refine MV.k_bm ?_ | with_reducible refine MV.k_bm0 ?_ | with_reducible refine MV.k_un ?_ | with_reducible refine MV.k_neg ?_ | with_reducible refine MV.k_isN ?_ | with_reducible refine MV.k_notN ?_ | with_reducible refine L2.iteT ?_ | with_reducible refine L2.iteF ?_
  | with_reducible refine MV.k_iList ?_ | with_reducible refine MV.k_iTup ?_ | with_reducible refine MV.k_iRng1 ?_ | with_reducible refine MV.k_lc ?_ | with_reducible refine MV.k_for ?_
  | with_reducible refine MV.k_yes ?_ | with_reducible refine MV.k_dput ?_ | with_reducible refine MV.k_dget ?_ | with_reducible refine MV.k_dget1 ?_ | with_reducible refine MV.k_sl ?_ | with_reducible refine MV.k_nopart ?_ | with_reducible refine MV.k_part ?_ | with_reducible refine MV.k_pint ?_ | with_reducible refine MV.k_dnew ?_ | with_reducible refine MV.k_lstRg ?_ | with_reducible refine MV.k_rg1 ?_
  | with_reducible refine CX.k_callS ?_ | with_reducible refine CX.k_iEnum ?_))
def t__law_far (K : PySem.W.Frag) (w : World) (s__law_drawn : Sp) : TS :=
  (tSeq (tAsg (tOp (rIxL K) (tLst (tCons (tC (.int 1)) (tCons (tC (.int 20)) (tCons (tOp vPow (tC (.int 10)) (tC (.int 29))) tNil)))) (tCall s__law_drawn [] E0 (tCons (tVar 0) (tCons (tC (.int 3)) tNil)))) (gName 2))
    (tRet (tOp (rIxL K) (tLst (tCons (tOp vSub (tOp vSub (tC (.int 0)) (tC (.int 1))) (tCall s__law_drawn [] E0 (tCons (tVar 0) (tCons (tVar 2) tNil)))) (tCons (tOp vAdd (tOp vAdd (tVar 1) (tC (.int 1))) (tCall s__law_drawn [] E0 (tCons (tVar 0) (tCons (tVar 2) tNil)))) tNil))) (tCall s__law_drawn [] E0 (tCons (tVar 0) (tCons (tC (.int 2)) tNil))))))
def t__law_worths (K : PySem.W.Frag) (w : World) (s__law_drawn : Sp) : TS :=
  (tSeq (tAsg (tOp (rIxL K) (tLst (tCons (tC (.int 5)) (tCons (tC (.int 100)) (tCons (tOp vPow (tC (.int 10)) (tC (.int 29))) tNil)))) (tCall s__law_drawn [] E0 (tCons (tVar 0) (tCons (tC (.int 3)) tNil)))) (gName 2))
    (tRet (tLc (iRng1 (tCons (tVar 1) tNil)) (gName 3) tYes (tOp vSub (tCall s__law_drawn [] E0 (tCons (tVar 0) (tCons (tVar 2) tNil))) (tOp vMul (tCall s__law_drawn [] E0 (tCons (tVar 0) (tCons (tC (.int 2)) tNil))) (tVar 2))) [3])))
def t__law_moved (K : PySem.W.Frag) (w : World) : TS :=
  (tSeq (tAsg (tCB (vListOf K) (tCons (tVar 0) tNil)) (gName 2))
    (tSeq (tFor (iList K (tVar 1)) (gTup K 3 (gCons (gName 3) (gCons (gName 4) (gCons (gName 5) gNil)))) (tIfS (tTest (tOp rEq (tVar 3) (tC (.str "copy")))) (tAsg (tOp (rIxL K) (tVar 2) (tVar 5)) (gSub (tVar 2) (tVar 4) rSetL)) (tSeq (tAsg (tOp (rIxL K) (tVar 2) (tVar 4)) (gName 6))
    (tSeq (tAsg (tOp (rIxL K) (tVar 2) (tVar 5)) (gSub (tVar 2) (tVar 4) rSetL))
    (tAsg (tVar 6) (gSub (tVar 2) (tVar 5) rSetL))))))
    (tRet (tVar 2))))
def t__law_move (K : PySem.W.Frag) (w : World) (s__law_drawn : Sp) : TS :=
  (tSeq (tAsg (tCall s__law_drawn [] E0 (tCons (tVar 0) (tCons (tVar 1) tNil))) (gName 2))
    (tSeq (tAsg (tOp vMod (tOp vAdd (tOp vAdd (tVar 2) (tC (.int 1))) (tCall s__law_drawn [] E0 (tCons (tVar 0) (tCons (tOp vSub (tVar 1) (tC (.int 1))) tNil)))) (tVar 1)) (gName 3))
    (tRet (tTup (tCons (tOp (rIxL K) (tLst (tCons (tC (.str "copy")) (tCons (tC (.str "swap")) tNil))) (tCall s__law_drawn [] E0 (tCons (tVar 0) (tCons (tC (.int 2)) tNil)))) (tCons (tVar 2) (tCons (tVar 3) tNil)))))))
section
variable {K : PySem.W.Frag} {w : World} {H : Hp}
/-- a number of no box -/
def spFar (K : PySem.W.Frag) : Sp := fun vs H Q _ => ∃ (c a : Addr) (ns : List Int) (G : Hp) (most : Int), vs = [.ref a, .int most] ∧ Dr K c a ns G H ∧ 0 ≤ most ∧
  ∀ (x : Int) (G1 H1 : Hp), Ext [a] G H G1 H1 → Dr K c a ns G1 H1 → (x < 0 ∨ most < x) → Q (.int x) H1
theorem ten29 : (10 : Int) ^ (29 : Int).toNat < 2 ^ 200 ∧ 0 < (10 : Int) ^ (29 : Int).toNat := by decide +kernel
theorem pure_far (vs : List V) (Q : VK) (E : XK) (h : spFar K vs H Q E) : t__law_far K w (spDrawn K) { nx := fun _ H1 => Q .non H1, rt := Q } (start ["_law_state", "_law_most", "_law_far_here"] vs) H := by
  obtain ⟨c, a, ns, G, most, rfl, d, m0, q⟩ := h
  unfold t__law_far
  walk_at "go"
  refine k_pow (by unfold CPow; decide) ?_
  walk_at "go"
  refine ⟨sz1 (by simp), fun p hp => ?_⟩
  walk_at "go"
  have d1 := d.tmp (o := .lst [.int 1, .int 20, .int (10 ^ (29 : Int).toNat)]) hp
  have e1 : Ext [a] G H G _ := (Ext.refl d.s).tmp (o := .lst [.int 1, .int 20, .int (10 ^ (29 : Int).toNat)]) hp
  refine d1.draw (M := [a]) (by simp) (by decide) (by decide) fun x1 H1 x10 x11 e2 d2 k2 => ?_
  have hp1 : H1 p = some (.lst [.int 1, .int 20, .int (10 ^ (29 : Int).toNat)]) := by rw [k2 p (d.ne hp), upd_same]
  have e12 := e1.trans e2
  have fin : ∀ f : Int, 0 < f → f < 2 ^ 200 → tRet (tOp (rIxL K) (tLst (tCons (tOp vSub (tOp vSub (tC (.int 0)) (tC (.int 1))) (tCall (spDrawn K) [] E0 (tCons (tVar 0) (tCons (tVar 2) tNil)))) (tCons (tOp vAdd (tOp vAdd (tVar 1) (tC (.int 1))) (tCall (spDrawn K) [] E0 (tCons (tVar 0) (tCons (tVar 2) tNil)))) tNil))) (tCall (spDrawn K) [] E0 (tCons (tVar 0) (tCons (tC (.int 2)) tNil)))) { nx := fun _ H1 => Q .non H1, rt := Q } [some (.ref a), some (.int most), some (.int f)] H1 := by
    intro f f0 f1
    walk_at "go"
    refine d2.draw (M := [a]) (by simp) f0 f1 fun y1 H3 y10 y11 e3 d3 k3 => ?_
    walk_at "go"
    refine d3.draw (M := [a]) (by simp) f0 f1 fun y2 H4 y20 y21 e4 d4 k4 => ?_
    walk_at "go"
    refine ⟨sz1 (by simp), fun p2 hp2 => ?_⟩
    walk_at "go"
    have d5 := d4.tmp (o := .lst [.int (0 - 1 - y1), .int (most + 1 + y2)]) hp2
    have e5 : Ext [a] G H G _ := ((e12.trans e3).trans e4).tmp (o := .lst [.int (0 - 1 - y1), .int (most + 1 + y2)]) hp2
    refine d5.draw (M := [a]) (by simp) (by decide) (by decide) fun x4 H6 x40 x41 e6 d6 k6 => ?_
    have hp6 : H6 p2 = some (.lst [.int (0 - 1 - y1), .int (most + 1 + y2)]) := by rw [k6 p2 (d4.ne hp2), upd_same]
    have c4 : x4 = 0 ∨ x4 = 1 := by omega
    rcases c4 with z | z
    · subst z; exact k_ixL (SqL.of hp6) rfl (q _ _ _ (e5.trans e6) d6 (.inl (by omega)))
    · subst z; exact k_ixL (SqL.of hp6) rfl (q _ _ _ (e5.trans e6) d6 (.inr (by omega)))
  have c1 : x1 = 0 ∨ x1 = 1 ∨ x1 = 2 := by omega
  rcases c1 with z | z | z
  · subst z; exact k_ixL (SqL.of hp1) rfl (fin _ (by decide) (by decide))
  · subst z; exact k_ixL (SqL.of hp1) rfl (fin _ (by decide) (by decide))
  · subst z; exact k_ixL (SqL.of hp1) rfl (fin _ ten29.2 ten29.1)
/-- the law's own moved -/
def spLawMoved (K : PySem.W.Frag) : Sp := fun vs H Q _ => ∃ (G : Hp) (wl : Addr) (ws : List Int) (l : Addr) (ms : List (List V)), vs = [.ref wl, .ref l] ∧ Same G H ∧ SqL K G wl (ws.map V.int) ∧ ws.length ≤ 10 ∧ MsAt K G l ms ∧ (∀ m, m ∈ ms → canBe (ws.length : Nat) m = true) ∧
  ∀ (p : Addr) (G1 H1 : Hp), Ext [] G H G1 H1 → H p = none → G1 p = some (.lst ((ms.foldl mvI ws).map V.int)) → Q (.ref p) H1
theorem pure_law_moved (vs : List V) (Q : VK) (E : XK) (h : spLawMoved K vs H Q E) : t__law_moved K w { nx := fun _ H1 => Q .non H1, rt := Q } (start ["_law_worths_here", "_law_moves", "_law_found", "_law_word", "_law_one", "_law_other", "_law_had"] vs) H := by
  obtain ⟨G, wl, ws, l, ms, rfl, s, hw, w10, ma, qa, qn⟩ := h
  obtain ⟨ts, hx, hl, ht⟩ := ma.ex
  unfold t__law_moved
  walk_at "go"
  refine ⟨wl, _, rfl, .inl (s.seq hw), fun p hp => ?_⟩
  have e2 := (Ext.refl (M := []) s).tmp (o := .lst (ws.map V.int)) hp
  have gp : G p = none := s.free hp
  walk_at "go"
  refine ⟨l, rfl, ⟨_, e2.s.seq hx⟩, ?_⟩
  refine forL (M := [p]) e2.s hx (fun i σ1 G1 H1 => G1 = G ∧ (∃ x3 x4 x5 x6, σ1 = [some (.ref wl), some (.ref l), some (.ref p), x3, x4, x5, x6]) ∧ H1 p = some (.lst (((ms.take i).foldl mvI ws).map V.int)))
    ⟨rfl, ⟨none, none, none, none, rfl⟩, upd_same⟩ (fun i x σ1 G1 H1 hi ex e ⟨eG, ⟨x3, x4, x5, x6, es⟩, hb⟩ => ?_) (fun σ1 G1 H1 e ⟨eG, ⟨x3, x4, x5, x6, es⟩, hb⟩ => ?_)
  · subst eG es
    rw [List.length_map] at hi
    have hm : i < ms.length := by omega
    rw [List.getElem?_map, List.getElem?_eq_getElem hi] at ex
    have ex2 : V.ref ts[i] = x := Option.some.inj ex
    subst ex2
    have em : ms[i]? = some ms[i] := List.getElem?_eq_getElem hm
    have hti := ht i ts[i] ms[i] (List.getElem?_eq_getElem hi) em
    obtain ⟨u, a, b, em3, hu, a0, a1, b0, b1, ab⟩ := canBe_in (qa _ (List.getElem_mem hm))
    rw [em3] at hti
    have step := take_fold mvI (b := ws) em
    rw [em3] at step
    have wl2 : ((ms.take i).foldl mvI ws).length = ws.length := mvs_len _ _
    generalize (ms.take i).foldl mvI ws = cur at *
    have ht1 : SqT K H1 ts[i] [.str u, .int a, .int b] := sqT_mono e.s hti
    have aL : a < cur.length := by omega
    have bL : b < cur.length := by omega
    refine k_tupN ht1 rfl ?_
    walk_at "go"
    refine k_eq rfl ?_
    rw [dec_str]
    walk_at "go"
    by_cases hs : u = "copy"
    · have ns : ¬ u = "swap" := fun z => by rw [hs] at z; exact absurd z (by decide)
      refine k_true hs ?_
      walk_at "go"
      refine k_ixL (SqL.of hb) (at_in b0 bL) ?_
      walk_at "go"
      refine k_setL hb (ixN_in a0 (by rw [List.length_map]; exact aL)) ?_
      walk_at "go"
      refine ⟨G1, (Ext.refl (M := [p]) e.s).mutM (by simp) gp, rfl, ⟨_, _, _, _, rfl⟩, ?_⟩
      rw [step, upd_same, mvI_eq, if_neg ns, List.map_set]
    · have ys : u = "swap" := hu.elim (fun z => absurd z hs) id
      refine k_false hs ?_
      walk_at "go"
      refine k_ixL (SqL.of hb) (at_in a0 aL) ?_
      walk_at "go"
      refine k_ixL (SqL.of hb) (at_in b0 bL) ?_
      walk_at "go"
      refine k_setL hb (ixN_in a0 (by rw [List.length_map]; exact aL)) ?_
      walk_at "go"
      refine k_setL upd_same (j := b.toNat) (ixN_in b0 (by rw [List.length_set, List.length_map]; exact bL)) ?_
      walk_at "go"
      refine ⟨G1, ((Ext.refl (M := [p]) e.s).mutM (by simp) gp).mutM (by simp) gp, rfl, ⟨_, _, _, _, rfl⟩, ?_⟩
      rw [step, upd_same, mvI_eq, if_pos ys, List.map_set, List.map_set]
  · subst eG es
    rw [List.length_map, hl, List.take_length] at hb
    walk_at "go"
    have e3 := (e2.fin e (fun x hx2 => by rw [List.mem_singleton.mp hx2]; exact .inr hp)).frz hp gp hb
    exact qn p _ _ e3 hp upd_same
/-- a drawn move of two unlike boxes -/
def spLawMove (K : PySem.W.Frag) : Sp := fun vs H Q _ => ∃ (c a : Addr) (ns : List Int) (G : Hp) (n : Int), vs = [.ref a, .int n] ∧ Dr K c a ns G H ∧ 2 ≤ n ∧ n ≤ 10 ∧
  ∀ (p : Addr) (m : List V) (G1 H1 : Hp), Ext [a] G H G1 H1 → Dr K c a ns G1 H1 → H p = none → canBe n m = true → G1 p = some (.tup m) → Q (.ref p) H1
theorem other_ne {n i v : Int} (n2 : 2 ≤ n) (n10 : n ≤ 10) (i0 : 0 ≤ i) (i1 : i < n) (v0 : 0 ≤ v) (v1 : v < n - 1) : 0 ≤ (i + 1 + v) % n ∧ (i + 1 + v) % n < n ∧ i ≠ (i + 1 + v) % n := by
  have : n = 2 ∨ n = 3 ∨ n = 4 ∨ n = 5 ∨ n = 6 ∨ n = 7 ∨ n = 8 ∨ n = 9 ∨ n = 10 := by omega
  rcases this with rfl | rfl | rfl | rfl | rfl | rfl | rfl | rfl | rfl <;> omega
theorem pure_law_move (vs : List V) (Q : VK) (E : XK) (h : spLawMove K vs H Q E) : t__law_move K w (spDrawn K) { nx := fun _ H1 => Q .non H1, rt := Q } (start ["_law_state", "_law_boxes_here", "_law_one", "_law_other"] vs) H := by
  obtain ⟨c, a, ns, G, n, rfl, d, n2, n10, q⟩ := h
  unfold t__law_move
  walk_at "go"
  refine d.draw (M := [a]) (by simp) (by omega) (by omega) fun i H1 i0 i1 e1 d1 k1 => ?_
  walk_at "go"
  refine d1.draw (M := [a]) (by simp) (by omega) (by omega) fun v H2 v0 v1 e2 d2 k2 => ?_
  walk_at "go"
  refine k_mod (by omega) ?_
  obtain ⟨o0, o1, one⟩ := other_ne n2 n10 i0 i1 v0 v1
  generalize (i + 1 + v) % n = j at *
  walk_at "go"
  refine ⟨sz1 (by simp), fun p hp => ?_⟩
  walk_at "go"
  have d3 := d2.tmp (o := .lst [.str "copy", .str "swap"]) hp
  have e3 : Ext [a] G H G _ := (e1.trans e2).tmp (o := .lst [.str "copy", .str "swap"]) hp
  refine d3.draw (M := [a]) (by simp) (by decide) (by decide) fun x4 H6 x40 x41 e6 d6 k6 => ?_
  have hp6 : H6 p = some (.lst [.str "copy", .str "swap"]) := by rw [k6 p (d2.ne hp), upd_same]
  have e36 := e3.trans e6
  have can : ∀ u : Str, u = "copy" ∨ u = "swap" → canBe n [.str u, .int i, .int j] = true := fun u hu => by
    show ((decide (u = "copy") || decide (u = "swap")) && (decide (0 ≤ i ∧ i < n) && (decide (0 ≤ j ∧ j < n) && !decide (i = j)))) = true
    rw [decide_eq_true (show 0 ≤ i ∧ i < n from ⟨i0, i1⟩), decide_eq_true (show 0 ≤ j ∧ j < n from ⟨o0, o1⟩), decide_eq_false one]
    rcases hu with rfl | rfl <;> decide
  have fin : ∀ u : Str, u = "copy" ∨ u = "swap" → tCons (tVar 2) (tCons (tVar 3) tNil) [some (.ref a), some (.int n), some (.int i), some (.int j)] H6 (fun xs H2 => (V.str u :: xs).length ≤ sizeLine ∧ ∀ p, H2 p = none → Q (.ref p) (upd H2 p (.tup (V.str u :: xs)))) := fun u hu => by
    walk_at "go"
    refine ⟨sz1 (by show 3 ≤ 100000; decide), fun p2 hp2 => ?_⟩
    exact q p2 _ _ _ (e36.new hp2) (d6.new hp2) (e36.d p2 hp2) (can u hu) upd_same
  have c4 : x4 = 0 ∨ x4 = 1 := by omega
  rcases c4 with z | z
  · subst z; exact k_ixL (SqL.of hp6) rfl (fin _ (.inl rfl))
  · subst z; exact k_ixL (SqL.of hp6) rfl (fin _ (.inr rfl))
/-- drawn worths -/
def spLawWorths (K : PySem.W.Frag) : Sp := fun vs H Q _ => ∃ (c a : Addr) (ns : List Int) (G : Hp) (n : Int), vs = [.ref a, .int n] ∧ Dr K c a ns G H ∧ 1 ≤ n ∧ n ≤ 10 ∧
  ∀ (p : Addr) (ws : List Int) (G1 H1 : Hp), Ext [a] G H G1 H1 → Dr K c a ns G1 H1 → H p = none → (ws.length : Int) = n → G1 p = some (.lst (ws.map V.int)) → Q (.ref p) H1
theorem pure_law_worths (vs : List V) (Q : VK) (E : XK) (h : spLawWorths K vs H Q E) : t__law_worths K w (spDrawn K) { nx := fun _ H1 => Q .non H1, rt := Q } (start ["_law_state", "_law_boxes_here", "_law_far_here", "_law_box"] vs) H := by
  obtain ⟨c, a, ns, G, n, rfl, d, n1, n10, q⟩ := h
  unfold t__law_worths
  walk_at "go"
  refine k_pow (by unfold CPow; decide) ?_
  walk_at "go"
  refine ⟨sz1 (by simp), fun p hp => ?_⟩
  walk_at "go"
  have d1 := d.tmp (o := .lst [.int 5, .int 100, .int (10 ^ (29 : Int).toNat)]) hp
  have e1 : Ext [a] G H G _ := (Ext.refl d.s).tmp (o := .lst [.int 5, .int 100, .int (10 ^ (29 : Int).toNat)]) hp
  refine d1.draw (M := [a]) (by simp) (by decide) (by decide) fun x1 H1 x10 x11 e2 d2 k2 => ?_
  have hp1 : H1 p = some (.lst [.int 5, .int 100, .int (10 ^ (29 : Int).toNat)]) := by rw [k2 p (d.ne hp), upd_same]
  have e12 := e1.trans e2
  have fin : ∀ f : Int, 0 < f → f < 2 ^ 200 → tRet (tLc (iRng1 (tCons (tVar 1) tNil)) (gName 3) tYes (tOp vSub (tCall (spDrawn K) [] E0 (tCons (tVar 0) (tCons (tVar 2) tNil))) (tOp vMul (tCall (spDrawn K) [] E0 (tCons (tVar 0) (tCons (tC (.int 2)) tNil))) (tVar 2))) [3]) { nx := fun _ H1 => Q .non H1, rt := Q } [some (.ref a), some (.int n), some (.int f), none] H1 := by
    intro f f0 f1
    walk_at "go"
    refine ⟨_, rfl, by omega, by omega, ?_⟩
    refine lcR (M := [a]) d2.s (fun m hm => by rw [List.mem_singleton.mp hm]; exact d2.st.ne) (by omega) (fun i acc G4 H4 => Stt c a H4 ∧ ∃ zs : List Int, acc = zs.map V.int ∧ zs.length = i)
      (fun i acc G4 H4 H5 hk ⟨st, z⟩ => ⟨st.of (hk a (by simp)), z⟩) ⟨d2.st, [], rfl, rfl⟩ (fun i acc G4 H4 Ry Rn hi e4 ⟨st, zs, ea, lz⟩ hy hn => ?_) (fun D acc G4 H4 e4 hD gD hD4 hl ⟨st, zs, ea, lz⟩ => ?_)
    · have d4 := d2.next e4 st
      walk_at "go"
      refine ⟨rfl, ?_⟩
      walk_at "go"
      refine d4.draw (M := [a]) (by simp) f0 f1 fun y1 H6 y10 y11 e6 d6 k6 => ?_
      walk_at "go"
      refine d6.draw (M := [a]) (by simp) (by decide) (by decide) fun y2 H7 y20 y21 e7 d7 k7 => ?_
      walk_at "go"
      have cy : y2 = 0 ∨ y2 = 1 := by omega
      have done : ∀ z : Int, Ry (.int (y1 - z)) H7 := fun z => hy _ _ _ (e6.trans e7) ⟨d7.st, zs ++ [y1 - z], by rw [ea, List.map_append]; rfl, by rw [List.length_append, lz]; rfl⟩
      rcases cy with rfl | rfl
      · refine k_mul (.inl (by decide)) ?_
        walk_at "go"
        exact done _
      · refine k_mul (.inl (by decide)) ?_
        walk_at "go"
        exact done _
    · subst ea
      have e5 : Ext [a] _ _ (upd G4 D (.lst (zs.map V.int))) H4 := e4.frz hD gD hD4
      have nDa : D ≠ a := d2.ne hD
      refine q D zs _ H4 (e12.trans e5) (d2.next e5 st) ?_ (by omega) upd_same
      have := e12.d D hD
      exact this
  have c1 : x1 = 0 ∨ x1 = 1 ∨ x1 = 2 := by omega
  rcases c1 with z | z | z
  · subst z; exact k_ixL (SqL.of hp1) rfl (fin _ (by decide) (by decide))
  · subst z; exact k_ixL (SqL.of hp1) rfl (fin _ (by decide) (by decide))
  · subst z; exact k_ixL (SqL.of hp1) rfl (fin _ ten29.2 ten29.1)
end
end CX
namespace CX
open PySem PySem.Spec PyProof.Rows L2 MV
local macro_rules | `(tactic| walk_at "go") => `(tactic| repeat (first
  | with_reducible refine MV.k_seq ?_ | with_reducible refine MV.k_asg ?_ | with_reducible refine MV.k_name ?_ | with_reducible refine MV.k_op ?_ | ((with_reducible apply MV.k_var); exact rfl) | with_reducible refine MV.k_c ?_
  | with_reducible refine MV.k_add ?_ | with_reducible refine MV.k_sub ?_ | with_reducible refine MV.k_lt ?_ | with_reducible refine MV.k_le ?_ | with_reducible refine MV.k_gt ?_ | with_reducible refine MV.k_ge ?_ | with_reducible refine MV.k_eqI ?_ | with_reducible refine MV.k_neI ?_
  | with_reducible refine MV.k_test ?_ | with_reducible refine MV.k_B ?_ | with_reducible refine MV.k_bl ?_ | with_reducible refine MV.k_blV ?_ | with_reducible refine MV.k_and ?_ | with_reducible refine MV.k_or ?_ | with_reducible refine MV.k_not ?_ | with_reducible refine MV.k_andV ?_ | with_reducible refine MV.k_orV ?_ | with_reducible refine MV.k_notV ?_
  | with_reducible refine MV.k_if ?_ | with_reducible refine MV.k_tru ?_ | with_reducible refine MV.k_chain ?_ | with_reducible refine MV.k_next ?_ | with_reducible refine MV.k_drop ?_ | with_reducible refine MV.k_ret ?_ | with_reducible refine MV.k_retN ?_ | with_reducible refine MV.k_ifS ?_ | with_reducible refine MV.k_brk ?_ | with_reducible refine MV.k_cont ?_
  | with_reducible refine MV.k_nil ?_ | with_reducible refine MV.k_cons ?_ | with_reducible refine MV.k_tup ?_ | with_reducible refine MV.k_lst ?_ | with_reducible refine MV.k_cb ?_ | with_reducible refine MV.k_call ?_ | with_reducible refine MV.k_gnil ?_ | with_reducible refine MV.k_gcons ?_ | with_reducible refine MV.k_gsub ?_
  | with_reducible refine MV.k_bm ?_ | with_reducible refine MV.k_bm0 ?_ | with_reducible refine MV.k_un ?_ | with_reducible refine MV.k_neg ?_ | with_reducible refine MV.k_isN ?_ | with_reducible refine MV.k_notN ?_ | with_reducible refine L2.iteT ?_ | with_reducible refine L2.iteF ?_
  | with_reducible refine MV.k_iList ?_ | with_reducible refine MV.k_iTup ?_ | with_reducible refine MV.k_iRng1 ?_ | with_reducible refine MV.k_lc ?_ | with_reducible refine MV.k_for ?_
  | with_reducible refine MV.k_yes ?_ | with_reducible refine MV.k_dput ?_ | with_reducible refine MV.k_dget ?_ | with_reducible refine MV.k_dget1 ?_ | with_reducible refine MV.k_sl ?_ | with_reducible refine MV.k_nopart ?_ | with_reducible refine MV.k_part ?_ | with_reducible refine MV.k_pint ?_ | with_reducible refine MV.k_dnew ?_ | with_reducible refine MV.k_lstRg ?_ | with_reducible refine MV.k_rg1 ?_
  | with_reducible refine CX.k_callS ?_ | with_reducible refine CX.k_iEnum ?_))
section
variable {K : PySem.W.Frag} {w : World} {G H : Hp} {c a : Addr} {ns : List Int} {σ : L2.St}
/-! ### tuples made one behind the other -/
def tTups : List TA → TA
  | [] => tNil
  | A :: r => tCons (tTup A) (tTups r)
/-- what is read off the slots alone -/
def Reads (σ : L2.St) (A : TA) (xs : List V) : Prop := ∀ (H : Hp) (QA : List V → Hp → Prop), QA xs H → A σ H QA
theorem paired_mono {α β : Type} {F F' : α → β → Prop} (h : ∀ x y, F x y → F' x y) : ∀ {xs : List α} {ys : List β}, Paired F xs ys → Paired F' xs ys
  | _, _, .nil => .nil
  | _, _, .cons a b => .cons (h _ _ a) (paired_mono h b)
theorem paired_at {α β : Type} {F : α → β → Prop} : ∀ {xs : List α} {ys : List β}, Paired F xs ys → ∀ (i : Nat) (x : α) (y : β), xs[i]? = some x → ys[i]? = some y → F x y
  | _, _, .nil, i, x, y, h, _ => by simp at h
  | _, _, .cons p q, 0, x, y, h, h2 => by
    simp at h h2
    subst h h2
    exact p
  | _, _, .cons p q, i + 1, x, y, h, h2 => paired_at q i x y (by simpa using h) (by simpa using h2)
theorem paired_len {α β : Type} {F : α → β → Prop} : ∀ {xs : List α} {ys : List β}, Paired F xs ys → xs.length = ys.length
  | _, _, .nil => rfl
  | _, _, .cons _ q => by simp [paired_len q]
theorem paired_take {α β : Type} {F : α → β → Prop} : ∀ (n : Nat) {xs : List α} {ys : List β}, Paired F xs ys → Paired F (xs.take n) (ys.take n)
  | 0, _, _, _ => .nil
  | n + 1, _, _, .nil => .nil
  | n + 1, _, _, .cons p q => .cons p (paired_take n q)
theorem paired_drop {α β : Type} {F : α → β → Prop} : ∀ (n : Nat) {xs : List α} {ys : List β}, Paired F xs ys → Paired F (xs.drop n) (ys.drop n)
  | 0, _, _, h => h
  | n + 1, _, _, .nil => .nil
  | n + 1, _, _, .cons p q => paired_drop n q
theorem paired_both {α β : Type} {F : α → β → Prop} : ∀ {xs xs2 : List α} {ys ys2 : List β}, Paired F xs ys → Paired F xs2 ys2 → Paired F (xs ++ xs2) (ys ++ ys2)
  | _, _, _, _, .nil, h => h
  | _, _, _, _, .cons p q, h => .cons p (paired_both q h)
theorem paired_rep {α β : Type} {F : α → β → Prop} {x : α} {y : β} (h : F x y) : ∀ n : Nat, Paired F (List.replicate n x) (List.replicate n y)
  | 0 => .nil
  | n + 1 => .cons h (paired_rep h n)
abbrev TsAt (K : PySem.W.Frag) (G : Hp) : List Addr → List (List V) → Prop := Paired fun t m => SqT K G t m
theorem TsAt.mono {G1 : Hp} {ts : List Addr} {ms : List (List V)} (h : TsAt K G ts ms) (s : Same G G1) : TsAt K G1 ts ms := paired_mono (fun _ _ q => sqT_mono s q) h
theorem TsAt.ms {l : Addr} {ts : List Addr} {ms : List (List V)} (h : TsAt K G ts ms) (hl : SqL K G l (ts.map V.ref)) : MsAt K G l ms := ⟨⟨ts, hl, paired_len h, fun i t m e1 e2 => paired_at h i t m e1 e2⟩⟩
theorem tups_new : ∀ {As : List TA} {mss : List (List V)}, Paired (Reads σ) As mss → (∀ m, m ∈ mss → m.length ≤ 100) → ∀ {G H : Hp} {QA : List V → Hp → Prop}, Dr K c a ns G H →
    (∀ (ts : List Addr) (G1 H1 : Hp), Ext [] G H G1 H1 → Dr K c a ns G1 H1 → TsAt K G1 ts mss → QA (ts.map V.ref) H1) → tTups As σ H QA
  | _, _, .nil, _, G, H, QA, d, q => q [] G H (Ext.refl d.s) d .nil
  | _, _, .cons (l₁ := As) (l₂ := mss) rd r, sm, G, H, QA, d, q => by
    refine rd H _ ⟨sz1 (Nat.le_trans (sm _ (List.mem_cons_self ..)) (by decide)), fun t nt => ?_⟩
    refine tups_new r (fun m hm => sm m (List.mem_cons_of_mem _ hm)) (d.new nt) fun ts G1 H1 e1 d1 h1 => ?_
    refine q (t :: ts) G1 H1 (((Ext.refl d.s).new nt).trans e1) d1 (.cons ?_ h1)
    exact SqT.of (e1.g _ _ upd_same)
/-- the odd moves of the law -/
def oddL (x : Int) : List (List V) := [[.str "copy", .int 0, .int 0], [.str "swap", .int 1, .int 1], [.str "move", .int 0, .int 1], [.str "", .int 0, .int 1], [.str "copy", .int x, .int 0], [.str "copy", .int 0, .int x], [],
  [.str "swap", .int x, .int (x + 1)], [.str "swap", .int 0, .int x], [.str "copy", .int 0], [.str "copy", .int 0, .int 1, .int 0], [.str "call"], [.str "push", .int 0]]
theorem canBe_false {n : Int} {u : Str} {i j : Int} (h : (u ≠ "copy" ∧ u ≠ "swap") ∨ ¬ (0 ≤ i ∧ i < n) ∨ ¬ (0 ≤ j ∧ j < n) ∨ i = j) : canBe n [.str u, .int i, .int j] = false := by
  show ((decide (u = "copy") || decide (u = "swap")) && (decide (0 ≤ i ∧ i < n) && (decide (0 ≤ j ∧ j < n) && !decide (i = j)))) = false
  rcases h with ⟨h1, h2⟩ | h | h | h
  · rw [decide_eq_false h1, decide_eq_false h2]; rfl
  · rw [decide_eq_false h]; simp
  · rw [decide_eq_false h]; simp
  · rw [decide_eq_true h]; simp
theorem odd_not {n x : Int} (hx : x < 0 ∨ n - 1 < x) : ∀ m, m ∈ oddL x → Wf m ∧ canBe n m = false := by
  intro m hm
  simp only [oddL, List.mem_cons, List.not_mem_nil, or_false] at hm
  have w3 : ∀ (u : Str) (i j : Int), Wf [.str u, .int i, .int j] := fun u i j => .inr ⟨u, i, j, rfl⟩
  rcases hm with rfl | rfl | rfl | rfl | rfl | rfl | rfl | rfl | rfl | rfl | rfl | rfl | rfl
  · exact ⟨w3 _ _ _, canBe_false (.inr (.inr (.inr rfl)))⟩
  · exact ⟨w3 _ _ _, canBe_false (.inr (.inr (.inr rfl)))⟩
  · exact ⟨w3 _ _ _, canBe_false (.inl ⟨by decide, by decide⟩)⟩
  · exact ⟨w3 _ _ _, canBe_false (.inl ⟨by decide, by decide⟩)⟩
  · exact ⟨w3 _ _ _, canBe_false (.inr (.inl (by omega)))⟩
  · exact ⟨w3 _ _ _, canBe_false (.inr (.inr (.inl (by omega))))⟩
  · exact ⟨.inl (by decide), rfl⟩
  · exact ⟨w3 _ _ _, canBe_false (by omega)⟩
  · exact ⟨w3 _ _ _, canBe_false (.inr (.inr (.inl (by omega))))⟩
  · exact ⟨.inl (by show (2 : Nat) ≠ 3; decide), rfl⟩
  · exact ⟨.inl (by show (4 : Nat) ≠ 3; decide), rfl⟩
  · exact ⟨.inl (by show (1 : Nat) ≠ 3; decide), rfl⟩
  · exact ⟨.inl (by show (2 : Nat) ≠ 3; decide), rfl⟩
/-! ### the drawn moves -/
theorem moves_drawn {n : Int} {s0 s2 s4 s5 s6 s7 s8 s9 s10 s11 s12 s13 : Option V} {R : VK} (d : Dr K c a ns G H) (n2 : 2 ≤ n) (n10 : n ≤ 10)
    (q : ∀ (ml : Addr) (ts : List Addr) (ms : List (List V)) (G1 H1 : Hp), Ext [a] G H G1 H1 → Dr K c a ns G1 H1 → H ml = none → G1 ml = some (.lst (ts.map V.ref)) → TsAt K G1 ts ms → ms.length ≤ 120 → (∀ m, m ∈ ms → canBe n m = true) → R (.ref ml) H1) :
    tLc (iRng1 (tCons (tCall (spDrawn K) [] E0 (tCons (tVar 1) (tCons (tOp (rIxL K) (tLst (tCons (tC (.int 21)) (tCons (tC (.int 21)) (tCons (tC (.int 21)) (tCons (tC (.int 121)) tNil))))) (tCall (spDrawn K) [] E0 (tCons (tVar 1) (tCons (tC (.int 4)) tNil)))) tNil))) tNil)) (gName 13) tYes (tCall (spLawMove K) [] E0 (tCons (tVar 1) (tCons (tVar 3) tNil))) [13]
      [s0, some (.ref a), s2, some (.int n), s4, s5, s6, s7, s8, s9, s10, s11, s12, s13] H R := by
  walk_at "go"
  refine ⟨sz1 (by simp), fun p hp => ?_⟩
  walk_at "go"
  have d1 := d.tmp (o := .lst [.int 21, .int 21, .int 21, .int 121]) hp
  have e1 : Ext [a] G H G _ := (Ext.refl d.s).tmp (o := .lst [.int 21, .int 21, .int 21, .int 121]) hp
  refine d1.draw (M := [a]) (by simp) (by decide) (by decide) fun x1 H1 x10 x11 e2 d2 k2 => ?_
  have hp1 : H1 p = some (.lst [.int 21, .int 21, .int 21, .int 121]) := by rw [k2 p (d.ne hp), upd_same]
  have e12 := e1.trans e2
  have hx : ∃ many : Int, atI ([.int 21, .int 21, .int 21, .int 121] : List V) x1 = some (.int many) ∧ 0 < many ∧ many ≤ 121 := by
    have c1 : x1 = 0 ∨ x1 = 1 ∨ x1 = 2 ∨ x1 = 3 := by omega
    rcases c1 with rfl | rfl | rfl | rfl
    · exact ⟨21, rfl, by decide, by decide⟩
    · exact ⟨21, rfl, by decide, by decide⟩
    · exact ⟨21, rfl, by decide, by decide⟩
    · exact ⟨121, rfl, by decide, by decide⟩
  obtain ⟨many, hm, m0, m1⟩ := hx
  refine k_ixL (SqL.of hp1) hm ?_
  walk_at "go"
  refine d2.draw (M := [a]) (by simp) m0 (by omega) fun r H3 r0 r1 e3 d3 k3 => ?_
  walk_at "go"
  refine ⟨_, rfl, by omega, by omega, ?_⟩
  refine lcR (M := [a]) d3.s (fun m hm => by rw [List.mem_singleton.mp hm]; exact d3.st.ne) (by omega) (fun i acc G4 H4 => Stt c a H4 ∧ ∃ (ts : List Addr) (ms : List (List V)), acc = ts.map V.ref ∧ TsAt K G4 ts ms ∧ ms.length = i ∧ ∀ m, m ∈ ms → canBe n m = true)
    (fun i acc G4 H4 H5 hk ⟨st, z⟩ => ⟨st.of (hk a (by simp)), z⟩) ⟨d3.st, [], [], rfl, .nil, rfl, fun m h => nomatch h⟩ (fun i acc G4 H4 Ry Rn hi e4 ⟨st, ts, ms, ea, ta, lm, cb⟩ hy hn => ?_) (fun D acc G4 H4 e4 hD gD hD4 hl ⟨st, ts, ms, ea, ta, lm, cb⟩ => ?_)
  · have d4 := d3.next e4 st
    walk_at "go"
    refine ⟨rfl, ?_⟩
    walk_at "go"
    refine ⟨c, a, ns, G4, n, rfl, d4, n2, n10, fun t m G5 H5 e5 d5 nt cm gt => ?_⟩
    refine hy _ _ _ e5 ⟨d5.st, ts ++ [t], ms ++ [m], by rw [ea, List.map_append]; rfl, paired_both (ta.mono e5.g) (.cons (SqT.of gt) .nil), by rw [List.length_append, lm]; rfl, fun m2 h2 => ?_⟩
    rcases List.mem_append.mp h2 with h2 | h2
    · exact cb m2 h2
    · rw [List.mem_singleton.mp h2]; exact cm
  · subst ea
    have e5 : Ext [a] _ _ (upd G4 D (.lst (ts.map V.ref))) H4 := e4.frz hD gD hD4
    exact q D ts ms _ H4 ((e12.trans e3).trans e5) (d3.next e5 st) ((e12.trans e3).d D hD) upd_same (ta.mono (same_new gD)) (by omega) cb
end
end CX
namespace MV
open PySem PySem.Spec PyProof.Rows L2
/-! ### the pairs beside all rings, in turn, and what stays: the pairs of the rings -/
def lastG (m : Lead) : Lead := m.filter fun p => !decide (p.1 ∈ m.map (·.2))
def leftG (m : Lead) : Lead := m.filter fun p => !decide (p ∈ lastG m)
def outerG : Nat → Lead → Lead × Lead
  | 0, m => ([], m)
  | n + 1, m => if (lastG m).isEmpty = true then ([], m) else (lastG m ++ (outerG n (leftG m)).1, (outerG n (leftG m)).2)
theorem mem_lastG {m : Lead} {p : Int × Int} : p ∈ lastG m ↔ p ∈ m ∧ p.1 ∉ m.map (·.2) := by
  unfold lastG
  rw [List.mem_filter, Bool.not_eq_true', decide_eq_false_iff_not]
theorem mem_leftG {m : Lead} {p : Int × Int} : p ∈ leftG m ↔ p ∈ m ∧ p ∉ lastG m := by
  unfold leftG
  rw [List.mem_filter, Bool.not_eq_true', decide_eq_false_iff_not]
theorem split_perm {α : Type} (q r : α → Bool) : ∀ {l : List α}, (∀ x, x ∈ l → r x = !q x) → (l.filter q ++ l.filter r).Perm l
  | [], _ => .nil
  | x :: l, h => by
    have ih := split_perm q r (l := l) fun y hy => h y (List.mem_cons_of_mem _ hy)
    have e := h x (List.mem_cons_self ..)
    rw [List.filter_cons, List.filter_cons, e]
    cases q x with
    | true => exact ih.cons x
    | false => exact List.perm_middle.trans (ih.cons x)
theorem cut_perm (m : Lead) : (lastG m ++ leftG m).Perm m := split_perm _ _ fun p hp => by
  have : decide (p ∈ lastG m) = !decide (p.1 ∈ m.map (·.2)) := by
    by_cases h : p.1 ∈ m.map (·.2)
    · rw [decide_eq_true h]
      exact decide_eq_false fun z => (mem_lastG.mp z).2 h
    · rw [decide_eq_false h]
      exact decide_eq_true (mem_lastG.mpr ⟨hp, h⟩)
  rw [this]
theorem outer_perm : ∀ (n : Nat) (m : Lead), ((outerG n m).1 ++ (outerG n m).2).Perm m
  | 0, m => .refl _
  | n + 1, m => by
    unfold outerG
    by_cases h : (lastG m).isEmpty = true
    · rw [if_pos h]; exact .refl _
    · rw [if_neg h]
      show ((lastG m ++ (outerG n (leftG m)).1) ++ (outerG n (leftG m)).2).Perm m
      rw [List.append_assoc]
      exact ((outer_perm n (leftG m)).append_left _).trans (cut_perm m)
theorem left_len {m : Lead} (h : ¬ (lastG m).isEmpty = true) : (leftG m).length < m.length := by
  have := (cut_perm m).length_eq
  rw [List.length_append] at this
  have : (lastG m).length ≠ 0 := fun z => h (by rw [List.eq_nil_of_length_eq_zero z]; rfl)
  omega
theorem outer_done : ∀ (n : Nat) (m : Lead), m.length ≤ n → lastG (outerG n m).2 = []
  | 0, m, h => by
    have : m = [] := List.eq_nil_of_length_eq_zero (by omega)
    subst this; rfl
  | n + 1, m, h => by
    unfold outerG
    by_cases c : (lastG m).isEmpty = true
    · rw [if_pos c]; exact List.isEmpty_iff.mp c
    · rw [if_neg c]
      exact outer_done n (leftG m) (by have := left_len c; omega)
theorem outer_sub (n : Nat) (m : Lead) {p : Int × Int} (h : p ∈ (outerG n m).1 ∨ p ∈ (outerG n m).2) : p ∈ m :=
  (outer_perm n m).mem_iff.mp (List.mem_append.mpr h)
theorem outer_order : ∀ (n : Nat) (m : Lead), ((outerG n m).1).Pairwise (fun p q => p.1 ≠ q.2) ∧ (∀ p, p ∈ (outerG n m).1 → ∀ q, q ∈ (outerG n m).2 → p.1 ≠ q.2)
  | 0, m => ⟨.nil, (fun p hp => nomatch hp)⟩
  | n + 1, m => by
    unfold outerG
    by_cases c : (lastG m).isEmpty = true
    · rw [if_pos c]; exact ⟨.nil, (fun p hp => nomatch hp)⟩
    · rw [if_neg c]
      obtain ⟨h1, h2⟩ := outer_order n (leftG m)
      have key : ∀ p, p ∈ lastG m → ∀ q, q ∈ m → p.1 ≠ q.2 := fun p hp q hq e => (mem_lastG.mp hp).2 (List.mem_map.mpr ⟨q, hq, e.symm⟩)
      have sub : ∀ q, (q ∈ (outerG n (leftG m)).1 ∨ q ∈ (outerG n (leftG m)).2) → q ∈ m := fun q hq => (mem_leftG.mp (outer_sub n _ hq)).1
      refine ⟨List.pairwise_append.mpr ⟨?_, h1, fun p hp q hq => key p hp q (sub q (.inl hq))⟩, fun p hp q hq => ?_⟩
      · exact List.Pairwise.imp_of_mem (fun {p q} hp hq _ => key p hp q (mem_lastG.mp hq).1) (List.pairwise_of_forall (R := fun _ _ => True) (fun _ _ => trivial))
      · rcases List.mem_append.mp hp with z | z
        · exact key p z q (sub q (.inr hq))
        · exact h2 p z q hq
/-- what goes round stays -/
theorem outer_keep {C : Lead} (hc : ∀ p, p ∈ C → ∃ q, q ∈ C ∧ q.2 = p.1) : ∀ (n : Nat) (m : Lead), (∀ p, p ∈ C → p ∈ m) → ∀ p, p ∈ C → p ∈ (outerG n m).2
  | 0, m, h, p, hp => h p hp
  | n + 1, m, h, p, hp => by
    unfold outerG
    by_cases c : (lastG m).isEmpty = true
    · rw [if_pos c]; exact h p hp
    · rw [if_neg c]
      refine outer_keep hc n (leftG m) (fun q hq => mem_leftG.mpr ⟨h q hq, fun z => ?_⟩) p hp
      obtain ⟨r, hr, e⟩ := hc q hq
      exact (mem_lastG.mp z).2 (List.mem_map.mpr ⟨r, h r hr, e⟩)
theorem perm_sub : ∀ {S T : List Int}, S.Nodup → (∀ x, x ∈ S → x ∈ T) → T.length ≤ S.length → T.Perm S
  | [], T, _, _, l => by
    have : T = [] := List.eq_nil_of_length_eq_zero (by simpa using l)
    rw [this]
  | x :: S, T, nd, h, l => by
    have hx : x ∈ T := h x (List.mem_cons_self ..)
    have p := List.perm_cons_erase hx
    have pl := p.length_eq
    rw [List.length_cons] at l pl
    have nd2 := List.nodup_cons.mp nd
    refine p.trans ((perm_sub nd2.2 (fun y hy => ?_) (by omega)).cons x)
    exact (List.mem_erase_of_ne fun z => nd2.1 (by rw [← z]; exact hy)).mpr (h y (List.mem_cons_of_mem _ hy))
section
variable {f : Int → Option Int} {b : Int}
theorem along_last : ∀ {T : List Int} {x y : Int}, Along f x T y → y ∈ x :: T
  | [], x, y, h => by have h : x = y := h; rw [h]; exact List.mem_cons_self ..
  | z :: T, x, y, h => List.mem_cons_of_mem _ (along_last h.2)
theorem along_pred : ∀ {T : List Int} {x y z : Int}, Along f x T y → (x :: T).Nodup → z ∈ T → ∃ w, w ∈ x :: T ∧ w ≠ y ∧ f w = some z
  | [], x, y, z, _, _, h => nomatch h
  | a :: T, x, y, z, h, nd, hz => by
    have n2 := List.nodup_cons.mp nd
    rcases List.mem_cons.mp hz with e | hz
    · subst e
      exact ⟨x, List.mem_cons_self .., fun e => n2.1 (by rw [e]; exact along_last h.2), h.1⟩
    · obtain ⟨w, hw, ne, e⟩ := along_pred h.2 n2.2 hz
      exact ⟨w, List.mem_cons_of_mem _ hw, ne, e⟩
/-- from each one of a set that f carries to itself, one by one, one comes back -/
theorem cyc {S : List Int} {x : Int} (hS : ∀ y, y ∈ S → ∃ z, z ∈ S ∧ f y = some z) (inj : ∀ y z v, y ∈ S → z ∈ S → f y = some v → f z = some v → y = z) :
    ∀ (k : Nat) (T : List Int) (y : Int), Along f x T y → (x :: T).Nodup → (∀ z, z ∈ x :: T → z ∈ S) → S.length ≤ T.length + k → ∃ U, Goes f x x U ∧ (x :: U).Nodup ∧ ∀ z, z ∈ x :: U → z ∈ S
  | 0, T, y, _, nd, sub, l => by
    have := nd.length_le_of_subset (l₂ := S) sub
    rw [List.length_cons] at this
    omega
  | k + 1, T, y, al, nd, sub, l => by
    obtain ⟨z, hz, e⟩ := hS y (sub y (along_last al))
    by_cases c : z = x
    · subst c
      exact ⟨T, along_goes al e, nd, sub⟩
    · by_cases m : z ∈ T
      · obtain ⟨w, hw, ne, e2⟩ := along_pred al nd m
        exact absurd (inj w y z (sub w hw) (sub y (along_last al)) e2 e) ne
      · have nd2 : (x :: (T ++ [z])).Nodup := by
          show ((x :: T) ++ [z]).Nodup
          refine List.nodup_append.mpr ⟨nd, by simp, fun a ha c2 hc e3 => ?_⟩
          have : c2 = z := List.mem_singleton.mp hc
          subst this
          subst e3
          rcases List.mem_cons.mp ha with h | h
          · exact c h
          · exact m h
        refine cyc hS inj k (T ++ [z]) z (along_snoc al e) nd2 (fun v hv => ?_) (by rw [List.length_append]; simp; omega)
        rcases List.mem_cons.mp hv with h | h
        · exact sub v (by rw [h]; exact List.mem_cons_self ..)
        · rcases List.mem_append.mp h with h | h
          · exact sub v (List.mem_cons_of_mem _ h)
          · rw [List.mem_singleton.mp h]; exact hz
theorem ch_closed {C : Int → Prop} (hC : ∀ x y, C x → f x = some y → C y) : ∀ {l : List Int} {x : Int}, Ch f (x :: l) → C x → ∀ y, y ∈ x :: l → C y
  | [], x, _, hx, y, hy => by rw [List.mem_singleton.mp hy]; exact hx
  | z :: l, x, h, hx, y, hy => by
    rcases List.mem_cons.mp hy with e | hy
    · rw [e]; exact hx
    · exact ch_closed hC h.2 (hC x z hx h.1) y hy
theorem ch_from : ∀ {l r : List Int} {x : Int}, Ch f (l ++ x :: r) → Ch f (x :: r) := fun {l r x} h => ch_drop h
theorem goes_next : ∀ {T : List Int} {x y : Int}, Goes f b x T → y ∈ x :: T → ∃ z, f y = some z ∧ (z ∈ T ∨ z = b)
  | [], x, y, h, hy => by rw [List.mem_singleton.mp hy]; exact ⟨b, h, .inr rfl⟩
  | a :: T, x, y, h, hy => by
    rcases List.mem_cons.mp hy with e | hy
    · rw [e]; exact ⟨a, h.1, .inl (List.mem_cons_self ..)⟩
    · obtain ⟨z, e, q⟩ := goes_next h.2 hy
      exact ⟨z, e, q.imp (List.mem_cons_of_mem _) id⟩
/-- a ring is carried to itself -/
theorem IsBack.closed {T : List Int} (h : IsBack f b T) : ∀ x y, x ∈ b :: T → f x = some y → y ∈ b :: T := fun x y hx e => by
  obtain ⟨z, e2, q⟩ := goes_next h.go hx
  have : y = z := Option.some.inj (e.symm.trans e2)
  subst this
  rcases q with q | q
  · exact List.mem_cons_of_mem _ q
  · rw [q]; exact List.mem_cons_self ..
/-- what holds one of a ring, and is carried to itself, holds the ring -/
theorem IsBack.all {T : List Int} (h : IsBack f b T) {C : Int → Prop} (hC : ∀ x y, C x → f x = some y → C y) {x : Int} (hx : x ∈ b :: T) (cx : C x) : ∀ y, y ∈ b :: T → C y := by
  have hb : C b := by
    have c := goes_ch h.go
    obtain ⟨l, r, e⟩ := List.append_of_mem hx
    have e2 : b :: (T ++ [b]) = l ++ x :: (r ++ [b]) := by
      show (b :: T) ++ [b] = _
      rw [e]; simp
    rw [e2] at c
    exact ch_closed hC (ch_from c) cx b (List.mem_cons_of_mem _ (List.mem_append_right _ (List.mem_singleton.mpr rfl)))
  have c := goes_ch h.go
  intro y hy
  refine ch_closed hC c hb y ?_
  show y ∈ (b :: T) ++ [b]
  exact List.mem_append_left _ hy
theorem IsBack.pred {T : List Int} (h : IsBack f b T) : ∀ y, y ∈ b :: T → ∃ x, x ∈ b :: T ∧ f x = some y := by
  have key : ∀ {T : List Int} {x : Int}, Goes f b x T → ∃ l, Along f x T l ∧ f l = some b := by
    intro T
    induction T with
    | nil => intro x h; exact ⟨x, rfl, h⟩
    | cons a T ih => intro x h; obtain ⟨l, al, e⟩ := ih h.2; exact ⟨l, ⟨h.1, al⟩, e⟩
  obtain ⟨l, al, e⟩ := key h.go
  intro y hy
  rcases List.mem_cons.mp hy with z | hy
  · rw [z]; exact ⟨l, along_last al, e⟩
  · obtain ⟨w, hw, _, e2⟩ := along_pred al h.nd hy
    exact ⟨w, hw, e2⟩
theorem min_of : ∀ {l : List Int}, l ≠ [] → ∃ b, b ∈ l ∧ ∀ y, y ∈ l → b ≤ y
  | [], h => absurd rfl h
  | [x], _ => ⟨x, List.mem_cons_self .., fun y hy => by rw [List.mem_singleton.mp hy]; omega⟩
  | x :: z :: l, _ => by
    obtain ⟨b, hb, h⟩ := min_of (l := z :: l) (fun e => nomatch e)
    by_cases c : x ≤ b
    · refine ⟨x, List.mem_cons_self .., fun y hy => ?_⟩
      rcases List.mem_cons.mp hy with e | hy
      · omega
      · have := h y hy; omega
    · refine ⟨b, List.mem_cons_of_mem _ hb, fun y hy => ?_⟩
      rcases List.mem_cons.mp hy with e | hy
      · omega
      · exact h y hy
theorem ring_back (hf : ∀ x, f x ≠ some x) {n : Nat} {R : List Int} (h : R ∈ ringsOf f n) : ∃ b T, IsBack f b T ∧ R = b :: T.reverse ∧ 0 ≤ b ∧ b < n ∧ ∀ x, x ∈ R → b ≤ x := by
  unfold ringsOf at h
  obtain ⟨b, hb, e⟩ := List.mem_filterMap.mp h
  obtain ⟨T, t, e2, le⟩ := leastRing_some hf e
  have := mem_rangeI.mp hb
  exact ⟨b, T, t, e2, this.1, this.2, le⟩
theorem ring_mem {b : Int} {T : List Int} {x : Int} : x ∈ b :: T.reverse ↔ x ∈ b :: T := by
  rw [List.mem_cons, List.mem_cons, List.mem_reverse]
/-- two rings that have one in common are one -/
theorem rings_one (hf : ∀ x, f x ≠ some x) {n : Nat} {R1 R2 : List Int} (h1 : R1 ∈ ringsOf f n) (h2 : R2 ∈ ringsOf f n) {x : Int} (x1 : x ∈ R1) (x2 : x ∈ R2) : R1 = R2 := by
  obtain ⟨b1, T1, t1, e1, _, _, le1⟩ := ring_back hf h1
  obtain ⟨b2, T2, t2, e2, _, _, le2⟩ := ring_back hf h2
  subst e1 e2
  have y1 := ring_mem.mp x1
  have y2 := ring_mem.mp x2
  have a1 := t1.all (C := fun y => y ∈ b2 :: T2) t2.closed y1 y2 b1 (List.mem_cons_self ..)
  have a2 := t2.all (C := fun y => y ∈ b1 :: T1) t1.closed y2 y1 b2 (List.mem_cons_self ..)
  have q1 := le2 b1 (ring_mem.mpr a1)
  have q2 := le1 b2 (ring_mem.mpr a2)
  have e : b1 = b2 := by omega
  subst e
  rw [t1.one t2]
theorem ring_nd (hf : ∀ x, f x ≠ some x) {n : Nat} {R : List Int} (h : R ∈ ringsOf f n) : R.Nodup := by
  obtain ⟨b, T, t, e, _⟩ := ring_back hf h
  subst e
  have nd := List.nodup_cons.mp t.nd
  exact List.nodup_cons.mpr ⟨fun z => nd.1 (List.mem_reverse.mp z), (List.reverse_perm T).nodup_iff.mpr nd.2⟩
theorem flat_nodup : ∀ {l : List (List Int)}, (∀ R, R ∈ l → R.Nodup) → l.Pairwise (fun A B => ∀ x, x ∈ A → x ∉ B) → l.flatten.Nodup
  | [], _, _ => List.nodup_nil
  | R :: l, h, p => by
    rw [List.flatten_cons]
    have p2 := List.pairwise_cons.mp p
    refine List.nodup_append.mpr ⟨h R (List.mem_cons_self ..), flat_nodup (fun S hS => h S (List.mem_cons_of_mem _ hS)) p2.2, fun x hx y hy e => ?_⟩
    subst e
    obtain ⟨S, hS, hy⟩ := List.mem_flatten.mp hy
    exact p2.1 S hS x hx hy
theorem rings_apart (hf : ∀ x, f x ≠ some x) (n : Nat) : (ringsOf f n).Pairwise (fun A B => ∀ x, x ∈ A → x ∉ B) := by
  have mem : ∀ {a : Int} {R : List Int}, a ∈ rangeI n → leastRing f a = some R → R ∈ ringsOf f n := fun ha e => List.mem_filterMap.mpr ⟨_, ha, e⟩
  unfold ringsOf
  have hd : ∀ {a : Int} {R : List Int}, leastRing f a = some R → ∃ T, R = a :: T := fun e => by
    obtain ⟨T, _, e2, _⟩ := leastRing_some hf e
    exact ⟨_, e2⟩
  have nd := rangeI_nodup n
  have sub : ∀ a, a ∈ rangeI n → a ∈ rangeI n := fun _ h => h
  generalize hl : rangeI n = l at nd sub ⊢
  have sub2 : ∀ a, a ∈ l → a ∈ rangeI n := fun a h => by rw [hl]; exact h
  clear sub hl
  induction l with
  | nil => exact .nil
  | cons a l ih =>
    have n2 := List.nodup_cons.mp nd
    have ih2 := ih n2.2 fun x hx => sub2 x (List.mem_cons_of_mem _ hx)
    rw [List.filterMap_cons]
    cases e : leastRing f a with
    | none => exact ih2
    | some R =>
      refine List.pairwise_cons.mpr ⟨fun B hB x hx hx2 => ?_, ih2⟩
      obtain ⟨c, hc, e2⟩ := List.mem_filterMap.mp hB
      have e3 := rings_one hf (mem (sub2 a (List.mem_cons_self ..)) e) (mem (sub2 c (List.mem_cons_of_mem _ hc)) e2) hx hx2
      obtain ⟨T1, q1⟩ := hd e
      obtain ⟨T2, q2⟩ := hd e2
      rw [q1, q2] at e3
      have : a = c := (List.cons.inj e3).1
      exact n2.1 (by rw [this]; exact hc)
end
/-- the goals of the pairs that stay are those of all rings -/
theorem left_rings {n : Nat} {m : Lead} (g : GoodM n m) (no : ∀ x, lk m x ≠ some x) (n10 : n ≤ 10) : (ringsOf (lk m) n).flatten.Perm ((outerG 11 m).2.map (·.1)) := by
  have ml := g.len
  have dn := outer_done 11 m (by omega)
  have sub : ∀ p, p ∈ (outerG 11 m).2 → p ∈ m := fun p hp => outer_sub 11 m (.inr hp)
  have pm := outer_perm 11 m
  have keep := @outer_keep
  have ndL : ((outerG 11 m).2.map (·.1)).Nodup := by
    have := (pm.map (·.1)).nodup_iff.mpr g.nd
    rw [List.map_append] at this
    exact (List.nodup_append.mp this).2.1
  have kp : ∀ C : Lead, (∀ p, p ∈ C → ∃ q, q ∈ C ∧ q.2 = p.1) → (∀ p, p ∈ C → p ∈ m) → ∀ p, p ∈ C → p ∈ (outerG 11 m).2 := fun C h1 h2 => outer_keep h1 11 m h2
  generalize (outerG 11 m).2 = L at *
  have src : (L.map (·.2)).Perm (L.map (·.1)) := by
    refine perm_sub ndL (fun x hx => ?_) (by simp)
    obtain ⟨p, hp, e⟩ := List.mem_map.mp hx
    refine Classical.byContradiction fun z => ?_
    have : p ∈ lastG L := mem_lastG.mpr ⟨hp, fun y => z (by rw [← e]; exact y)⟩
    rw [dn] at this
    cases this
  have ndS : (L.map (·.2)).Nodup := src.nodup_iff.mpr ndL
  have look : ∀ p, p ∈ L → lk m p.1 = some p.2 := fun p hp => lk_of g.nd (sub p hp)
  have hS : ∀ y, y ∈ L.map (·.1) → ∃ z, z ∈ L.map (·.1) ∧ lk m y = some z := fun y hy => by
    obtain ⟨p, hp, e⟩ := List.mem_map.mp hy
    subst e
    exact ⟨p.2, src.mem_iff.mp (List.mem_map.mpr ⟨p, hp, rfl⟩), look p hp⟩
  have nd_inj : ∀ {l : Lead}, (l.map (·.2)).Nodup → ∀ p q, p ∈ l → q ∈ l → p.2 = q.2 → p = q := by
    intro l
    induction l with
    | nil => intro _ p q hp; cases hp
    | cons a l ih =>
      intro nd p q hp hq e
      rw [List.map_cons] at nd
      have n2 := List.nodup_cons.mp nd
      rcases List.mem_cons.mp hp with z | hp <;> rcases List.mem_cons.mp hq with y | hq
      · rw [z, y]
      · exact absurd (List.mem_map.mpr ⟨q, hq, by rw [← e, z]⟩) n2.1
      · exact absurd (List.mem_map.mpr ⟨p, hp, by rw [e, y]⟩) n2.1
      · exact ih n2.2 p q hp hq e
  have inj : ∀ y z v, y ∈ L.map (·.1) → z ∈ L.map (·.1) → lk m y = some v → lk m z = some v → y = z := fun y z v hy hz e1 e2 => by
    obtain ⟨p, hp, ep⟩ := List.mem_map.mp hy
    obtain ⟨q, hq, eq⟩ := List.mem_map.mp hz
    subst ep eq
    have h1 := Option.some.inj ((look p hp).symm.trans e1)
    have h2 := Option.some.inj ((look q hq).symm.trans e2)
    rw [nd_inj ndS p q hp hq (h1.trans h2.symm)]
  have rg : ∀ y : Int, y ∈ L.map (fun p : Int × Int => p.1) → 0 ≤ y ∧ y < (n : Int) := fun y hy => by
    obtain ⟨p, hp, e⟩ := List.mem_map.mp hy
    subst e
    have := g.rg p (sub p hp)
    omega
  have lS : (L.map (·.1)).length ≤ 10 := by
    have := few (n := n) ndL rg
    omega
  have fromS : ∀ x, x ∈ L.map (·.1) → ∃ T, IsBack (lk m) x T ∧ ∀ z, z ∈ x :: T → z ∈ L.map (·.1) := fun x hx => by
    obtain ⟨T, go, nd, sb⟩ := cyc hS inj (L.map (·.1)).length [] x rfl (by simp) (fun z hz => by rw [List.mem_singleton.mp hz]; exact hx) (by simp)
    refine ⟨T, ⟨fun z => ?_, nd, go⟩, sb⟩
    subst z
    exact no x go
  have toF : ∀ x, x ∈ L.map (·.1) → x ∈ (ringsOf (lk m) n).flatten := fun x hx => by
    obtain ⟨T, t, sb⟩ := fromS x hx
    obtain ⟨b, hb, le⟩ := min_of (l := x :: T) (fun z => nomatch z)
    obtain ⟨U, u, sb2⟩ := fromS b (sb b hb)
    have inU := u.all (C := fun y => y ∈ x :: T) t.closed (List.mem_cons_self ..) hb
    have lu : U.length ≤ 10 := by
      have := u.nd.length_le_of_subset (l₂ := L.map (fun p : Int × Int => p.1)) sb2
      rw [List.length_cons] at this
      omega
    have e := leastRing_of u lu fun y hy => by
      have h1 := le y (inU y (List.mem_cons_of_mem _ hy))
      have h2 : y ≠ b := fun z => (List.nodup_cons.mp u.nd).1 (by rw [← z]; exact hy)
      omega
    have hx2 := t.all (C := fun y => y ∈ b :: U) u.closed hb (List.mem_cons_self ..) x (List.mem_cons_self ..)
    refine List.mem_flatten.mpr ⟨b :: U.reverse, List.mem_filterMap.mpr ⟨b, mem_rangeI.mpr (rg b (sb b hb)), e⟩, ring_mem.mpr hx2⟩
  have ofF : ∀ x, x ∈ (ringsOf (lk m) n).flatten → x ∈ L.map (·.1) := fun x hx => by
    obtain ⟨R, hR, hx⟩ := List.mem_flatten.mp hx
    obtain ⟨b, T, t, e, _⟩ := ring_back no hR
    subst e
    have hx := ring_mem.mp hx
    have := kp ((b :: T).map fun w => (w, (lk m w).getD 0)) (fun p hp => ?_) (fun p hp => ?_) (x, (lk m x).getD 0) (List.mem_map.mpr ⟨x, hx, rfl⟩)
    · exact List.mem_map.mpr ⟨_, this, rfl⟩
    · obtain ⟨w, hw, e⟩ := List.mem_map.mp hp
      subst e
      obtain ⟨v, hv, e2⟩ := t.pred w hw
      exact ⟨_, List.mem_map.mpr ⟨v, hv, rfl⟩, by rw [e2]; rfl⟩
    · obtain ⟨w, hw, e⟩ := List.mem_map.mp hp
      subst e
      obtain ⟨z, e2, _⟩ := goes_next t.go hw
      rw [e2]
      exact lk_mem e2
  have ndF := flat_nodup (fun R hR => ring_nd no hR) (rings_apart no n)
  exact perm_sub ndL toF (ndF.length_le_of_subset ofF)
end MV
namespace MV
open PySem PySem.Spec PyProof.Rows L2
/-! ### what moves do to worths -/
def gv (ws : List Int) (x : Int) : Int := ws.getD x.toNat 0
def cpI (ws : List Int) (p : Int × Int) : List Int := ws.set p.1.toNat (gv ws p.2)
def swI (ws : List Int) (a b : Int) : List Int := (ws.set a.toNat (gv ws b)).set b.toNat (gv ws a)
def ringW (ws : List Int) : List Int → List Int
  | [] => ws
  | b :: t => t.foldl (fun w x => swI w b x) ws
theorem gv_set {ws : List Int} {i x v : Int} (i0 : 0 ≤ i) (i1 : i < ws.length) (x0 : 0 ≤ x) : gv (ws.set i.toNat v) x = if x = i then v else gv ws x := by
  unfold gv
  rw [List.getD_eq_getElem?_getD, List.getD_eq_getElem?_getD, List.getElem?_set]
  by_cases h : x = i
  · subst h
    rw [if_pos rfl, if_pos (by omega), if_pos rfl]; rfl
  · rw [if_neg (by omega), if_neg h]
theorem cpI_len (ws : List Int) (p : Int × Int) : (cpI ws p).length = ws.length := List.length_set ..
theorem swI_len (ws : List Int) (a b : Int) : (swI ws a b).length = ws.length := by unfold swI; rw [List.length_set, List.length_set]
theorem fold_len {α : Type} {g : List Int → α → List Int} (h : ∀ w a, (g w a).length = w.length) : ∀ (l : List α) (ws : List Int), (l.foldl g ws).length = ws.length
  | [], _ => rfl
  | a :: l, ws => by rw [List.foldl_cons, fold_len h l, h]
theorem ringW_len (ws : List Int) (R : List Int) : (ringW ws R).length = ws.length := by
  cases R with
  | nil => rfl
  | cons b t => exact fold_len (fun w x => swI_len w b x) t ws
theorem gv_cp {ws : List Int} {p : Int × Int} {x : Int} (h0 : 0 ≤ p.1) (h1 : p.1 < ws.length) (x0 : 0 ≤ x) : gv (cpI ws p) x = if x = p.1 then gv ws p.2 else gv ws x := gv_set h0 h1 x0
theorem gv_sw {ws : List Int} {a b x : Int} (a0 : 0 ≤ a) (a1 : a < ws.length) (b0 : 0 ≤ b) (b1 : b < ws.length) (x0 : 0 ≤ x) : gv (swI ws a b) x = if x = b then gv ws a else if x = a then gv ws b else gv ws x := by
  unfold swI
  rw [gv_set b0 (by rw [List.length_set]; exact b1) x0, gv_set a0 a1 x0]
/-- copies none of which writes over what a later one reads -/
theorem copies_do : ∀ {O : Lead} {ws : List Int}, (∀ p, p ∈ O → 0 ≤ p.1 ∧ p.1 < ws.length ∧ 0 ≤ p.2) → (O.map (·.1)).Nodup → O.Pairwise (fun p q => p.1 ≠ q.2) →
    (∀ p, p ∈ O → gv (O.foldl cpI ws) p.1 = gv ws p.2) ∧ ∀ x, 0 ≤ x → x ∉ O.map (·.1) → gv (O.foldl cpI ws) x = gv ws x
  | [], ws, _, _, _ => ⟨(fun p hp => nomatch hp), fun _ _ _ => rfl⟩
  | p :: O, ws, rg, nd, pw => by
    rw [List.map_cons] at nd
    have n2 := List.nodup_cons.mp nd
    have p2 := List.pairwise_cons.mp pw
    have r := rg p (List.mem_cons_self ..)
    obtain ⟨h1, h2⟩ := copies_do (O := O) (ws := cpI ws p) (fun q hq => by rw [cpI_len]; exact rg q (List.mem_cons_of_mem _ hq)) n2.2 p2.2
    rw [List.foldl_cons]
    refine ⟨fun q hq => ?_, fun x x0 hx => ?_⟩
    · rcases List.mem_cons.mp hq with e | hq
      · subst e
        rw [h2 q.1 r.1 n2.1, gv_cp r.1 r.2.1 r.1, if_pos rfl]
      · rw [h1 q hq, gv_cp r.1 r.2.1 (rg q (List.mem_cons_of_mem _ hq)).2.2, if_neg fun z => p2.1 q hq z.symm]
    · rw [List.map_cons] at hx
      rw [h2 x x0 fun z => hx (List.mem_cons_of_mem _ z), gv_cp r.1 r.2.1 x0, if_neg fun z => hx (by rw [z]; exact List.mem_cons_self ..)]
def Eff (ws res : List Int) : Int → List Int → Prop
  | _, [] => True
  | y, x :: t => gv res x = gv ws y ∧ Eff ws res x t
def lastD : Int → List Int → Int
  | y, [] => y
  | _, x :: t => lastD x t
theorem swaps_do {b : Int} {ws : List Int} : ∀ {t : List Int} {y : Int} {w : List Int}, (∀ x, x ∈ b :: t → 0 ≤ x ∧ x < w.length) → (b :: t).Nodup → gv w b = gv ws y → (∀ x, x ∈ t → gv w x = gv ws x) →
    Eff ws (t.foldl (fun w x => swI w b x) w) y t ∧ gv (t.foldl (fun w x => swI w b x) w) b = gv ws (lastD y t) ∧ ∀ x, 0 ≤ x → x ∉ b :: t → gv (t.foldl (fun w x => swI w b x) w) x = gv w x
  | [], y, w, _, _, hb, _ => ⟨trivial, hb, fun _ _ _ => rfl⟩
  | z :: t, y, w, rg, nd, hb, ht => by
    have n2 := List.nodup_cons.mp nd
    have n3 := List.nodup_cons.mp n2.2
    have rb := rg b (List.mem_cons_self ..)
    have rz := rg z (List.mem_cons_of_mem _ (List.mem_cons_self ..))
    have bz : b ≠ z := fun e => n2.1 (by rw [e]; exact List.mem_cons_self ..)
    have at_ : ∀ {x}, 0 ≤ x → gv (swI w b z) x = if x = z then gv w b else if x = b then gv w z else gv w x := fun x0 => gv_sw rb.1 rb.2 rz.1 rz.2 x0
    have bt : b ∉ t := fun h => n2.1 (List.mem_cons_of_mem _ h)
    obtain ⟨h1, h2, h3⟩ := swaps_do (b := b) (ws := ws) (t := t) (y := z) (w := swI w b z) (fun x hx => by
        rw [swI_len]
        rcases List.mem_cons.mp hx with e | hx
        · rw [e]; exact rb
        · exact rg x (List.mem_cons_of_mem _ (List.mem_cons_of_mem _ hx))) (List.nodup_cons.mpr ⟨bt, n3.2⟩)
      (by rw [at_ rb.1, if_neg bz, if_pos rfl]; exact ht z (List.mem_cons_self ..))
      (fun x hx => by
        have rx := rg x (List.mem_cons_of_mem _ (List.mem_cons_of_mem _ hx))
        rw [at_ rx.1, if_neg fun e => n3.1 (by rw [← e]; exact hx), if_neg fun e => bt (by rw [← e]; exact hx)]
        exact ht x (List.mem_cons_of_mem _ hx))
    rw [List.foldl_cons]
    refine ⟨⟨?_, h1⟩, h2, fun x x0 hx => ?_⟩
    · rw [h3 z rz.1 (fun h => (List.mem_cons.mp h).elim (fun e => bz e.symm) n3.1), at_ rz.1, if_pos rfl]
      exact hb
    · have hz : x ≠ z := fun e => hx (by rw [e]; exact List.mem_cons_of_mem _ (List.mem_cons_self ..))
      have hb : x ≠ b := fun e => hx (by rw [e]; exact List.mem_cons_self ..)
      rw [h3 x x0 (fun h => (List.mem_cons.mp h).elim hb fun h => hx (List.mem_cons_of_mem _ (List.mem_cons_of_mem _ h))), at_ x0, if_neg hz, if_neg hb]
section
variable {f : Int → Option Int} {b : Int}
/-- each one of t has its source just ahead -/
def FCh (f : Int → Option Int) : Int → List Int → Prop
  | _, [] => True
  | y, x :: t => f x = some y ∧ FCh f x t
theorem fch_snoc : ∀ {t : List Int} {y x : Int}, FCh f y t → f x = some (lastD y t) → FCh f y (t ++ [x])
  | [], y, x, _, e => ⟨e, trivial⟩
  | z :: t, y, x, h, e => ⟨h.1, fch_snoc h.2 e⟩
theorem lastD_snoc : ∀ {t : List Int} {y x : Int}, lastD y (t ++ [x]) = x
  | [], _, _ => rfl
  | z :: t, _, _ => lastD_snoc (t := t)
theorem fch_app : ∀ {t u : List Int} {y : Int}, FCh f y (t ++ u) → FCh f y t ∧ FCh f (lastD y t) u
  | [], u, y, h => ⟨trivial, h⟩
  | z :: t, u, y, h => ⟨⟨h.1, (fch_app h.2).1⟩, (fch_app (t := t) h.2).2⟩
theorem goes_fch : ∀ {T : List Int} {x : Int}, Goes f b x T → FCh f b (T.reverse ++ [x])
  | [], x, h => ⟨h, trivial⟩
  | y :: T, x, h => by
    rw [List.reverse_cons]
    refine fch_snoc (goes_fch h.2) ?_
    rw [lastD_snoc]
    exact h.1
theorem IsBack.fch {T : List Int} (h : IsBack f b T) : FCh f b T.reverse ∧ f b = some (lastD b T.reverse) := by
  have := fch_app (goes_fch h.go)
  exact ⟨this.1, this.2.1⟩
theorem eff_fch {ws res : List Int} : ∀ {t : List Int} {y : Int}, Eff ws res y t → FCh f y t → ∀ x, x ∈ t → ∃ v, f x = some v ∧ gv res x = gv ws v
  | [], _, _, _, x, hx => nomatch hx
  | z :: t, y, e, h, x, hx => by
    rcases List.mem_cons.mp hx with q | hx
    · rw [q]; exact ⟨y, h.1, e.1⟩
    · exact eff_fch e.2 h.2 x hx
/-- a ring's swaps -/
theorem ring_do (hf : ∀ x, f x ≠ some x) {n : Nat} {R ws : List Int} (h : R ∈ ringsOf f n) (rg : ∀ x, x ∈ R → 0 ≤ x ∧ x < ws.length) :
    (∀ x, x ∈ R → ∃ v, f x = some v ∧ v ∈ R ∧ gv (ringW ws R) x = gv ws v) ∧ ∀ x, 0 ≤ x → x ∉ R → gv (ringW ws R) x = gv ws x := by
  have nd := ring_nd hf h
  obtain ⟨b, T, t, e, _⟩ := ring_back hf h
  subst e
  obtain ⟨h1, h2, h3⟩ := swaps_do (b := b) (ws := ws) (t := T.reverse) (y := b) (w := ws) rg nd rfl (fun _ _ => rfl)
  obtain ⟨c1, c2⟩ := t.fch
  have cl : ∀ x v, x ∈ b :: T.reverse → f x = some v → v ∈ b :: T.reverse := fun x v hx e => ring_mem.mpr (t.closed x v (ring_mem.mp hx) e)
  refine ⟨fun x hx => ?_, h3⟩
  rcases List.mem_cons.mp hx with e | hx2
  · rw [e]; exact ⟨_, c2, cl b _ (List.mem_cons_self ..) c2, h2⟩
  · obtain ⟨v, e, q⟩ := eff_fch h1 c1 x hx2
    exact ⟨v, e, cl x v hx e, q⟩
theorem rings_do (hf : ∀ x, f x ≠ some x) {n : Nat} : ∀ {RS : List (List Int)} {ws : List Int}, (∀ R, R ∈ RS → R ∈ ringsOf f n) → RS.Pairwise (fun A B => ∀ x, x ∈ A → x ∉ B) → (∀ x, x ∈ RS.flatten → 0 ≤ x ∧ x < ws.length) →
    (∀ x, x ∈ RS.flatten → ∃ v, f x = some v ∧ v ∈ RS.flatten ∧ gv (RS.foldl ringW ws) x = gv ws v) ∧ ∀ x, 0 ≤ x → x ∉ RS.flatten → gv (RS.foldl ringW ws) x = gv ws x
  | [], ws, _, _, _ => ⟨(fun x hx => nomatch hx), fun _ _ _ => rfl⟩
  | R :: RS, ws, hm, pw, rg => by
    have p2 := List.pairwise_cons.mp pw
    rw [List.flatten_cons] at rg
    obtain ⟨a1, a2⟩ := ring_do hf (hm R (List.mem_cons_self ..)) (ws := ws) fun x hx => rg x (List.mem_append_left _ hx)
    obtain ⟨b1, b2⟩ := rings_do hf (RS := RS) (ws := ringW ws R) (fun S hS => hm S (List.mem_cons_of_mem _ hS)) p2.2 (fun x hx => by rw [ringW_len]; exact rg x (List.mem_append_right _ hx))
    have ap : ∀ x, x ∈ R → x ∉ RS.flatten := fun x hx h => by
      obtain ⟨S, hS, hx2⟩ := List.mem_flatten.mp h
      exact p2.1 S hS x hx hx2
    rw [List.flatten_cons, List.foldl_cons]
    refine ⟨fun x hx => ?_, fun x x0 hx => ?_⟩
    · rcases List.mem_append.mp hx with h | h
      · obtain ⟨v, e, hv, q⟩ := a1 x h
        exact ⟨v, e, List.mem_append_left _ hv, (b2 x (rg x hx).1 (ap x h)).trans q⟩
      · obtain ⟨v, e, hv, q⟩ := b1 x h
        exact ⟨v, e, List.mem_append_right _ hv, q.trans (a2 v (rg v (List.mem_append_right _ hv)).1 fun z => ap v z hv)⟩
    · rw [b2 x x0 fun z => hx (List.mem_append_right _ z), a2 x x0 fun z => hx (List.mem_append_left _ z)]
end
theorem lk_real {ld : Lead} (nd : (ld.map (·.1)).Nodup) (x : Int) : lk (real ld) x = if lk ld x = some x then none else lk ld x := by
  have nr : ((real ld).map (·.1)).Nodup := nd.sublist (List.Sublist.map _ (List.filter_sublist ..))
  cases h : lk ld x with
  | none =>
    rw [if_neg (fun z => nomatch z)]
    have := lk_none.mp h
    exact lk_none.mpr fun z => this (by
      obtain ⟨p, hp, e⟩ := List.mem_map.mp z
      exact List.mem_map.mpr ⟨p, (List.mem_filter.mp hp).1, e⟩)
  | some v =>
    by_cases c : v = x
    · subst c
      rw [if_pos rfl]
      refine lk_none.mpr fun z => ?_
      obtain ⟨p, hp, e⟩ := List.mem_map.mp z
      have hp2 := List.mem_filter.mp hp
      have : lk ld p.1 = some p.2 := lk_of nd hp2.1
      rw [e, h] at this
      have e2 : v = p.2 := Option.some.inj this
      exact of_decide_eq_true hp2.2 (by rw [e, e2])
    · rw [if_neg fun z => c (Option.some.inj z)]
      exact lk_of nr (List.mem_filter.mpr ⟨lk_mem h, decide_eq_true fun z => c z.symm⟩)
def onceI (ws : List Int) (ld : Lead) : List Int := (rangeI ws.length).map fun x => gv ws ((lk ld x).getD x)
theorem rangeI_at {n i : Nat} (h : i < n) : (rangeI n)[i]? = some (i : Int) := by
  unfold rangeI
  rw [List.getElem?_map, List.getElem?_range h]; rfl
theorem gv_ext {a b : List Int} (l : a.length = b.length) (h : ∀ x : Int, 0 ≤ x → x < a.length → gv a x = gv b x) : a = b := by
  refine List.ext_getElem l fun i h1 h2 => ?_
  have := h i (by omega) (by omega)
  unfold gv at this
  rw [Int.toNat_natCast, List.getD_eq_getElem?_getD, List.getD_eq_getElem?_getD, List.getElem?_eq_getElem h1, List.getElem?_eq_getElem h2] at this
  exact this
theorem onceI_len (ws : List Int) (ld : Lead) : (onceI ws ld).length = ws.length := by unfold onceI; rw [List.length_map, len_rangeI]
theorem gv_once {ws : List Int} {ld : Lead} {x : Int} (x0 : 0 ≤ x) (x1 : x < ws.length) : gv (onceI ws ld) x = gv ws ((lk ld x).getD x) := by
  show (onceI ws ld).getD x.toNat 0 = _
  unfold onceI
  rw [List.getD_eq_getElem?_getD, List.getElem?_map, rangeI_at (by omega)]
  show gv ws ((lk ld (x.toNat : Nat)).getD (x.toNat : Nat)) = _
  rw [show ((x.toNat : Nat) : Int) = x by omega]
/-- the fewest with swaps: they do the lead -/
def swapsW (ws : List Int) (n : Nat) (ld : Lead) : List Int := (ringsOf (lk (real ld)) n).foldl ringW ((outerG 11 (real ld)).1.foldl cpI ws)
theorem swaps_once {ws : List Int} {ld : Lead} (g : GoodM (ws.length : Nat) ld) (n10 : ws.length ≤ 10) : swapsW ws ws.length ld = onceI ws ld := by
  have gr : GoodM (ws.length : Nat) (real ld) := ⟨fun p hp => g.rg p (List.mem_filter.mp hp).1, g.nd.sublist (List.Sublist.map _ (List.filter_sublist ..))⟩
  have no : ∀ x, lk (real ld) x ≠ some x := fun x e => by
    rw [lk_real g.nd] at e
    split at e
    · cases e
    · rename_i h; exact h e
  have fl := left_rings gr no n10
  have pm := outer_perm 11 (real ld)
  have ord := outer_order 11 (real ld)
  have nd : ((outerG 11 (real ld)).1.map (·.1) ++ (outerG 11 (real ld)).2.map (·.1)).Nodup := by
    have := (pm.map (·.1)).nodup_iff.mpr gr.nd
    rwa [List.map_append] at this
  have nd2 := List.nodup_append.mp nd
  have rgO : ∀ p, p ∈ (outerG 11 (real ld)).1 → p ∈ real ld := fun p hp => outer_sub 11 _ (.inl hp)
  have rgL : ∀ p, p ∈ (outerG 11 (real ld)).2 → p ∈ real ld := fun p hp => outer_sub 11 _ (.inr hp)
  have mem : ∀ x, x ∈ (real ld).map (·.1) ↔ x ∈ (outerG 11 (real ld)).1.map (·.1) ∨ x ∈ (outerG 11 (real ld)).2.map (·.1) := fun x => by
    rw [← List.mem_append, ← List.map_append]
    exact (pm.map (·.1)).mem_iff.symm
  unfold swapsW
  generalize (outerG 11 (real ld)).1 = O at *
  generalize (outerG 11 (real ld)).2 = L at *
  obtain ⟨c1, c2⟩ := copies_do (O := O) (ws := ws) (fun p hp => by have := gr.rg p (rgO p hp); omega) nd2.1 ord.1
  have lw : (O.foldl cpI ws).length = ws.length := fold_len cpI_len O ws
  generalize O.foldl cpI ws = w at *
  have rgF : ∀ x, x ∈ (ringsOf (lk (real ld)) ws.length).flatten → 0 ≤ x ∧ x < w.length := fun x hx => by
    obtain ⟨p, hp, e⟩ := List.mem_map.mp (fl.mem_iff.mp hx)
    subst e
    have := gr.rg p (rgL p hp)
    omega
  obtain ⟨d1, d2⟩ := rings_do no (n := ws.length) (ws := w) (fun R hR => hR) (rings_apart no ws.length) rgF
  refine gv_ext (by rw [fold_len ringW_len, onceI_len, lw]) fun x x0 x1 => ?_
  rw [fold_len ringW_len, lw] at x1
  rw [gv_once x0 x1]
  by_cases hF : x ∈ (ringsOf (lk (real ld)) ws.length).flatten
  · obtain ⟨v, e, hv, q⟩ := d1 x hF
    rw [q, c2 v (rgF v hv).1 fun z => nd2.2.2 v z v (fl.mem_iff.mp hv) rfl]
    rw [lk_real g.nd] at e
    split at e
    · cases e
    · rw [e]; rfl
  · rw [d2 x x0 hF]
    by_cases hO : x ∈ O.map (·.1)
    · obtain ⟨p, hp, e⟩ := List.mem_map.mp hO
      subst e
      rw [c1 p hp]
      have : lk ld p.1 = some p.2 := lk_of g.nd (List.mem_filter.mp (rgO p hp)).1
      rw [this]; rfl
    · rw [c2 x x0 hO]
      have : x ∉ (real ld).map (·.1) := fun z => ((mem x).mp z).elim hO fun z => hF (fl.mem_iff.mpr z)
      have := lk_none.mpr this
      rw [lk_real g.nd] at this
      split at this
      · rename_i h; rw [h]; rfl
      · rw [this]; rfl
theorem swaps_count {n : Nat} {ld : Lead} (g : GoodM n ld) (n10 : n ≤ 10) : (outerG 11 (real ld)).1.length + (ringsOf (lk (real ld)) n).flatten.length = (real ld).length := by
  have gr : GoodM n (real ld) := ⟨fun p hp => g.rg p (List.mem_filter.mp hp).1, g.nd.sublist (List.Sublist.map _ (List.filter_sublist ..))⟩
  have no : ∀ x, lk (real ld) x ≠ some x := fun x e => by
    rw [lk_real g.nd] at e
    split at e
    · cases e
    · rename_i h; exact h e
  have := (left_rings gr no n10).length_eq
  have := (outer_perm 11 (real ld)).length_eq
  rw [List.length_append] at this
  rw [List.length_map] at *
  omega
end MV
namespace XR
open PySem PySem.Spec PyProof.Rows L2
theorem hu65 {k : Nat} {A : Around} (hr : Room k A) : A.units + 65 < cLine := by have := hr.un; omega
/-- a op1 b op2 c op3 d -/
def tChain3 (r1 r2 r3 : R2) (ta tb tc td : TE) : TE := fun σ H Q => ta σ H fun x H1 => tb σ H1 fun y H2 => r1 x y H2 fun z H3 => ∃ k, z = .bl k ∧
  (if k = true then tc σ H3 fun u H4 => r2 y u H4 fun z H5 => ∃ k, z = .bl k ∧ (if k = true then td σ H5 fun v H6 => r3 u v H6 Q else Q (.bl false) H5) else Q (.bl false) H3)
section
variable {X : Cx} {a b c d : Expr} {ta tb tc td : TE} {pos : Pos}
theorem pt_chain3 {op op' op'' : CmpOp} {r r' r'' : R2} (ho : OpR X (compareOp op) r) (ho' : OpR X (compareOp op') r') (ho'' : OpR X (compareOp op'') r'') (ha : PE X a ta) (hb : PE X b tb) (hc : PE X c tc) (hd : PE X d td)
    (hm : lastMarks [op, op', op''] [b, c, d] = false := by with_unfolding_all rfl) : PT X (.Compare a [op, op', op''] [b, c, d] pos) (tTest (tChain3 r r' r'' ta tb tc td)) := by
  refine ⟨fun pins s σ H Q I h => ?_⟩
  refine isTrue_chain (thn (ha.run pins s σ H _ I h) fun v s1 ⟨x, H1, I1, r1, q1⟩ => test_link (thn (hb.run pins s1 σ H1 _ I1 q1) fun u s2 ⟨y, H2, I2, r2, q2⟩ =>
    thn (ho pins s2 σ H2 x y v u _ I2 r1 r2 q2) fun d s3 ⟨z, H3, I3, r3, k, e, q3⟩ => ?_)) hm
  subst e
  cases r3
  refine wpAny_truthy_bool ?_
  cases k with
  | false =>
    obtain ⟨k', e', q'⟩ := q3
    cases e'
    exact ite_ff ⟨H3, I3, q'⟩
  | true =>
    refine ite_tt (test_link (thn (hc.run pins s3 σ H3 _ I3 q3) fun w' s4 ⟨z', H4, I4, r4, q4⟩ => thn (ho' pins s4 σ H4 y z' u w' _ I4 r2 r4 q4) fun d' s5 ⟨z2, H5, I5, r5, k2, e2, q5⟩ => ?_))
    subst e2
    cases r5
    refine wpAny_truthy_bool ?_
    cases k2 with
    | false =>
      obtain ⟨k', e', q'⟩ := q5
      cases e'
      exact ite_ff ⟨H5, I5, q'⟩
    | true =>
      refine ite_tt (test_last (thn (hd.run pins s5 σ H5 _ I5 q5) fun w2 s6 ⟨z3, H6, I6, r6, q6⟩ => thn (ho'' pins s6 σ H6 z' z3 w' w2 _ I6 r4 r6 q6) fun d' s7 ⟨z4, H7, I7, r7, k3, e3, q7⟩ => ?_))
      subst e3
      cases r7
      exact wpAny_truthy_bool ⟨H7, I7, q7⟩
end
/-! ### len(set(xs)) of whole numbers, some alike -/
theorem dedup_nd : ∀ {l acc : List Int}, acc.Nodup → (l.foldl step_dedup acc).Nodup
  | [], _, h => h
  | k :: l, acc, h => by
    rw [List.foldl_cons]
    refine dedup_nd ?_
    unfold step_dedup
    by_cases c : acc.any (· == k) = true
    · rw [if_pos c]; exact h
    · rw [if_neg c]
      refine List.nodup_append.mpr ⟨h, by simp, fun x hx y hy e => c ?_⟩
      rw [List.mem_singleton.mp hy] at e
      exact List.any_eq_true.mpr ⟨x, hx, by simp [e]⟩
theorem range_vals (ns : List Int) : (List.range ns.length).map (fun i => ns.getD i 0) = ns := by
  refine List.ext_getElem (by simp) fun i h1 h2 => ?_
  rw [List.getElem_map, List.getElem_range, List.getD_eq_getElem?_getD, List.getElem?_eq_getElem h2]
  rfl
theorem met_mem (ns : List Int) (k : Int) : k ∈ firstMet (fun i => ns.getD i 0) ns.length ↔ k ∈ ns := by
  have h := firstMet_any (fun i => ns.getD i 0) ns.length k
  rw [range_vals] at h
  have ok : ∀ l : List Int, l.any (· == k) = true ↔ k ∈ l := fun l => by
    rw [List.any_eq_true]
    exact ⟨fun ⟨x, hx, e⟩ => by have := eq_of_beq e; rw [← this]; exact hx, fun h => ⟨k, h, by simp⟩⟩
  rw [← ok, ← ok, h]
/-- as many as there are unlike ones -/
theorem count_iff {ks ns : List Int} (nd : ks.Nodup) (h : ∀ k, k ∈ ks ↔ k ∈ ns) : ks.length ≤ ns.length ∧ (ks.length = ns.length ↔ ns.Nodup) := by
  have l1 : ks.length ≤ ns.length := nd.length_le_of_subset fun x hx => (h x).mp hx
  refine ⟨l1, fun e => ?_, fun n2 => ?_⟩
  · exact (MV.perm_sub nd (fun x hx => (h x).mp hx) (by omega)).nodup_iff.mpr nd
  · have := n2.length_le_of_subset (l₂ := ks) fun x hx => (h x).mpr hx
    omega
def tLenSet (K : PySem.W.Frag) (ta : TE) : TE := fun σ H Q => ta σ H fun x H1 => ∃ (l : Addr) (ns : List Int), x = V.ref l ∧ (SqL K H1 l (ns.map V.int) ∨ SqT K H1 l (ns.map V.int)) ∧ ns.length < 64 ∧ ∀ c : Nat, c ≤ ns.length → (c = ns.length ↔ ns.Nodup) → Q (.int (c : Nat)) H1
section
variable {X : Cx}
theorem pe_lenSet {a : Expr} {ta : TE} {p p2 q pos : Pos} (hc : X.calm = true) (hg : Gl X "len") (hm : X.mg "len" = none) (hg2 : Gl X "set") (hm2 : X.mg "set" = none) (ha : PE X a ta)
    (one : starEach [a] X.env = (false, eval a X.env) :: starEach [] X.env := by rfl) : PE X (.Call (.Name "len" p) [.Call (.Name "set" p2) [a] [] q] [] pos) (tLenSet X.K ta) := by
  constructor
  intro pins s σ H Q I h
  refine Call_ (ld_blt I hg hm PySem.boot_len (PyProof.Rows.callWith_builtin1 (PyProof.Rows.args_cons ?_ rfl) rfl rfl))
  refine Call_ (ld_blt I hg2 hm2 PyProof.Rows.boot_set (PyProof.Rows.callWith_type1 (PyProof.Rows.args_cons (thn (ha.run pins s σ H _ I h) fun v s1 ⟨x, H1, I1, r1, q1⟩ => PyProof.Rows.args_nil ?_) one) one rfl))
  obtain ⟨l, ns, rfl, hq, h64, qq⟩ := q1
  cases r1
  rcases hq with hq | hq
  · obtain ⟨its, r, pl, hz⟩ := I1.list hq
    have sz : its.toArray.size = ns.length := by rw [List.size_toArray, ← r.length, List.length_map]
    refine call_set_list (I1.ok.hd hc) pl.isList (ns := ns) (by simpa using r.ints) (by unfold scanBound; omega) fun h' tk hS hk => PyProof.Rows.args_nil ?_
    rw [sz] at hS
    obtain ⟨o, es, ep, t, ho, hex, hd, _, _, _, hf, hn⟩ := hS
    have cn := count_iff (ks := firstMet (fun i => ns.getD i 0) ns.length) (ns := ns) (dedup_nd List.nodup_nil) (met_mem ns)
    have I2 : Inv X pins σ H1 { s1 with heap := h', toks := tk } := I1.kept fun b o e => hk b o (Heap.lt_size e) e
    refine call_len_set ho hex hd hf (by rw [hn]; have := cn.1; omega) ⟨.int _, H1, I2.tok _, ⟨_, by rw [hn]⟩, qq _ cn.1 cn.2⟩
  · obtain ⟨its, r, pl, hz⟩ := I1.tuple hq
    have hi : IntsAre its.toArray.toList ns := by simpa using r.ints
    refine call_set_tupI ns (I1.ok.hd hc) pl hi (by unfold scanBound; omega) fun h' tk c hS hc1 hk => PyProof.Rows.args_nil ?_
    obtain ⟨o, es, ep, t, ho, hex, hd, _, nd, mem, _, hf, hn, _⟩ := hS
    have cn := count_iff (ks := es.toList.map keyOf) (ns := ns) nd (fun k => by rw [← mem k]; simp)
    have le : (es.toList.map keyOf).length = c := by rw [List.length_map, Array.length_toList]; exact hn
    rw [le] at cn
    have I2 : Inv X pins σ H1 { s1 with heap := h', toks := tk } := I1.kept fun b o e => hk b o e
    refine call_len_set ho hex hd hf (by rw [hn]; omega) ⟨.int _, H1, I2.tok _, ⟨_, by rw [hn]⟩, qq _ cn.1 cn.2⟩
end
end XR
namespace CP
open PySem PySem.Spec PyProof.Rows L2 MV CX
local macro_rules | `(tactic| walk_at "go") => `(tactic| repeat (first
  | with_reducible refine MV.k_seq ?_ | with_reducible refine MV.k_asg ?_ | with_reducible refine MV.k_name ?_ | with_reducible refine MV.k_op ?_ | ((with_reducible apply MV.k_var); exact rfl) | with_reducible refine MV.k_c ?_
  | with_reducible refine MV.k_add ?_ | with_reducible refine MV.k_sub ?_ | with_reducible refine MV.k_lt ?_ | with_reducible refine MV.k_le ?_ | with_reducible refine MV.k_gt ?_ | with_reducible refine MV.k_ge ?_ | with_reducible refine MV.k_eqI ?_ | with_reducible refine MV.k_neI ?_
  | with_reducible refine MV.k_test ?_ | with_reducible refine MV.k_B ?_ | with_reducible refine MV.k_bl ?_ | with_reducible refine MV.k_blV ?_ | with_reducible refine MV.k_and ?_ | with_reducible refine MV.k_or ?_ | with_reducible refine MV.k_not ?_ | with_reducible refine MV.k_andV ?_ | with_reducible refine MV.k_orV ?_ | with_reducible refine MV.k_notV ?_
  | with_reducible refine MV.k_if ?_ | with_reducible refine MV.k_tru ?_ | with_reducible refine MV.k_chain ?_ | with_reducible refine MV.k_next ?_ | with_reducible refine MV.k_drop ?_ | with_reducible refine MV.k_ret ?_ | with_reducible refine MV.k_retN ?_ | with_reducible refine MV.k_ifS ?_ | with_reducible refine MV.k_brk ?_ | with_reducible refine MV.k_cont ?_
  | with_reducible refine MV.k_nil ?_ | with_reducible refine MV.k_cons ?_ | with_reducible refine MV.k_tup ?_ | with_reducible refine MV.k_lst ?_ | with_reducible refine MV.k_cb ?_ | with_reducible refine MV.k_call ?_ | with_reducible refine MV.k_gnil ?_ | with_reducible refine MV.k_gcons ?_ | with_reducible refine MV.k_gsub ?_
  | with_reducible refine MV.k_bm ?_ | with_reducible refine MV.k_bm0 ?_ | with_reducible refine MV.k_un ?_ | with_reducible refine MV.k_neg ?_ | with_reducible refine MV.k_isN ?_ | with_reducible refine MV.k_notN ?_ | with_reducible refine L2.iteT ?_ | with_reducible refine L2.iteF ?_
  | with_reducible refine MV.k_iList ?_ | with_reducible refine MV.k_iTup ?_ | with_reducible refine MV.k_iRng1 ?_ | with_reducible refine MV.k_lc ?_ | with_reducible refine MV.k_for ?_
  | with_reducible refine MV.k_yes ?_ | with_reducible refine MV.k_dput ?_ | with_reducible refine MV.k_dget ?_ | with_reducible refine MV.k_dget1 ?_ | with_reducible refine MV.k_sl ?_ | with_reducible refine MV.k_nopart ?_ | with_reducible refine MV.k_part ?_ | with_reducible refine MV.k_pint ?_ | with_reducible refine MV.k_dnew ?_ | with_reducible refine MV.k_lstRg ?_ | with_reducible refine MV.k_rg1 ?_
  | with_reducible refine CX.k_callS ?_ | with_reducible refine CX.k_iEnum ?_))
def t_last_goals (K : PySem.W.Frag) (w : World) : TS :=
  (tSeq (tAsg (tLc (iList K (tVar 0)) (gTup K 2 (gCons (gName 2) (gCons (gName 3) gNil))) tYes (tVar 3) [2, 3]) (gName 1))
    (tRet (tLc (iList K (tVar 0)) (gTup K 2 (gCons (gName 2) (gCons (gName 3) gNil))) (tTest (tOp (rIn K true) (tVar 2) (tVar 1))) (tTup (tCons (tVar 2) (tCons (tVar 3) tNil))) [2, 3])))
def t_outer_pairs (K : PySem.W.Frag) (w : World) (s_real_pairs : Sp) (s_last_goals : Sp) : TS :=
  (tSeq (tAsg (tLst tNil) (gName 1))
    (tSeq (tAsg (tCall s_real_pairs [] E0 (tCons (tVar 0) tNil)) (gName 2))
    (tSeq (tAsg (tCall s_last_goals [] E0 (tCons (tVar 2) tNil)) (gName 3))
    (tSeq (tWhile (vTru K (tVar 3)) (tSeq (tDrop (tBM K "list" rExtend (tVar 1) (tCons (tVar 3) tNil)))
    (tSeq (tAsg (tLc (iList K (tVar 2)) (gName 4) (tTest (tOp (rNotInD K) (tVar 4) (tVar 3))) (tVar 4) [4]) (gName 2))
    (tAsg (tCall s_last_goals [] E0 (tCons (tVar 2) tNil)) (gName 3)))))
    (tRet (tVar 1))))))
def t_by_swaps (K : PySem.W.Frag) (w : World) (s_check_lead : Sp) (s_rings : Sp) (s_outer_pairs : Sp) : TS :=
  (tSeq (tDrop (tCall s_check_lead [] E0 (tCons (tVar 0) (tCons (tVar 1) tNil))))
    (tSeq (tAsg (tLc (iList K (tCall s_outer_pairs [] E0 (tCons (tVar 1) tNil))) (gTup K 2 (gCons (gName 4) (gCons (gName 5) gNil))) tYes (tTup (tCons (tC (.str "copy")) (tCons (tVar 4) (tCons (tVar 5) tNil)))) [4, 5]) (gName 2))
    (tSeq (tFor (iList K (tCall s_rings [] E0 (tCons (tVar 0) (tCons (tVar 1) tNil)))) (gName 3) (tDrop (tBM K "list" rExtend (tVar 2) (tCons (tLc (iTup K (tSl (rSlA K) (tVar 3) (tPart (tC (.int 1))) tNoPart)) (gName 6) tYes (tTup (tCons (tC (.str "swap")) (tCons (tOp (rIxT K) (tVar 3) (tC (.int 0))) (tCons (tVar 6) tNil)))) [6]) tNil))))
    (tRet (tVar 2)))))
section
variable {K : PySem.W.Frag} {w : World} {H : Hp}
abbrev PsAt (K : PySem.W.Frag) (G : Hp) (ts : List Addr) (m : Lead) : Prop := Paired (fun t (x : Int × Int) => SqT K G t [.int x.1, .int x.2]) ts m
theorem PsAt.mono {G G1 : Hp} {ts : List Addr} {m : Lead} (h : PsAt K G ts m) (s : Same G G1) : PsAt K G1 ts m := MV.paired_mono (fun _ _ q => sqT_mono s q) h
theorem PsAt.at {G : Hp} {ts : List Addr} {m : Lead} (h : PsAt K G ts m) {i : Nat} {x : V} (e : (ts.map V.ref)[i]? = some x) : ∃ t p, m[i]? = some p ∧ x = .ref t ∧ ts[i]? = some t ∧ SqT K G t [.int p.1, .int p.2] := by
  rw [List.getElem?_map] at e
  cases et : ts[i]? with
  | none => rw [et] at e; cases e
  | some t =>
    rw [et] at e
    cases e
    obtain ⟨p, ep, q⟩ := paired_get h et
    exact ⟨t, p, ep, rfl, rfl, q⟩
theorem PsAt.dp {G : Hp} : ∀ {ts : List Addr} {m : Lead}, PsAt K G ts m → DpAll K G (ts.map V.ref) (m.map pdPair)
  | _, _, .nil => .nil
  | _, _, .cons h r => .cons (.tup h (.cons (.int _) (.cons (.int _) .nil))) (PsAt.dp r)
theorem PsAt.lead {G : Hp} {l : Addr} {ts : List Addr} {m : Lead} (h : PsAt K G ts m) (hl : SqL K G l (ts.map V.ref)) : LeadAt K G l m := ⟨⟨_, hl, h.dp⟩⟩
/-! ### pairs as data -/
theorem lay_pairs : ∀ m : Lead, PyData.canLayAll0 (m.map pdPair) = true
  | [] => rfl
  | p :: r => by
    show (PyData.canLay0 (pdPair p) && PyData.canLayAll0 (r.map pdPair)) = true
    rw [lay_pairs r]; rfl
theorem depth_pairs (m : Lead) : PyData.depthAll (m.map pdPair) ≤ 1 := depthAll_le fun d hd => by
  obtain ⟨p, _, e⟩ := List.mem_map.mp hd
  subst e
  exact Nat.le_refl _
theorem pair_shaped (p : Int × Int) : SeqAt.shaped (pdPair p) = true := rfl
theorem lead_shaped (ld : Lead) : SeqAt.shaped (pdLead ld) = true := by
  have l0 : (pdLead ld).canLay0 = true := lay_pairs ld
  have d0 : (pdLead ld).depth ≤ 64 := by
    show PyData.depthAll (ld.map pdPair) + 1 ≤ 64
    have := depth_pairs ld
    omega
  unfold SeqAt.shaped
  rw [l0, decide_eq_true d0]; rfl
theorem eqv_pair (p q : Int × Int) : PyData.eqv (pdPair p) (pdPair q) = decide (p = q) := by
  obtain ⟨a, b⟩ := p
  obtain ⟨c, d⟩ := q
  have e : PyData.eqv (pdPair (a, b)) (pdPair (c, d)) = (a == c && (b == d && true)) := by
    first | rfl | simp [pdPair, PyData.eqv, PyData.eqvAll]
  rw [e, Bool.and_true]
  by_cases h : a = c
  · by_cases h2 : b = d
    · subst h h2; simp
    · rw [decide_eq_false fun z => h2 (Prod.mk.inj z).2]; simp [h2]
  · rw [decide_eq_false fun z => h (Prod.mk.inj z).1]; simp [h]
theorem any_pairs (m : Lead) (p : Int × Int) : ((m.map pdPair).any fun z => PyData.eqv z (pdPair p)) = decide (p ∈ m) := by
  rw [List.any_map]
  have e : ((fun z => PyData.eqv z (pdPair p)) ∘ pdPair) = fun q => decide (q = p) := by funext q; exact eqv_pair q p
  rw [e]
  by_cases h : p ∈ m
  · rw [decide_eq_true h, List.any_eq_true]
    exact ⟨p, h, by simp⟩
  · rw [decide_eq_false h, List.any_eq_false]
    intro q hq z
    have := of_decide_eq_true z
    exact h (by rw [← this]; exact hq)
theorem dp_pair {G : Hp} {t : Addr} {p : Int × Int} (h : SqT K G t [.int p.1, .int p.2]) : Dp K G (.ref t) (pdPair p) := .tup h (.cons (.int _) (.cons (.int _) .nil))
/-! ### the pairs whose goal is no source -/
def spLastGoals (K : PySem.W.Frag) : Sp := fun vs H Q _ => ∃ (G : Hp) (l : Addr) (m : Lead), vs = [.ref l] ∧ Same G H ∧ LeadAt K G l m ∧ m.length ≤ 1000 ∧
  ∀ (p : Addr) (ts : List Addr) (G1 H1 : Hp), Ext [] G H G1 H1 → H p = none → G1 p = none → H1 p = some (.lst (ts.map V.ref)) → PsAt K G1 ts (lastG m) → Q (.ref p) H1
theorem last_snoc {m : Lead} {i : Nat} {p : Int × Int} (ss : List Int) (e : m[i]? = some p) : (m.take (i + 1)).filter (fun p => !decide (p.1 ∈ ss)) = if p.1 ∈ ss then (m.take i).filter (fun p => !decide (p.1 ∈ ss)) else (m.take i).filter (fun p => !decide (p.1 ∈ ss)) ++ [p] := by
  rw [List.take_add_one, e, List.filter_append]
  by_cases h : p.1 ∈ ss
  · rw [if_pos h]; simp [h]
  · rw [if_neg h]; simp [h]
theorem pure_last_goals (vs : List V) (Q : VK) (E : XK) (h : spLastGoals K vs H Q E) : t_last_goals K w { nx := fun _ H1 => Q .non H1, rt := Q } (start ["pairs", "sources", "goal", "source"] vs) H := by
  obtain ⟨G, l, m, rfl, s, ⟨xs, hx, hd⟩, l1, q⟩ := h
  have ll : xs.length = m.length := by rw [dpAll_len hd, List.length_map]
  unfold t_last_goals
  walk_at "go"
  refine ⟨_, rfl, ⟨_, s.seq hx⟩, ?_⟩
  refine lcL (M := []) s (fun _ h => nomatch h) hx (by omega) (fun i acc G1 H1 => acc = ((m.take i).map (fun x : Int × Int => x.2)).map V.int) (fun _ _ _ _ _ _ h => h) rfl
    (fun i x acc G1 H1 Ry Rn hi ex e iv hy hn => ?_) (fun p acc G1 H1 e np gp hp hl iv => ?_)
  · subst iv
    obtain ⟨t, p, ep, rfl, ht⟩ := pair_at hd ex
    walk_at "go"
    refine k_tupN (sqT_mono e.s (sqT_mono e.g ht)) rfl ?_
    walk_at "go"
    refine ⟨rfl, ?_⟩
    walk_at "go"
    refine hy _ _ _ (Ext.refl e.s) ?_
    rw [List.take_add_one, ep]
    simp
  · subst iv
    rw [ll, List.take_length] at hp
    have e1 := e.frz np gp hp
    have g1 : (upd G1 p (.lst ((m.map (fun x : Int × Int => x.2)).map V.int))) p = some (.lst ((m.map (fun x : Int × Int => x.2)).map V.int)) := upd_same
    generalize upd G1 p (.lst ((m.map (fun x : Int × Int => x.2)).map V.int)) = G2 at *
    walk_at "go"
    refine ⟨_, rfl, ⟨_, e1.s.seq (e1.g.seq hx)⟩, ?_⟩
    refine lcL (M := []) e1.s (fun _ h => nomatch h) (e1.g.seq hx) (by omega) (fun i acc G1 H1 => ∃ ts : List Addr, acc = ts.map V.ref ∧ PsAt K G1 ts ((m.take i).filter (fun p => !decide (p.1 ∈ m.map (fun x : Int × Int => x.2))))) (fun _ _ _ _ _ _ h => h) ⟨[], rfl, .nil⟩
      (fun i x acc G3 H3 Ry Rn hi ex e3 iv hy hn => ?_) (fun r acc G3 H3 e3 nr gr hr hl iv => ?_)
    · obtain ⟨ts, rfl, pr⟩ := iv
      obtain ⟨t, pp, ep, rfl, ht⟩ := pair_at hd ex
      walk_at "go"
      refine k_tupN (sqT_mono e3.s (sqT_mono e3.g (sqT_mono e1.g ht))) rfl ?_
      walk_at "go"
      refine ⟨rfl, ?_⟩
      walk_at "go"
      refine k_ninI (.inl (SqL.of (e3.s _ _ (e3.g _ _ g1)))) ?_
      walk_at "go"
      refine k_nboth (fun h => ?_) (fun h => ?_)
      · walk_at "go"
        refine ⟨sz1 (by simp), fun t2 n2 => ?_⟩
        refine hy _ _ _ ((Ext.refl e3.s).new n2) ⟨ts ++ [t2], by simp, ?_⟩
        rw [last_snoc _ ep, if_neg h]
        exact paired_app (PsAt.mono pr (same_new (e3.s.free n2))) (SqT.of upd_same)
      · refine hn _ _ (Ext.refl e3.s) ⟨ts, rfl, ?_⟩
        rw [last_snoc _ ep, if_pos h]
        exact pr
    · obtain ⟨ts, rfl, pr⟩ := iv
      rw [ll, List.take_length] at pr
      exact q r ts G3 H3 (e1.trans e3) (e1.d _ nr) gr hr pr
/-! ### the outer pairs -/
def spOuter (K : PySem.W.Frag) : Sp := fun vs H Q _ => ∃ (G : Hp) (l : Addr) (n : Int) (ld : Lead), vs = [.ref l] ∧ Same G H ∧ LeadAt K G l ld ∧ GoodM n ld ∧ n ≤ 10 ∧
  ∀ (p : Addr) (ts : List Addr) (G1 H1 : Hp), Ext [] G H G1 H1 → H p = none → G1 p = some (.lst (ts.map V.ref)) → PsAt K G1 ts (outerG 11 (real ld)).1 → Q (.ref p) H1
theorem outer_fuel : ∀ (n : Nat) (m : Lead), m.length ≤ n → outerG (n + 1) m = outerG n m
  | 0, m, h => by
    have : m = [] := List.eq_nil_of_length_eq_zero (by omega)
    subst this; rfl
  | n + 1, m, h => by
    show (if (lastG m).isEmpty = true then ([], m) else (lastG m ++ (outerG (n + 1) (leftG m)).1, (outerG (n + 1) (leftG m)).2)) = (if (lastG m).isEmpty = true then ([], m) else (lastG m ++ (outerG n (leftG m)).1, (outerG n (leftG m)).2))
    by_cases c : (lastG m).isEmpty = true
    · rw [if_pos c, if_pos c]
    · rw [if_neg c, if_neg c, outer_fuel n (leftG m) (by have := left_len c; omega)]
theorem left_snoc {m : Lead} {i : Nat} {p : Int × Int} (rd : Lead) (e : m[i]? = some p) : (m.take (i + 1)).filter (fun p => !decide (p ∈ rd)) = if p ∈ rd then (m.take i).filter (fun p => !decide (p ∈ rd)) else (m.take i).filter (fun p => !decide (p ∈ rd)) ++ [p] := by
  rw [List.take_add_one, e, List.filter_append]
  by_cases h : p ∈ rd
  · rw [if_pos h]; simp [h]
  · rw [if_neg h]; simp [h]
theorem real_len (ld : Lead) : (real ld).length ≤ ld.length := List.length_filter_le ..
theorem pure_outer (vs : List V) (Q : VK) (E : XK) (h : spOuter K vs H Q E) : t_outer_pairs K w (spRealPairs K) (spLastGoals K) { nx := fun _ H1 => Q .non H1, rt := Q } (start ["lead", "ordered", "left", "ready", "pair"] vs) H := by
  obtain ⟨G, l, n, ld, rfl, s, la, gm, n10, q⟩ := h
  have l10 : ld.length ≤ 10 := by have := gm.len; omega
  have rl := real_len ld
  unfold t_outer_pairs
  walk_at "go"
  refine ⟨sz1 (Nat.zero_le _), fun po npo => ?_⟩
  have e1 := (Ext.refl (M := [po]) s).tmp (o := .lst []) npo
  have gpo := s.free npo
  walk_at "go"
  refine ⟨G, l, ld, rfl, e1.s, la, by omega, fun pl tl G2 H2 e2 npl gpl prl => ?_⟩
  have hpo2 : H2 po = some (.lst []) := e2.keep0 upd_same
  have gpo2 : G2 po = none := e2.un gpo upd_same
  walk_at "go"
  refine ⟨G2, pl, real ld, rfl, e2.s, PsAt.lead prl (SqL.of gpl), by omega, fun pr tr G3 H3 e3 npr gpr hpr prr => ?_⟩
  have hpo3 := e3.keep0 hpo2
  have gpo3 := e3.un gpo2 hpo2
  have npo3 : po ≠ pr := fun z => by rw [z] at hpo2; rw [hpo2] at npr; cases npr
  have e123 : Ext [po] G H (upd G3 pr (.lst (tr.map V.ref))) H3 := ((e1.trans e2.to).trans e3.to).frz (((e1.trans e2.to).d _ npr)) gpr hpr
  have gpo3' : (upd G3 pr (.lst (tr.map V.ref))) po = none := by rw [upd_ne npo3]; exact gpo3
  have gpl3 : (upd G3 pr (.lst (tr.map V.ref))) pl = some (.lst (tl.map V.ref)) := by
    rw [upd_ne fun z => by rw [z] at gpl; rw [e3.g _ _ gpl] at gpr; cases gpr]
    exact e3.g _ _ gpl
  have gpr3 : (upd G3 pr (.lst (tr.map V.ref))) pr = some (.lst (tr.map V.ref)) := upd_same
  have prl3 : PsAt K (upd G3 pr (.lst (tr.map V.ref))) tl (real ld) := (PsAt.mono prl e3.g).mono (same_new gpr)
  have prr3 : PsAt K (upd G3 pr (.lst (tr.map V.ref))) tr (lastG (real ld)) := prr.mono (same_new gpr)
  generalize upd G3 pr (.lst (tr.map V.ref)) = G4 at *
  walk_at "go"
  refine k_while (M := [po]) e123.s (fun k σ1 G5 H5 => ∃ (pl pr : Addr) (to tl tr : List Addr) (dn cur : Lead) (x4 : Option V), σ1 = [some (.ref l), some (.ref po), some (.ref pl), some (.ref pr), x4] ∧ G5 po = none ∧ H5 po = some (.lst (to.map V.ref)) ∧ PsAt K G5 to dn ∧
      G5 pl = some (.lst (tl.map V.ref)) ∧ PsAt K G5 tl cur ∧ G5 pr = some (.lst (tr.map V.ref)) ∧ PsAt K G5 tr (lastG cur) ∧ dn ++ (outerG k cur).1 = (outerG 11 (real ld)).1 ∧ cur.length ≤ k ∧ k ≤ 11 ∧ dn.length + cur.length ≤ 1000) 11
    ⟨pl, pr, [], tl, tr, [], real ld, none, rfl, gpo3', hpo3, .nil, gpl3, prl3, gpr3, prr3, rfl, by omega, Nat.le_refl _, by simp; omega⟩ (fun k σ1 G5 H5 e5 iv => ?_)
  obtain ⟨pl, pr, to, tl, tr, dn, cur, x4, rfl, gpo5, hpo5, po5, gpl5, pl5, gpr5, pr5, eq, ck, k11, sz⟩ := iv
  have e5s := e5.s
  walk_at "go"
  refine ⟨!(tr.map V.ref).isEmpty, .inl ⟨_, SqL.of (e5s _ _ gpr5), rfl⟩, ?_⟩
  have ltr : tr.length = (lastG cur).length := MV.paired_len pr5
  by_cases hE : tr = []
  · subst hE
    have hl : lastG cur = [] := List.eq_nil_of_length_eq_zero ltr.symm
    refine L2.iteF ?_
    have e0 : (outerG k cur).1 = [] := by
      cases k with
      | zero => rfl
      | succ k => unfold outerG; rw [hl]; rfl
    rw [e0, List.append_nil] at eq
    walk_at "go"
    have e6 := (e123.trans e5)
    have fin : Ext [] G H (upd G5 po (.lst (to.map V.ref))) H5 := (e6.frz npo gpo5 hpo5).fin (Ext.refl (M := []) (e6.frz npo gpo5 hpo5).s) (fun _ z => nomatch z) |>.fin (M2 := []) (Ext.refl (e6.frz npo gpo5 hpo5).s) (fun _ z => nomatch z) |> fun z => by
      exact (Ext.refl (M := []) s).fin z (fun p hp => by rw [List.mem_singleton.mp hp]; exact .inr npo)
    refine q po to _ H5 fin npo upd_same ?_
    rw [← eq]
    exact po5.mono (same_new gpo5)
  · have hb : (!(tr.map V.ref).isEmpty) = true := by
      cases tr with
      | nil => exact absurd rfl hE
      | cons _ _ => rfl
    rw [hb]
    refine L2.iteT ?_
    have hl : ¬ (lastG cur).isEmpty = true := fun z => hE (by
      have := List.isEmpty_iff.mp z
      rw [this] at ltr
      exact List.eq_nil_of_length_eq_zero ltr)
    cases k with
    | zero =>
      have : cur = [] := List.eq_nil_of_length_eq_zero (by omega)
      subst this
      exact absurd rfl hl
    | succ k =>
      have lc := (cut_perm cur).length_eq
      rw [List.length_append] at lc
      have ll := left_len hl
      refine ⟨fun σ3 H3 => ∃ G3, Ext [po] G4 _ G3 H3 ∧ ∃ (pl pr : Addr) (to tl tr : List Addr) (dn cur : Lead) (x4 : Option V), σ3 = [some (.ref l), some (.ref po), some (.ref pl), some (.ref pr), x4] ∧ G3 po = none ∧ H3 po = some (.lst (to.map V.ref)) ∧ PsAt K G3 to dn ∧
        G3 pl = some (.lst (tl.map V.ref)) ∧ PsAt K G3 tl cur ∧ G3 pr = some (.lst (tr.map V.ref)) ∧ PsAt K G3 tr (lastG cur) ∧ dn ++ (outerG k cur).1 = (outerG 11 (real ld)).1 ∧ cur.length ≤ k ∧ k ≤ 11 ∧ dn.length + cur.length ≤ 1000, fun σ3 H3 ⟨G3, e3, iv⟩ => ⟨k, Nat.lt_succ_self _, G3, e3, iv⟩, ?_⟩
      walk_at "go"
      refine ⟨tyL hpo5, ?_⟩
      walk_at "go"
      have lto := MV.paired_len po5
      refine ⟨po, pr, _, _, rfl, rfl, hpo5, e5s _ _ gpr5, sz1 (by rw [List.length_map, List.length_map]; omega), ?_⟩
      have e6 : Ext [po] G5 H5 G5 (upd H5 po (.lst (to.map V.ref ++ tr.map V.ref))) := (Ext.refl e5s).mutM (by simp) gpo5
      have hpo6 : (upd H5 po (.lst (to.map V.ref ++ tr.map V.ref))) po = some (.lst ((to ++ tr).map V.ref)) := by rw [upd_same, List.map_append]
      generalize upd H5 po (.lst (to.map V.ref ++ tr.map V.ref)) = H6 at *
      have lead5 := PsAt.lead pl5 (SqL.of gpl5)
      walk_at "go"
      refine ⟨_, rfl, ⟨_, e6.s.seq (SqL.of gpl5)⟩, ?_⟩
      refine lcL (M := []) e6.s (fun _ h => nomatch h) (SqL.of gpl5) (by rw [List.length_map, MV.paired_len pl5]; omega) (fun i acc G7 H7 => ∃ ts : List Addr, acc = ts.map V.ref ∧ PsAt K G7 ts ((cur.take i).filter (fun p => !decide (p ∈ lastG cur)))) (fun _ _ _ _ _ _ h => h) ⟨[], rfl, .nil⟩
        (fun i x acc G7 H7 Ry Rn hi ex e7 iv hy hn => ?_) (fun r acc G7 H7 e7 nr gr hr hlen iv => ?_)
      · obtain ⟨ts, rfl, prt⟩ := iv
        obtain ⟨t, pp, ep, rfl, _, ht⟩ := pl5.at ex
        walk_at "go"
        refine ⟨rfl, ?_⟩
        walk_at "go"
        have ht7 := sqT_mono e7.s (sqT_mono e7.g ht)
        refine ⟨pdPair pp, (lastG cur).map pdPair, dp_pair ht7, .lst (e7.s.seq (e7.g.seq (SqL.of gpr5))) (dpAll_mono e7.s _ _ (dpAll_mono e7.g _ _ pr5.dp)), pair_shaped _, lead_shaped _, ?_⟩
        rw [any_pairs]
        walk_at "go"
        refine k_nboth (fun h => ?_) (fun h => ?_)
        · walk_at "go"
          refine hy _ _ _ (Ext.refl e7.s) ⟨ts ++ [t], by simp, ?_⟩
          rw [left_snoc _ ep, if_neg h]
          exact paired_app prt (sqT_mono e7.g ht)
        · refine hn _ _ (Ext.refl e7.s) ⟨ts, rfl, ?_⟩
          rw [left_snoc _ ep, if_pos h]
          exact prt
      · obtain ⟨ts, rfl, prt⟩ := iv
        rw [List.length_map, MV.paired_len pl5, List.take_length] at prt
        have hpo7 := e7.keep0 hpo6
        have gpo7 := e7.un gpo5 hpo6
        have npr7 : po ≠ r := fun z => by rw [z] at hpo6; rw [hpo6] at nr; cases nr
        have e8 := e7.frz nr gr hr
        have gr8 : (upd G7 r (.lst (ts.map V.ref))) r = some (.lst (ts.map V.ref)) := upd_same
        have gpo8 : (upd G7 r (.lst (ts.map V.ref))) po = none := by rw [upd_ne npr7]; exact gpo7
        have prt8 : PsAt K (upd G7 r (.lst (ts.map V.ref))) ts (leftG cur) := prt.mono (same_new gr)
        generalize upd G7 r (.lst (ts.map V.ref)) = G8 at *
        walk_at "go"
        refine ⟨G8, r, leftG cur, rfl, e8.s, PsAt.lead prt8 (SqL.of gr8), by omega, fun p9 t9 G9 H9 e9 n9 g9 h9 pr9 => ?_⟩
        have hpo9 := e9.keep0 hpo7
        have gpo9 := e9.un gpo8 hpo7
        have npo9 : po ≠ p9 := fun z => by rw [z] at hpo7; rw [hpo7] at n9; cases n9
        have e10 := e9.frz n9 g9 h9
        walk_at "go"
        have sub : Same G5 (upd G9 p9 (.lst (t9.map V.ref))) := e8.g.trans e10.g
        refine ⟨upd G9 p9 (.lst (t9.map V.ref)), e5.trans ((e6.trans e8.to).trans e10.to), r, p9, to ++ tr, ts, t9, dn ++ lastG cur, leftG cur, _, rfl, by rw [upd_ne npo9]; exact gpo9, hpo9, paired_both (po5.mono sub) (pr5.mono sub), e10.g _ _ gr8, prt8.mono e10.g, upd_same, pr9.mono (same_new g9), ?_, by omega, by omega, by rw [List.length_append]; omega⟩
        rw [← eq]
        show _ = dn ++ (if (lastG cur).isEmpty = true then ([], cur) else (lastG cur ++ (outerG k (leftG cur)).1, (outerG k (leftG cur)).2)).1
        rw [if_neg hl, List.append_assoc]
end
end CP
namespace CP
open PySem PySem.Spec PyProof.Rows L2 MV CX
local macro_rules | `(tactic| walk_at "go") => `(tactic| repeat (first
  | with_reducible refine MV.k_seq ?_ | with_reducible refine MV.k_asg ?_ | with_reducible refine MV.k_name ?_ | with_reducible refine MV.k_op ?_ | ((with_reducible apply MV.k_var); exact rfl) | with_reducible refine MV.k_c ?_
  | with_reducible refine MV.k_add ?_ | with_reducible refine MV.k_sub ?_ | with_reducible refine MV.k_lt ?_ | with_reducible refine MV.k_le ?_ | with_reducible refine MV.k_gt ?_ | with_reducible refine MV.k_ge ?_ | with_reducible refine MV.k_eqI ?_ | with_reducible refine MV.k_neI ?_
  | with_reducible refine MV.k_test ?_ | with_reducible refine MV.k_B ?_ | with_reducible refine MV.k_bl ?_ | with_reducible refine MV.k_blV ?_ | with_reducible refine MV.k_and ?_ | with_reducible refine MV.k_or ?_ | with_reducible refine MV.k_not ?_ | with_reducible refine MV.k_andV ?_ | with_reducible refine MV.k_orV ?_ | with_reducible refine MV.k_notV ?_
  | with_reducible refine MV.k_if ?_ | with_reducible refine MV.k_tru ?_ | with_reducible refine MV.k_chain ?_ | with_reducible refine MV.k_next ?_ | with_reducible refine MV.k_drop ?_ | with_reducible refine MV.k_ret ?_ | with_reducible refine MV.k_retN ?_ | with_reducible refine MV.k_ifS ?_ | with_reducible refine MV.k_brk ?_ | with_reducible refine MV.k_cont ?_
  | with_reducible refine MV.k_nil ?_ | with_reducible refine MV.k_cons ?_ | with_reducible refine MV.k_tup ?_ | with_reducible refine MV.k_lst ?_ | with_reducible refine MV.k_cb ?_ | with_reducible refine MV.k_call ?_ | with_reducible refine MV.k_gnil ?_ | with_reducible refine MV.k_gcons ?_ | with_reducible refine MV.k_gsub ?_
  | with_reducible refine MV.k_bm ?_ | with_reducible refine MV.k_bm0 ?_ | with_reducible refine MV.k_un ?_ | with_reducible refine MV.k_neg ?_ | with_reducible refine MV.k_isN ?_ | with_reducible refine MV.k_notN ?_ | with_reducible refine L2.iteT ?_ | with_reducible refine L2.iteF ?_
  | with_reducible refine MV.k_iList ?_ | with_reducible refine MV.k_iTup ?_ | with_reducible refine MV.k_iRng1 ?_ | with_reducible refine MV.k_lc ?_ | with_reducible refine MV.k_for ?_
  | with_reducible refine MV.k_yes ?_ | with_reducible refine MV.k_dput ?_ | with_reducible refine MV.k_dget ?_ | with_reducible refine MV.k_dget1 ?_ | with_reducible refine MV.k_sl ?_ | with_reducible refine MV.k_nopart ?_ | with_reducible refine MV.k_part ?_ | with_reducible refine MV.k_pint ?_ | with_reducible refine MV.k_dnew ?_ | with_reducible refine MV.k_lstRg ?_ | with_reducible refine MV.k_rg1 ?_
  | with_reducible refine CX.k_callS ?_ | with_reducible refine CX.k_iEnum ?_))
section
variable {K : PySem.W.Frag} {w : World} {H : Hp}
/-! ### by_swaps -/
def cpM (p : Int × Int) : List V := [.str "copy", .int p.1, .int p.2]
def swM : List Int → List (List V)
  | [] => []
  | b :: t => t.map fun x => [.str "swap", .int b, .int x]
def bySwaps (n : Nat) (ld : Lead) : List (List V) := (outerG 11 (real ld)).1.map cpM ++ (ringsOf (lk (real ld)) n).flatMap swM
def spBySwaps (K : PySem.W.Frag) : Sp := fun vs H Q _ => ∃ (G : Hp) (n : Int) (l : Addr) (ld : Lead), vs = [.int n, .ref l] ∧ Same G H ∧ 1 ≤ n ∧ n ≤ 10 ∧ LeadAt K G l ld ∧ GoodM n ld ∧
  ∀ (p : Addr) (ts : List Addr) (G1 H1 : Hp), Ext [] G H G1 H1 → H p = none → G1 p = none → H1 p = some (.lst (ts.map V.ref)) → TsAt K G1 ts (bySwaps n.toNat ld) → Q (.ref p) H1
theorem six1 (n : Nat) : HT.sIx (n + 1) 0 (some 1) = 1 := by
  unfold HT.sIx
  first
    | (simp only []; split <;> omega)
    | (split <;> omega)
    | (simp; omega)
    | omega
theorem cut_tail (z : V) (zs : List V) : cutV (z :: zs) (some 1) none = zs := by
  have e1 : HT.sIx (z :: zs).length (z :: zs).length none = (z :: zs).length := rfl
  have e2 : HT.sIx (z :: zs).length 0 (some 1) = 1 := six1 zs.length
  unfold cutV
  rw [e1, e2]
  exact List.take_of_length_le (by simp)
theorem k_slA1 {t : Addr} {z : V} {zs : List V} {Q : VK} (h : SqT K H t (z :: zs)) (q : ∀ p, H p = none → Q (.ref p) (upd H p (.tup zs))) : rSlA K (.ref t) (some 1) none H Q :=
  ⟨t, z :: zs, rfl, h, fun c => absurd (c.1.symm.trans (six1 zs.length)) (by decide), fun _ p hp => by rw [cut_tail]; exact q p hp⟩
theorem real_no2 (ld : Lead) : ∀ x, lk (real ld) x ≠ some x := fun x => real_no x
theorem ring_short {n : Nat} {ld : Lead} (g : GoodM n ld) (n10 : n ≤ 10) {R : List Int} (h : R ∈ ringsOf (lk (real ld)) n) : R.length ≤ 10 := by
  have c := swaps_count g n10
  have l := g.len
  have r := real_len ld
  have := (ring_nd (real_no2 ld) h).length_le_of_subset (l₂ := (ringsOf (lk (real ld)) n).flatten) fun x hx => List.mem_flatten.mpr ⟨R, h, hx⟩
  omega
theorem outer_short {n : Nat} {ld : Lead} (g : GoodM n ld) (n10 : n ≤ 10) : (outerG 11 (real ld)).1.length ≤ 10 := by
  have c := swaps_count g n10
  have l := g.len
  have r := real_len ld
  omega
theorem swM_len : ∀ R : List Int, (swM R).length = R.length - 1
  | [] => rfl
  | b :: t => by show (t.map _).length = t.length; rw [List.length_map]
theorem flatM_snoc {α β : Type} (g : α → List β) {l : List α} {i : Nat} {a : α} (e : l[i]? = some a) : (l.take (i + 1)).flatMap g = (l.take i).flatMap g ++ g a := by
  rw [List.take_add_one, e, List.flatMap_append]
  simp
theorem pure_by_swaps (vs : List V) (Q : VK) (E : XK) (h : spBySwaps K vs H Q E) : t_by_swaps K w (spCheckLead K) (spRings K) (spOuter K) { nx := fun _ H1 => Q .non H1, rt := Q } (start ["boxes", "lead", "moves", "ring", "goal", "source", "box"] vs) H := by
  obtain ⟨G, n, l, ld, rfl, s, n1, n10, la, gm, q⟩ := h
  have gm' : GoodM (n.toNat : Nat) ld := by rw [show ((n.toNat : Nat) : Int) = n by omega]; exact gm
  have os := outer_short gm' (by omega)
  have rs : ∀ R, R ∈ ringsOf (lk (real ld)) n.toNat → R.length ≤ 10 := fun R hR => ring_short gm' (by omega) hR
  unfold t_by_swaps
  walk_at "go"
  refine ⟨G, n, l, ld, rfl, s, n1, n10, la, gm, fun H1 e1 => ?_⟩
  walk_at "go"
  refine ⟨G, l, n, ld, rfl, e1.s, la, gm, n10, fun po to G2 H2 e2 npo gpo pro => ?_⟩
  have lo := MV.paired_len pro
  generalize hO : (outerG 11 (real ld)).1 = O at *
  walk_at "go"
  refine ⟨_, rfl, ⟨_, e2.s.seq (SqL.of gpo)⟩, ?_⟩
  refine lcL (M := []) e2.s (fun _ h => nomatch h) (SqL.of gpo) (by rw [List.length_map]; omega) (fun i acc G3 H3 => ∃ ts : List Addr, acc = ts.map V.ref ∧ TsAt K G3 ts ((O.take i).map cpM)) (fun _ _ _ _ _ _ h => h) ⟨[], rfl, .nil⟩
    (fun i x acc G3 H3 Ry Rn hi ex e3 iv hy hn => ?_) (fun mv acc G3 H3 e3 nmv gmv hmv hlen iv => ?_)
  · obtain ⟨ts, rfl, pt⟩ := iv
    obtain ⟨t, p, ep, rfl, _, ht⟩ := pro.at ex
    walk_at "go"
    refine k_tupN (sqT_mono e3.s (sqT_mono e3.g ht)) rfl ?_
    walk_at "go"
    refine ⟨rfl, ?_⟩
    walk_at "go"
    refine ⟨sz1 (by simp), fun t2 n2 => ?_⟩
    refine hy _ _ _ ((Ext.refl e3.s).new n2) ⟨ts ++ [t2], by simp, ?_⟩
    rw [List.take_add_one, ep, List.map_append]
    exact paired_app (TsAt.mono pt (same_new (e3.s.free n2))) (SqT.of upd_same)
  · obtain ⟨ts, rfl, pt⟩ := iv
    rw [List.length_map, lo, List.take_length] at pt
    have e4 := (e1.trans e2).trans e3
    walk_at "go"
    refine ⟨G3, n, l, ld, rfl, e4.s, n1, n10, la.mono e4.g, gm, fun pr xs G4 H4 e5 npr gpr dpr => ?_⟩
    have hmv5 := e5.keep0 hmv
    have gmv5 := e5.un gmv hmv
    have lx : xs.length = (ringsOf (lk (real ld)) n.toNat).length := by rw [dpAll_len dpr, List.length_map]
    have lr : (ringsOf (lk (real ld)) n.toNat).length ≤ n.toNat := ringsOf_len
    have nmv0 : H mv = none := (e1.trans e2).d _ nmv
    generalize hRS : ringsOf (lk (real ld)) n.toNat = RS at *
    walk_at "go"
    refine ⟨_, rfl, ⟨_, e5.s.seq (SqL.of gpr)⟩, ?_⟩
    refine forL (M := [mv]) e5.s (SqL.of gpr) (fun i σ1 G6 H6 => ∃ (x3 x4 x5 x6 : Option V) (ts : List Addr), σ1 = [some (.int n), some (.ref l), some (.ref mv), x3, x4, x5, x6] ∧ G6 mv = none ∧ H6 mv = some (.lst (ts.map V.ref)) ∧ TsAt K G6 ts (O.map cpM ++ (RS.take i).flatMap swM) ∧ ts.length ≤ 10 + 10 * i)
      ⟨none, none, none, none, ts, rfl, gmv5, hmv5, by rw [List.take_zero]; show TsAt K G4 ts (O.map cpM ++ []); rw [List.append_nil]; exact TsAt.mono pt e5.g, by rw [CX.paired_len pt, List.length_map]; omega⟩
      (fun i x σ1 G6 H6 hi ex e6 iv => ?_) (fun σ1 G6 H6 e6 iv => ?_)
    · obtain ⟨x3, x4, x5, x6, ts, rfl, gmv6, hmv6, pt6, lt6⟩ := iv
      obtain ⟨t, R, eR, rfl, ht⟩ := ints_at dpr ex
      have mR : R ∈ RS := List.mem_of_getElem? eR
      have sR := rs R mR
      obtain ⟨b, T, tb, eb, _⟩ := ring_back (real_no2 ld) (n := n.toNat) (R := R) (by rw [hRS]; exact mR)
      generalize T.reverse = U at eb
      subst eb
      have ht6 := sqT_mono e6.g ht
      walk_at "go"
      refine ⟨tyL hmv6, ?_⟩
      walk_at "go"
      refine k_slA1 (sqT_mono e6.s ht6) fun u nu => ?_
      have e7 := (Ext.refl (M := [mv]) e6.s).new (o := .tup (U.map V.int)) nu
      have nmu : mv ≠ u := fun z => by rw [z, nu] at hmv6; cases hmv6
      have gmv7 : (upd G6 u (.tup (U.map V.int))) mv = none := by rw [upd_ne nmu]; exact gmv6
      have hmv7 : (upd H6 u (.tup (U.map V.int))) mv = some (.lst (ts.map V.ref)) := by rw [upd_ne nmu]; exact hmv6
      have hu7 : (upd G6 u (.tup (U.map V.int))) u = some (.tup (U.map V.int)) := upd_same
      generalize upd G6 u (.tup (U.map V.int)) = G7 at *
      generalize upd H6 u (.tup (U.map V.int)) = H7 at *
      refine ⟨_, rfl, ⟨_, SqT.of (e7.s _ _ hu7)⟩, ?_⟩
      refine lcT (M := []) e7.s (fun _ h => nomatch h) (SqT.of hu7) (by rw [List.length_map]; rw [List.length_cons] at sR; omega) (fun j acc G8 H8 => ∃ us : List Addr, acc = us.map V.ref ∧ TsAt K G8 us ((U.take j).map fun x => [V.str "swap", .int b, .int x])) (fun _ _ _ _ _ _ h => h) ⟨[], rfl, .nil⟩
        (fun j y acc G8 H8 Ry Rn hj ey e8 iv hy hn => ?_) (fun c acc G8 H8 e8 nc gc hc hlen iv => ?_)
      · obtain ⟨us, rfl, pu⟩ := iv
        rw [List.getElem?_map] at ey
        cases eU : U[j]? with
        | none => rw [eU] at ey; cases ey
        | some yi =>
          rw [eU] at ey
          cases ey
          walk_at "go"
          refine ⟨rfl, ?_⟩
          walk_at "go"
          refine k_ixT (sqT_mono e8.s (sqT_mono (e7.g.trans e8.g) ht6)) (v := .int b) (atI_nat (j := 0) rfl) ?_
          walk_at "go"
          refine ⟨sz1 (by simp), fun t2 n2 => ?_⟩
          refine hy _ _ _ ((Ext.refl e8.s).new n2) ⟨us ++ [t2], by simp, ?_⟩
          rw [List.take_add_one, eU, List.map_append]
          exact paired_app (TsAt.mono pu (same_new (e8.s.free n2))) (SqT.of upd_same)
      · obtain ⟨us, rfl, pu⟩ := iv
        rw [List.length_map, List.take_length] at pu
        have lu := CX.paired_len pu
        rw [List.length_map] at lu
        rw [List.length_cons] at sR
        have hmv8 := e8.keep0 hmv7
        have gmv8 := e8.un gmv7 hmv7
        walk_at "go"
        refine ⟨mv, c, _, _, rfl, rfl, hmv8, hc, sz1 (by rw [List.length_map, List.length_map]; have : i < 10 := by omega
                                                         omega), ?_⟩
        have e9 : Ext [mv] G8 H8 G8 (upd H8 mv (.lst (ts.map V.ref ++ us.map V.ref))) := (Ext.refl e8.s).mutM (by simp) gmv8
        walk_at "go"
        refine ⟨G8, (e7.trans e8.to).trans e9, _, _, _, _, ts ++ us, rfl, gmv8, by rw [upd_same, List.map_append], ?_, by rw [List.length_append]; omega⟩
        rw [flatM_snoc _ eR, ← List.append_assoc]
        exact paired_both (TsAt.mono pt6 (e7.g.trans e8.g)) pu
    · obtain ⟨x3, x4, x5, x6, ts, rfl, gmv6, hmv6, pt6, lt6⟩ := iv
      rw [lx, List.take_length] at pt6
      walk_at "go"
      have e7 := ((e4.trans e5).fin e6 fun p hp => by rw [List.mem_singleton.mp hp]; exact .inr nmv0)
      refine q mv ts G6 H6 e7 nmv0 gmv6 hmv6 ?_
      unfold bySwaps
      rw [hO, hRS]
      exact pt6
/-! ### what they do -/
theorem mvI_cp (ws : List Int) (p : Int × Int) : mvI ws (cpM p) = cpI ws p := by
  unfold cpM
  rw [mvI_eq, if_neg (by decide)]
  rfl
theorem mvI_sw (ws : List Int) (a b : Int) : mvI ws [.str "swap", .int a, .int b] = swI ws a b := by
  rw [mvI_eq, if_pos rfl]
  rfl
theorem fold_cp : ∀ (O : Lead) (ws : List Int), (O.map cpM).foldl mvI ws = O.foldl cpI ws
  | [], _ => rfl
  | p :: O, ws => by rw [List.map_cons, List.foldl_cons, List.foldl_cons, mvI_cp, fold_cp]
theorem fold_sw (ws : List Int) : ∀ R : List Int, (swM R).foldl mvI ws = ringW ws R
  | [] => rfl
  | b :: t => by
    show (t.map fun x => [V.str "swap", .int b, .int x]).foldl mvI ws = t.foldl (fun w x => swI w b x) ws
    induction t generalizing ws with
    | nil => rfl
    | cons x t ih => rw [List.map_cons, List.foldl_cons, List.foldl_cons, mvI_sw, ih]
theorem fold_sws : ∀ (RS : List (List Int)) (ws : List Int), (RS.flatMap swM).foldl mvI ws = RS.foldl ringW ws
  | [], _ => rfl
  | R :: RS, ws => by rw [List.flatMap_cons, List.foldl_append, List.foldl_cons, fold_sw, fold_sws]
theorem by_once {ws : List Int} {ld : Lead} (g : GoodM (ws.length : Nat) ld) (n10 : ws.length ≤ 10) : (bySwaps ws.length ld).foldl mvI ws = onceI ws ld := by
  unfold bySwaps
  rw [List.foldl_append, fold_cp, fold_sws]
  exact swaps_once g n10
theorem sws_len (f : Int → Option Int) : ∀ RS : List (List Int), (∀ R, R ∈ RS → R ≠ []) → (RS.flatMap swM).length + RS.length = RS.flatten.length
  | [], _ => rfl
  | R :: RS, h => by
    have ih := sws_len f RS fun S hS => h S (List.mem_cons_of_mem _ hS)
    have hR := h R (List.mem_cons_self ..)
    have l := swM_len R
    have : R.length ≠ 0 := fun z => hR (List.eq_nil_of_length_eq_zero z)
    rw [List.flatMap_cons, List.length_append, List.length_cons, List.flatten_cons, List.length_append]
    omega
theorem ring_ne {f : Int → Option Int} (hf : ∀ x, f x ≠ some x) {n : Nat} {R : List Int} (h : R ∈ ringsOf f n) : R ≠ [] := by
  obtain ⟨b, T, _, e, _⟩ := ring_back hf h
  rw [e]; exact fun z => nomatch z
theorem by_len {n : Nat} {ld : Lead} (g : GoodM n ld) (n10 : n ≤ 10) : (bySwaps n ld).length + (ringsOf (lk (real ld)) n).length = (real ld).length := by
  have c := swaps_count g n10
  have s := sws_len (lk (real ld)) (ringsOf (lk (real ld)) n) fun R hR => ring_ne (real_no2 ld) hR
  unfold bySwaps
  rw [List.length_append, List.length_map]
  omega
theorem canBe_of {n : Int} {u : Str} {i j : Int} (hu : u = "copy" ∨ u = "swap") (i0 : 0 ≤ i) (i1 : i < n) (j0 : 0 ≤ j) (j1 : j < n) (ne : i ≠ j) : canBe n [.str u, .int i, .int j] = true := by
  show ((decide (u = "copy") || decide (u = "swap")) && (decide (0 ≤ i ∧ i < n) && (decide (0 ≤ j ∧ j < n) && !decide (i = j)))) = true
  rw [decide_eq_true (show 0 ≤ i ∧ i < n from ⟨i0, i1⟩), decide_eq_true (show 0 ≤ j ∧ j < n from ⟨j0, j1⟩), decide_eq_false ne]
  rcases hu with rfl | rfl <;> rfl
theorem by_can {n : Nat} {ld : Lead} (g : GoodM n ld) (n10 : n ≤ 10) : ∀ m, m ∈ bySwaps n ld → canBe (n : Nat) m = true := by
  intro m hm
  have gr := GoodM.real g
  unfold bySwaps at hm
  rcases List.mem_append.mp hm with h | h
  · obtain ⟨p, hp, e⟩ := List.mem_map.mp h
    subst e
    have hp := outer_sub 11 _ (.inl hp)
    have r := gr.rg p hp
    have ne := of_decide_eq_true (List.mem_filter.mp hp).2
    exact canBe_of (.inl rfl) r.1 r.2.1 r.2.2.1 r.2.2.2 ne
  · obtain ⟨R, hR, h⟩ := List.mem_flatMap.mp h
    have nd := ring_nd (real_no2 ld) hR
    have rg : ∀ x, x ∈ R → 0 ≤ x ∧ x < n := fun x hx => by
      have := (left_rings gr (real_no2 ld) n10).mem_iff.mp (List.mem_flatten.mpr ⟨R, hR, hx⟩)
      obtain ⟨p, hp, e⟩ := List.mem_map.mp this
      subst e
      have := gr.rg p (outer_sub 11 _ (.inr hp))
      omega
    cases R with
    | nil => cases h
    | cons b t =>
      obtain ⟨x, hx, e⟩ := List.mem_map.mp h
      subst e
      have r1 := rg b (List.mem_cons_self ..)
      have r2 := rg x (List.mem_cons_of_mem _ hx)
      exact canBe_of (.inr rfl) r1.1 r1.2 r2.1 r2.2 fun z => (List.nodup_cons.mp nd).1 (by rw [z]; exact hx)
end
end CP
namespace CP
open PySem PySem.Spec PyProof.Rows L2 MV CX
local macro_rules | `(tactic| walk_at "go") => `(tactic| repeat (first
  | with_reducible refine MV.k_seq ?_ | with_reducible refine MV.k_asg ?_ | with_reducible refine MV.k_name ?_ | with_reducible refine MV.k_op ?_ | ((with_reducible apply MV.k_var); exact rfl) | with_reducible refine MV.k_c ?_
  | with_reducible refine MV.k_add ?_ | with_reducible refine MV.k_sub ?_ | with_reducible refine MV.k_lt ?_ | with_reducible refine MV.k_le ?_ | with_reducible refine MV.k_gt ?_ | with_reducible refine MV.k_ge ?_ | with_reducible refine MV.k_eqI ?_ | with_reducible refine MV.k_neI ?_
  | with_reducible refine MV.k_test ?_ | with_reducible refine MV.k_B ?_ | with_reducible refine MV.k_bl ?_ | with_reducible refine MV.k_blV ?_ | with_reducible refine MV.k_and ?_ | with_reducible refine MV.k_or ?_ | with_reducible refine MV.k_not ?_ | with_reducible refine MV.k_andV ?_ | with_reducible refine MV.k_orV ?_ | with_reducible refine MV.k_notV ?_
  | with_reducible refine MV.k_if ?_ | with_reducible refine MV.k_tru ?_ | with_reducible refine MV.k_chain ?_ | with_reducible refine MV.k_next ?_ | with_reducible refine MV.k_drop ?_ | with_reducible refine MV.k_ret ?_ | with_reducible refine MV.k_retN ?_ | with_reducible refine MV.k_ifS ?_ | with_reducible refine MV.k_brk ?_ | with_reducible refine MV.k_cont ?_
  | with_reducible refine MV.k_nil ?_ | with_reducible refine MV.k_cons ?_ | with_reducible refine MV.k_tup ?_ | with_reducible refine MV.k_lst ?_ | with_reducible refine MV.k_cb ?_ | with_reducible refine MV.k_call ?_ | with_reducible refine MV.k_gnil ?_ | with_reducible refine MV.k_gcons ?_ | with_reducible refine MV.k_gsub ?_
  | with_reducible refine MV.k_bm ?_ | with_reducible refine MV.k_bm0 ?_ | with_reducible refine MV.k_un ?_ | with_reducible refine MV.k_neg ?_ | with_reducible refine MV.k_isN ?_ | with_reducible refine MV.k_notN ?_ | with_reducible refine L2.iteT ?_ | with_reducible refine L2.iteF ?_
  | with_reducible refine MV.k_iList ?_ | with_reducible refine MV.k_iTup ?_ | with_reducible refine MV.k_iRng1 ?_ | with_reducible refine MV.k_lc ?_ | with_reducible refine MV.k_for ?_
  | with_reducible refine MV.k_yes ?_ | with_reducible refine MV.k_dput ?_ | with_reducible refine MV.k_dget ?_ | with_reducible refine MV.k_dget1 ?_ | with_reducible refine MV.k_sl ?_ | with_reducible refine MV.k_nopart ?_ | with_reducible refine MV.k_part ?_ | with_reducible refine MV.k_pint ?_ | with_reducible refine MV.k_dnew ?_ | with_reducible refine MV.k_lstRg ?_ | with_reducible refine MV.k_rg1 ?_
  | with_reducible refine CX.k_callS ?_ | with_reducible refine CX.k_iEnum ?_))
def t__law_at_once (K : PySem.W.Frag) (w : World) : TS :=
  (tSeq (tAsg (tCB (vDictP K) (tCons (tVar 1) tNil)) (gName 2))
    (tRet (tLc (iRng1 (tCons (tCB (vLen K) (tCons (tVar 0) tNil)) tNil)) (gName 3) tYes (tOp (rIxL K) (tVar 0) (tDGet2 (tVar 2) (tVar 3) (tVar 3))) [3])))
section
variable {K : PySem.W.Frag} {w : World} {H : Hp}
theorem k_dget2 {td ty tx : TE} {σ : L2.St} {Q : VK} (q : td σ H fun x H1 => ∃ a, x = .ref a ∧ IsD H1 a ∧ ty σ H1 fun y H2 => tx σ H2 fun z H3 => ∃ o, DGet H3 a y o ∧ Q (o.getD z) H3) : tDGet2 td ty tx σ H Q := q
theorem ps_of : ∀ {G : Hp} {xs : List V} {m : Lead}, DpAll K G xs (m.map pdPair) → ∃ ts : List Addr, xs = ts.map V.ref ∧ PsAt K G ts m
  | _, _, [], h => by cases h; exact ⟨[], rfl, .nil⟩
  | _, _, p :: r, h => by
    cases h with
    | cons h1 h2 =>
      obtain ⟨t, rfl, ht⟩ := pair_of h1
      obtain ⟨ts, rfl, hr⟩ := ps_of h2
      exact ⟨t :: ts, rfl, .cons ht hr⟩
theorem k_dictL {l : Addr} {m : Lead} {G : Hp} {Q : VK} (s : Same G H) (la : LeadAt K G l m) (nd : (m.map (·.1)).Nodup) (q : ∀ p, H p = none → Q (.ref p) (upd H p (.dK (dct m)))) : vDictP K [.ref l] H Q := by
  obtain ⟨xs, hx, hd⟩ := la.ex
  obtain ⟨ts, rfl, pr⟩ := ps_of hd
  exact ⟨l, ts, dct m, rfl, s.seq hx, MV.paired_mono (fun _ _ z => sqT_mono s z) (pairs_dct pr), fun p np => by rw [merge_dct nd]; exact q p np⟩
/-! ### the law's own leads, all at once -/
def spLawAtOnce (K : PySem.W.Frag) : Sp := fun vs H Q _ => ∃ (G : Hp) (wl : Addr) (ws : List Int) (l : Addr) (ld : Lead), vs = [.ref wl, .ref l] ∧ Same G H ∧ SqL K G wl (ws.map V.int) ∧ ws.length ≤ 10 ∧ LeadAt K G l ld ∧ GoodM (ws.length : Nat) ld ∧
  ∀ (p : Addr) (G1 H1 : Hp), Ext [] G H G1 H1 → H p = none → G1 p = some (.lst ((onceI ws ld).map V.int)) → Q (.ref p) H1
theorem pure_law_at_once (vs : List V) (Q : VK) (E : XK) (h : spLawAtOnce K vs H Q E) : t__law_at_once K w { nx := fun _ H1 => Q .non H1, rt := Q } (start ["_law_worths_here", "_law_lead_here", "_law_known_here", "_law_box"] vs) H := by
  obtain ⟨G, wl, ws, l, ld, rfl, s, hw, w10, la, gm, q⟩ := h
  unfold t__law_at_once
  walk_at "go"
  refine k_dictL s la gm.nd fun d nd => ?_
  have e1 := (Ext.refl (M := []) s).new (o := .dK (dct ld)) nd
  have hd : (upd G d (.dK (dct ld))) d = some (.dK (dct ld)) := upd_same
  have hw1 := e1.g.seq hw
  generalize upd G d (.dK (dct ld)) = G1 at *
  generalize upd H d (.dK (dct ld)) = H1 at *
  walk_at "go"
  refine k_len (.inl (e1.s.seq hw1)) ?_
  walk_at "go"
  rw [List.length_map]
  refine ⟨_, rfl, by omega, by omega, ?_⟩
  refine lcR (n := (ws.length : Int).toNat) (M := []) e1.s (fun _ h => nomatch h) (by omega) (fun i acc G2 H2 => acc = (((rangeI ws.length).take i).map fun x => gv ws ((lk ld x).getD x)).map V.int) (fun _ _ _ _ _ _ h => h) rfl
    (fun i acc G2 H2 Ry Rn hi e2 iv hy hn => ?_) (fun c acc G2 H2 e2 nc gc hc hl iv => ?_)
  · subst iv
    rw [Int.toNat_natCast] at hi
    have i0 : (0 : Int) + (i : Int) = (i : Int) := by omega
    rw [i0]
    walk_at "go"
    refine ⟨rfl, ?_⟩
    walk_at "go"
    refine k_dget2 ?_
    walk_at "go"
    have hd2 : H2 d = some (.dK (dct ld)) := e2.s _ _ (e2.g _ _ hd)
    refine ⟨d, rfl, .inl ⟨_, .inl hd2⟩, ?_⟩
    walk_at "go"
    refine ⟨_, k_get1 e2.s (e2.g _ _ hd), ?_⟩
    have ev : ((lk ld (i : Int)).map V.int).getD (.int (i : Int)) = .int ((lk ld (i : Int)).getD (i : Int)) := by
      cases lk ld (i : Int) <;> rfl
    rw [ev]
    have rg : 0 ≤ (lk ld (i : Int)).getD (i : Int) ∧ (lk ld (i : Int)).getD (i : Int) < ws.length := by
      cases h : lk ld (i : Int) with
      | none => show 0 ≤ (i : Int) ∧ (i : Int) < ws.length; omega
      | some v =>
        have := gm.rg _ (lk_mem h)
        exact ⟨this.2.2.1, this.2.2.2⟩
    refine k_ixL (e2.s.seq (e2.g.seq hw1)) (at_in rg.1 rg.2) ?_
    refine hy _ _ _ (Ext.refl e2.s) ?_
    rw [List.take_add_one, rangeI_at hi, List.map_append, List.map_append]
    rfl
  · subst iv
    rw [Int.toNat_natCast, List.take_of_length_le (by rw [len_rangeI]; exact Nat.le_refl _)] at hc
    have e3 := (e1.trans e2).frz (e1.d _ nc) gc hc
    exact q c _ H2 e3 (e1.d _ nc) upd_same
/-! ### rings led round, and back -/
def roundL (f : Int → Option Int) (F : List Int) : Lead := F.map fun x => (x, (f x).getD 0)
def backL (m : Lead) : Lead := m.map fun p => (p.2, p.1)
theorem fch_at {f : Int → Option Int} : ∀ {t : List Int} {y : Int}, FCh f y t → ∀ {i : Nat} {x : Int}, t[i]? = some x → ∃ v, (y :: t)[i]? = some v ∧ f x = some v
  | [], _, _, i, x, h => by simp at h
  | z :: t, y, h, 0, x, e => by
    have e : z = x := by simpa using e
    subst e
    exact ⟨y, rfl, h.1⟩
  | z :: t, y, h, i + 1, x, e => by
    obtain ⟨v, e2, e3⟩ := fch_at h.2 (i := i) (by simpa using e)
    exact ⟨v, by simpa using e2, e3⟩
theorem lastD_split : ∀ (t : List Int) (y : Int), ∃ u, y :: t = u ++ [lastD y t]
  | [], y => ⟨[], rfl⟩
  | z :: t, y => by
    obtain ⟨u, e⟩ := lastD_split t z
    exact ⟨y :: u, congrArg (List.cons y) e⟩
/-- ring[k - 1] is the source of ring[k] -/
theorem ring_src {f : Int → Option Int} (hf : ∀ x, f x ≠ some x) {n : Nat} {R : List Int} (h : R ∈ ringsOf f n) {k : Nat} {x : Int} (e : R[k]? = some x) : ∃ v, f x = some v ∧ atI (R.map V.int) ((k : Int) - 1) = some (.int v) := by
  obtain ⟨b, T, t, eR, _⟩ := ring_back hf h
  subst eR
  obtain ⟨c1, c2⟩ := t.fch
  generalize T.reverse = U at *
  cases k with
  | zero =>
    have e : b = x := by simpa using e
    subst e
    refine ⟨_, c2, ?_⟩
    obtain ⟨u, eu⟩ := lastD_split U b
    have e2 : ((0 : Nat) : Int) - 1 = -1 := rfl
    rw [e2, eu, List.map_append]
    exact atI_last _ _
  | succ k =>
    obtain ⟨v, e2, e3⟩ := fch_at c1 (i := k) (by simpa using e)
    refine ⟨v, e3, ?_⟩
    rw [show ((k + 1 : Nat) : Int) - 1 = (k : Nat) by omega]
    refine atI_nat ?_
    rw [List.getElem?_map, e2]; rfl
structure Rnd (f : Int → Option Int) (n : Nat) (F : List Int) : Prop where
  nd : F.Nodup
  rg : ∀ x, x ∈ F → 0 ≤ x ∧ x < (n : Int)
  nx : ∀ x, x ∈ F → ∃ y, f x = some y ∧ y ∈ F
  pv : ∀ y, y ∈ F → ∃ x, f x = some y ∧ x ∈ F
theorem Rnd.of {n : Nat} {ld : Lead} (g : GoodM n ld) (n10 : n ≤ 10) : Rnd (lk (real ld)) n (ringsOf (lk (real ld)) n).flatten := by
  have gr := GoodM.real g
  have no := real_no2 ld
  refine ⟨flat_nodup (fun R hR => ring_nd no hR) (rings_apart no n), fun x hx => ?_, fun x hx => ?_, fun y hy => ?_⟩
  · obtain ⟨p, hp, e⟩ := List.mem_map.mp ((left_rings gr no n10).mem_iff.mp hx)
    subst e
    have := gr.rg p (outer_sub 11 _ (.inr hp))
    omega
  · obtain ⟨R, hR, hx⟩ := List.mem_flatten.mp hx
    have hR2 := hR
    obtain ⟨b, T, t, e, _⟩ := ring_back no hR
    subst e
    obtain ⟨y, e2, _⟩ := goes_next t.go (ring_mem.mp hx)
    exact ⟨y, e2, List.mem_flatten.mpr ⟨_, hR2, ring_mem.mpr (t.closed x y (ring_mem.mp hx) e2)⟩⟩
  · obtain ⟨R, hR, hy⟩ := List.mem_flatten.mp hy
    have hR2 := hR
    obtain ⟨b, T, t, e, _⟩ := ring_back no hR
    subst e
    obtain ⟨x, hx, e2⟩ := t.pred y (ring_mem.mp hy)
    exact ⟨x, e2, List.mem_flatten.mpr ⟨_, hR2, ring_mem.mpr hx⟩⟩
theorem round_keys (f : Int → Option Int) (F : List Int) : (roundL f F).map (·.1) = F := by
  unfold roundL
  rw [List.map_map]
  exact List.map_id F
theorem Rnd.round {f : Int → Option Int} {n : Nat} {F : List Int} (r : Rnd f n F) : GoodM (n : Nat) (roundL f F) := by
  refine ⟨fun p hp => ?_, by rw [round_keys]; exact r.nd⟩
  obtain ⟨x, hx, e⟩ := List.mem_map.mp hp
  subst e
  obtain ⟨y, e2, hy⟩ := r.nx x hx
  have h1 := r.rg x hx
  have h2 := r.rg y hy
  show 0 ≤ x ∧ x < (n : Int) ∧ 0 ≤ (f x).getD 0 ∧ (f x).getD 0 < (n : Int)
  rw [e2]
  exact ⟨h1.1, h1.2, h2.1, h2.2⟩
theorem Rnd.perm {f : Int → Option Int} {n : Nat} {F : List Int} (r : Rnd f n F) : (F.map fun x => (f x).getD 0).Perm F :=
  perm_sub r.nd (fun y hy => by
    obtain ⟨x, e, hx⟩ := r.pv y hy
    exact List.mem_map.mpr ⟨x, hx, by rw [e]; rfl⟩) (by simp)
theorem back_keys (f : Int → Option Int) (F : List Int) : (backL (roundL f F)).map (·.1) = F.map fun x => (f x).getD 0 := by
  unfold backL roundL
  rw [List.map_map, List.map_map]
  rfl
theorem Rnd.back {f : Int → Option Int} {n : Nat} {F : List Int} (r : Rnd f n F) : GoodM (n : Nat) (backL (roundL f F)) := by
  refine ⟨fun p hp => ?_, by rw [back_keys]; exact r.perm.nodup_iff.mpr r.nd⟩
  obtain ⟨z, hz, e⟩ := List.mem_map.mp hp
  subst e
  have := r.round.rg z hz
  exact ⟨this.2.2.1, this.2.2.2, this.1, this.2.1⟩
theorem Rnd.there {f : Int → Option Int} {ws : List Int} {F : List Int} (r : Rnd f ws.length F) : onceI (onceI ws (roundL f F)) (backL (roundL f F)) = ws := by
  refine gv_ext (by rw [onceI_len, onceI_len]) fun x x0 x1 => ?_
  rw [onceI_len, onceI_len] at x1
  rw [gv_once x0 (by rw [onceI_len]; exact x1)]
  by_cases hx : x ∈ F
  · obtain ⟨z, e, hz⟩ := r.pv x hx
    have lb : lk (backL (roundL f F)) x = some z := lk_of r.back.nd (List.mem_map.mpr ⟨(z, x), List.mem_map.mpr ⟨z, hz, by rw [e]; rfl⟩, rfl⟩)
    have lr : lk (roundL f F) z = some x := lk_of r.round.nd (List.mem_map.mpr ⟨z, hz, by rw [e]; rfl⟩)
    have rz := r.rg z hz
    rw [lb]
    show gv (onceI ws (roundL f F)) z = _
    rw [gv_once rz.1 rz.2, lr]; rfl
  · have lb : lk (backL (roundL f F)) x = none := lk_none.mpr fun z => hx (by
      rw [back_keys] at z
      exact r.perm.mem_iff.mp z)
    have lr : lk (roundL f F) x = none := lk_none.mpr fun z => hx (by rw [round_keys] at z; exact z)
    rw [lb]
    show gv (onceI ws (roundL f F)) x = _
    rw [gv_once x0 x1, lr]; rfl
/-! ### what is known for a while only -/
theorem Ext.hide {M : List Addr} {G G' H1 H2 G2 : Hp} (e : Ext M G' H1 G2 H2) (s : Same G G') : Ext M G H1 G H2 := ⟨Same.refl _, s.trans (e.g.trans e.s), e.h, e.d, fun _ => .inl rfl⟩
theorem same_lock {G : Hp} {p : Addr} {o : HO} (s : Same G H) (e : H p = some o) : Same (upd G p o) H := fun b u q => by
  by_cases z : b = p
  · subst z; rw [upd_same] at q; cases q; exact e
  · rw [upd_ne z] at q; exact s b u q
theorem same_know {G : Hp} {p : Addr} {o : HO} (g : G p = none) : Same G (upd G p o) := fun b u q => by rw [upd_ne (ne_of_none q g)]; exact q
end
end CP
namespace CP
open PySem PySem.Spec PyProof.Rows L2 MV CX
section
variable {K : PySem.W.Frag} {w : World} {H : Hp}
/-! ### moves as data -/
def pdV : V → PyData
  | .str u => .str u
  | .int i => .int i
  | _ => .none
def pdM (m : List V) : PyData := .tuple (m.map pdV)
theorem strOk2 {u : Str} (h : u = "copy" ∨ u = "swap") : PyData.strOk u = true := by rcases h with rfl | rfl <;> decide +kernel
theorem ok2 {u : Str} (h : u = "copy" ∨ u = "swap") (i j : Int) : (pdM [.str u, .int i, .int j]).canLay0 = true := by
  show (PyData.strOk u && (true && (true && true))) = true
  rw [strOk2 h]
  rfl
theorem dp_mv {n : Int} {m : List V} {t : Addr} (h : canBe n m = true) (ht : SqT K H t m) : Dp K H (.ref t) (pdM m) ∧ (pdM m).canLay0 = true ∧ (pdM m).depth ≤ 1 := by
  obtain ⟨u, i, j, rfl, hu, _⟩ := canBe_in h
  exact ⟨.tup ht (.cons (.str u) (.cons (.int i) (.cons (.int j) .nil))), ok2 hu i j, Nat.le_refl _⟩
theorem dp_mvs {n : Int} : ∀ {ts : List Addr} {ms : List (List V)}, TsAt K H ts ms → (∀ m, m ∈ ms → canBe n m = true) → DpAll K H (ts.map V.ref) (ms.map pdM)
  | _, _, .nil, _ => .nil
  | _, _, .cons p r, h => .cons (dp_mv (h _ (List.mem_cons_self ..)) p).1 (dp_mvs r fun m hm => h m (List.mem_cons_of_mem _ hm))
theorem lay_mvs {n : Int} : ∀ {ms : List (List V)}, (∀ m, m ∈ ms → canBe n m = true) → PyData.canLayAll0 (ms.map pdM) = true ∧ PyData.depthAll (ms.map pdM) ≤ 1
  | [], _ => ⟨rfl, Nat.zero_le _⟩
  | m :: r, h => by
    obtain ⟨a, b⟩ := lay_mvs (ms := r) fun m hm => h m (List.mem_cons_of_mem _ hm)
    obtain ⟨u, i, j, e, hu, _⟩ := canBe_in (h m (List.mem_cons_self ..))
    subst e
    refine ⟨?_, Nat.max_le.mpr ⟨Nat.le_refl _, b⟩⟩
    show (PyData.canLay0 (pdM [.str u, .int i, .int j]) && PyData.canLayAll0 (r.map pdM)) = true
    rw [a, ok2 hu]
    rfl
theorem k_chain3 {r1 r2 r3 : R2} {ta tb tc td : TE} {σ : L2.St} {Q : VK} (q : ta σ H fun x H1 => tb σ H1 fun y H2 => r1 x y H2 fun z H3 => ∃ k, z = .bl k ∧
  (if k = true then tc σ H3 fun u H4 => r2 y u H4 fun z H5 => ∃ k, z = .bl k ∧ (if k = true then td σ H5 fun v H6 => r3 u v H6 Q else Q (.bl false) H5) else Q (.bl false) H3)) : XR.tChain3 r1 r2 r3 ta tb tc td σ H Q := q
theorem k_min2 {i j : Int} {Q : VK} (q : ∀ m : Int, (m = i ∨ m = j) → m ≤ i → m ≤ j → Q (.int m) H) : vMin2 [.int i, .int j] H Q := by
  refine ⟨i, j, rfl, q _ ?_ ?_ ?_⟩ <;> split <;> omega
theorem k_max2 {i j : Int} {Q : VK} (q : ∀ m : Int, (m = i ∨ m = j) → i ≤ m → j ≤ m → Q (.int m) H) : vMax2 [.int i, .int j] H Q := by
  refine ⟨i, j, rfl, q _ ?_ ?_ ?_⟩ <;> split <;> omega
theorem eqv_ints (ns : List Int) : PyData.eqv (.list (ns.map PyData.int)) (.list (ns.map PyData.int)) = true := SeqAt.eqv_refl _ (lay_ints ns)
theorem eqv_lead (ld : Lead) : PyData.eqv (pdLead ld) (pdLead ld) = true := SeqAt.eqv_refl _ (lay_pairs ld)
/-- two lists of whole numbers that are the same -/
theorem k_neSame {a b : Addr} {ns ms : List Int} {Q : VK} (ha : SqL K H a (ns.map V.int)) (hb : SqL K H b (ms.map V.int)) (e : ns = ms) (q : Q (.bl false) H) : rNeD K (.ref a) (.ref b) H Q := by
  subst e
  refine ⟨_, _, .lst ha (dpAll_ints ns), .lst hb (dpAll_ints ns), shaped_ints ns, shaped_ints ns, ?_⟩
  rw [eqv_ints]
  exact q
theorem k_neLead {a b : Addr} {ld : Lead} {Q : VK} (ha : LeadAt K H a ld) (hb : LeadAt K H b ld) (q : Q (.bl false) H) : rNeD K (.ref a) (.ref b) H Q := by
  obtain ⟨xs, h1, d1⟩ := ha.ex
  obtain ⟨ys, h2, d2⟩ := hb.ex
  refine ⟨pdLead ld, pdLead ld, .lst h1 d1, .lst h2 d2, lead_shaped ld, lead_shaped ld, ?_⟩
  rw [eqv_lead]
  exact q
theorem round_snoc {f : Int → Option Int} (A B : List Int) : roundL f (A ++ B) = roundL f A ++ roundL f B := List.map_append
theorem flatt_snoc {l : List (List Int)} {i : Nat} {R : List Int} (e : l[i]? = some R) : (l.take (i + 1)).flatten = (l.take i).flatten ++ R := by
  rw [List.take_add_one, e, List.flatten_append]
  simp
theorem Dr.back {c a : Addr} {ns : List Int} {G G1 H H1 : Hp} (d : Dr K c a ns G H) (d1 : Dr K c a ns G1 H1) (s : Same G H1) : Dr K c a ns G H1 := ⟨s, d.g, d1.st, d.sc⟩
end
end CP
namespace CP
open PySem PySem.Spec PyProof.Rows L2 MV CX
local macro_rules | `(tactic| walk_at "go") => `(tactic| repeat (first
  | with_reducible refine MV.k_seq ?_ | with_reducible refine MV.k_asg ?_ | with_reducible refine MV.k_name ?_ | with_reducible refine MV.k_op ?_ | ((with_reducible apply MV.k_var); exact rfl) | with_reducible refine MV.k_c ?_
  | with_reducible refine MV.k_add ?_ | with_reducible refine MV.k_sub ?_ | with_reducible refine MV.k_lt ?_ | with_reducible refine MV.k_le ?_ | with_reducible refine MV.k_gt ?_ | with_reducible refine MV.k_ge ?_ | with_reducible refine MV.k_eqI ?_ | with_reducible refine MV.k_neI ?_
  | with_reducible refine MV.k_test ?_ | with_reducible refine MV.k_B ?_ | with_reducible refine MV.k_bl ?_ | with_reducible refine MV.k_blV ?_ | with_reducible refine MV.k_and ?_ | with_reducible refine MV.k_or ?_ | with_reducible refine MV.k_not ?_ | with_reducible refine MV.k_andV ?_ | with_reducible refine MV.k_orV ?_ | with_reducible refine MV.k_notV ?_
  | with_reducible refine MV.k_if ?_ | with_reducible refine MV.k_tru ?_ | with_reducible refine MV.k_chain ?_ | with_reducible refine MV.k_next ?_ | with_reducible refine MV.k_drop ?_ | with_reducible refine MV.k_ret ?_ | with_reducible refine MV.k_retN ?_ | with_reducible refine MV.k_ifS ?_ | with_reducible refine MV.k_brk ?_ | with_reducible refine MV.k_cont ?_
  | with_reducible refine MV.k_nil ?_ | with_reducible refine MV.k_cons ?_ | with_reducible refine MV.k_tup ?_ | with_reducible refine MV.k_lst ?_ | with_reducible refine MV.k_cb ?_ | with_reducible refine MV.k_call ?_ | with_reducible refine MV.k_gnil ?_ | with_reducible refine MV.k_gcons ?_ | with_reducible refine MV.k_gsub ?_
  | with_reducible refine MV.k_bm ?_ | with_reducible refine MV.k_bm0 ?_ | with_reducible refine MV.k_un ?_ | with_reducible refine MV.k_neg ?_ | with_reducible refine MV.k_isN ?_ | with_reducible refine MV.k_notN ?_ | with_reducible refine L2.iteT ?_ | with_reducible refine L2.iteF ?_
  | with_reducible refine MV.k_iList ?_ | with_reducible refine MV.k_iTup ?_ | with_reducible refine MV.k_iRng1 ?_ | with_reducible refine MV.k_lc ?_ | with_reducible refine MV.k_for ?_
  | with_reducible refine MV.k_yes ?_ | with_reducible refine MV.k_dput ?_ | with_reducible refine MV.k_dget ?_ | with_reducible refine MV.k_dget1 ?_ | with_reducible refine MV.k_sl ?_ | with_reducible refine MV.k_nopart ?_ | with_reducible refine MV.k_part ?_ | with_reducible refine MV.k_pint ?_ | with_reducible refine MV.k_dnew ?_ | with_reducible refine MV.k_lstRg ?_ | with_reducible refine MV.k_rg1 ?_
  | with_reducible refine CX.k_callS ?_ | with_reducible refine CX.k_iEnum ?_))
/-! ### rings where they may be refused -/
def t_ringsX (K : PySem.W.Frag) (w : World) (s_check_lead : Sp) (s_real_pairs : Sp) (s_ring_from : Sp) (E : XK) : TS :=
  (tSeq (tDrop (tCallS s_check_lead (WE (fun cls d _ H => E cls d H)) (tCons (tVar 0) (tCons (tVar 1) tNil))))
    (tSeq (tAsg (tCB (vDictP K) (tCons (tCall s_real_pairs [] E0 (tCons (tVar 1) tNil)) tNil)) (gName 2))
    (tSeq (tAsg (tLc (iRng1 (tCons (tVar 0) tNil)) (gName 4) tYes (tCall s_ring_from [] E0 (tCons (tVar 4) (tCons (tVar 2) tNil))) [4]) (gName 3))
    (tRet (tLc (iList K (tVar 3)) (gName 5) (tAnd (vTru K (tVar 5)) (tTest (tOp rEq (tOp (rIxT K) (tVar 5) (tC (.int 0))) (tCB (rMinT K) (tCons (tVar 5) tNil))))) (tVar 5) [5])))))
def t_shut_ringsX (K : PySem.W.Frag) (w : World) (s_rings : Sp) (s_is_shut : Sp) (E : XK) : TS :=
  (tRet (tLc (iList K (tCallS s_rings (WE (fun cls d _ H => E cls d H)) (tCons (tVar 0) (tCons (tVar 1) tNil)))) (gName 2) (tB (tCall s_is_shut [] E0 (tCons (tVar 2) (tCons (tVar 1) tNil)))) (tVar 2) [2]))
def t_by_swapsX (K : PySem.W.Frag) (w : World) (s_check_lead : Sp) (s_rings : Sp) (s_outer_pairs : Sp) (E : XK) : TS :=
  (tSeq (tDrop (tCallS s_check_lead (WE (fun cls d _ H => E cls d H)) (tCons (tVar 0) (tCons (tVar 1) tNil))))
    (tSeq (tAsg (tLc (iList K (tCall s_outer_pairs [] E0 (tCons (tVar 1) tNil))) (gTup K 2 (gCons (gName 4) (gCons (gName 5) gNil))) tYes (tTup (tCons (tC (.str "copy")) (tCons (tVar 4) (tCons (tVar 5) tNil)))) [4, 5]) (gName 2))
    (tSeq (tFor (iList K (tCallS s_rings (WE (fun cls d _ H => E cls d H)) (tCons (tVar 0) (tCons (tVar 1) tNil)))) (gName 3) (tDrop (tBM K "list" rExtend (tVar 2) (tCons (tLc (iTup K (tSl (rSlA K) (tVar 3) (tPart (tC (.int 1))) tNoPart)) (gName 6) tYes (tTup (tCons (tC (.str "swap")) (tCons (tOp (rIxT K) (tVar 3) (tC (.int 0))) (tCons (tVar 6) tNil)))) [6]) tNil))))
    (tRet (tVar 2)))))
def t_paper (K : PySem.W.Frag) (w : World) (s_check_lead : Sp) (s_shut_rings : Sp) (s_rings : Sp) (s_real_pairs : Sp) (E : XK) : TS :=
  (tSeq (tDrop (tCallS s_check_lead (WE (fun cls d _ H => E cls d H)) (tCons (tVar 0) (tCons (tVar 1) tNil))))
    (tSeq (tAsg (tCB (rSortedI K) (tCons (tLc (iList K (tCall s_real_pairs [] E0 (tCons (tVar 1) tNil))) (gTup K 2 (gCons (gName 3) (gCons (gName 4) gNil))) tYes (tVar 3) [3, 4]) tNil)) (gName 2))
    (tRet (tTup (tCons (tVar 2) (tCons (tCallS s_shut_rings (WE (fun cls d _ H => E cls d H)) (tCons (tVar 0) (tCons (tVar 1) tNil))) (tCons (tCallS s_rings (WE (fun cls d _ H => E cls d H)) (tCons (tVar 0) (tCons (tVar 1) tNil))) tNil)))))))
def t_least (K : PySem.W.Frag) (w : World) (s_paper : Sp) (E : XK) : TS :=
  (tSeq (tAsg (tCallS s_paper (WE (fun cls d _ H => E cls d H)) (tCons (tVar 0) (tCons (tVar 1) tNil))) (gTup K 3 (gCons (gName 3) (gCons (gName 4) (gCons (gName 5) gNil)))))
    (tSeq (tIfS (tTest (tOp rEq (tVar 2) (tC (.str "copies")))) (tRet (tOp vAdd (tCB (vLen K) (tCons (tVar 3) tNil)) (tCB (vLen K) (tCons (tVar 4) tNil)))) tNext)
    (tSeq (tIfS (tTest (tOp rEq (tVar 2) (tC (.str "swaps")))) (tRet (tOp vSub (tCB (vLen K) (tCons (tVar 3) tNil)) (tCB (vLen K) (tCons (tVar 5) tNil)))) tNext)
    (EX.tRaiseOwn (He.ga K "BadWord") (fun cls d _ H => E cls d H)))))
section
variable {K : PySem.W.Frag} {w : World} {H : Hp}
theorem pure_ringsX (vs : List V) (Q : VK) (E : XK) (h : spRings K vs H Q E) : t_ringsX K w (spCheckLead K) (spRealPairs K) (spRingFrom K) E { nx := fun _ H1 => Q .non H1, rt := Q } (start ["boxes", "lead", "sources", "candidates", "box", "ring"] vs) H :=
  MV.pure_rings (K := K) (w := w) vs Q E h
theorem pure_shut_ringsX (vs : List V) (Q : VK) (E : XK) (h : spShutRings K vs H Q E) : t_shut_ringsX K w (spRings K) (spIsShut K) E { nx := fun _ H1 => Q .non H1, rt := Q } (start ["boxes", "lead", "ring"] vs) H :=
  MV.pure_shut_rings (K := K) vs Q E h
theorem pure_by_swapsX (vs : List V) (Q : VK) (E : XK) (h : spBySwaps K vs H Q E) : t_by_swapsX K w (spCheckLead K) (spRings K) (spOuter K) E { nx := fun _ H1 => Q .non H1, rt := Q } (start ["boxes", "lead", "moves", "ring", "goal", "source", "box"] vs) H :=
  pure_by_swaps (K := K) (w := w) vs Q E h
/-! ### paper -/
def shutR (n : Nat) (ld : Lead) : List (List Int) := (ringsOf (lk (real ld)) n).filter (shutB ld)
def spPaper (K : PySem.W.Frag) : Sp := fun vs H Q _ => ∃ (G : Hp) (n : Int) (l : Addr) (ld : Lead), vs = [.int n, .ref l] ∧ Same G H ∧ 1 ≤ n ∧ n ≤ 10 ∧ LeadAt K G l ld ∧ GoodM n ld ∧
  ∀ (p pg ps pr : Addr) (gs : List Int) (xs ys : List V) (G1 H1 : Hp), Ext [] G H G1 H1 → H p = none → H pg = none → H ps = none → H pr = none → G1 p = some (.tup [.ref pg, .ref ps, .ref pr]) → gs.Perm ((real ld).map (fun x : Int × Int => x.1)) → gs.Pairwise (· ≤ ·) →
    G1 pg = some (.lst (gs.map V.int)) → G1 ps = some (.lst xs) → DpAll K G1 xs ((shutR n.toNat ld).map pdInts) → G1 pr = some (.lst ys) → DpAll K G1 ys ((ringsOf (lk (real ld)) n.toNat).map pdInts) → Q (.ref p) H1
theorem pure_paper (vs : List V) (Q : VK) (E : XK) (h : spPaper K vs H Q E) : t_paper K w (spCheckLead K) (spShutRings K) (spRings K) (spRealPairs K) E { nx := fun _ H1 => Q .non H1, rt := Q } (start ["boxes", "lead", "goals", "goal", "source"] vs) H := by
  obtain ⟨G, n, l, ld, rfl, s, n1, n10, la, gm, q⟩ := h
  have l10 : ld.length ≤ 10 := by have := gm.len; omega
  have rl := real_len ld
  unfold t_paper
  walk_at "go"
  refine ⟨G, n, l, ld, rfl, s, n1, n10, la, gm, fun H1 e1 => ?_⟩
  walk_at "go"
  refine ⟨G, l, ld, rfl, e1.s, la, by omega, fun pp tp G2 H2 e2 npp gpp prp => ?_⟩
  have ltp := MV.paired_len prp
  walk_at "go"
  refine ⟨_, rfl, ⟨_, e2.s.seq (SqL.of gpp)⟩, ?_⟩
  refine lcL (M := []) e2.s (fun _ h => nomatch h) (SqL.of gpp) (by rw [List.length_map]; omega) (fun i acc G3 H3 => acc = (((real ld).take i).map (fun x : Int × Int => x.1)).map V.int) (fun _ _ _ _ _ _ h => h) rfl
    (fun i x acc G3 H3 Ry Rn hi ex e3 iv hy hn => ?_) (fun pi acc G3 H3 e3 npi gpi hpi hlen iv => ?_)
  · subst iv
    obtain ⟨t, p, ep, rfl, _, ht⟩ := PsAt.at prp ex
    walk_at "go"
    refine k_tupN (sqT_mono e3.s (sqT_mono e3.g ht)) rfl ?_
    walk_at "go"
    refine ⟨rfl, ?_⟩
    walk_at "go"
    refine hy _ _ _ (Ext.refl e3.s) ?_
    rw [List.take_add_one, ep]
    simp
  · subst iv
    rw [List.length_map, ltp, List.take_length] at hpi
    walk_at "go"
    refine ⟨pi, _, rfl, SqL.of hpi, fun gs pg pm so npg => ?_⟩
    have e4 := ((e1.trans e2).trans e3).new (o := .lst (gs.map V.int)) npg
    have npg0 : H pg = none := ((e1.trans e2).trans e3).d _ npg
    have g4 : (upd G3 pg (.lst (gs.map V.int))) pg = some (.lst (gs.map V.int)) := upd_same
    generalize upd G3 pg (.lst (gs.map V.int)) = G4 at *
    generalize upd H3 pg (.lst (gs.map V.int)) = H4 at *
    walk_at "go"
    refine ⟨G4, n, l, ld, rfl, e4.s, n1, n10, la.mono e4.g, gm, fun ps xs G5 H5 e5 nps gps dps => ?_⟩
    walk_at "go"
    refine ⟨G5, n, l, ld, rfl, e5.s, n1, n10, la.mono (e4.g.trans e5.g), gm, fun pr ys G6 H6 e6 npr gpr dpr => ?_⟩
    walk_at "go"
    refine ⟨sz1 (by show 3 ≤ 100000; decide), fun p np => ?_⟩
    have e7 := ((e4.trans e5).trans e6).new (o := .tup [.ref pg, .ref ps, .ref pr]) np
    have s7 : Same G6 (upd G6 p (.tup [.ref pg, .ref ps, .ref pr])) := same_new (e6.s.free np)
    exact q p pg ps pr gs xs ys _ _ e7 (((e4.trans e5).trans e6).d _ np) npg0 (e4.d _ nps) ((e4.trans e5).d _ npr) upd_same pm so (s7 _ _ (e6.g _ _ (e5.g _ _ g4))) (s7 _ _ (e6.g _ _ gps)) (dpAll_mono s7 _ _ (dpAll_mono e6.g _ _ dps)) (s7 _ _ gpr) (dpAll_mono s7 _ _ dpr)
/-! ### least -/
def spLeast (K : PySem.W.Frag) : Sp := fun vs H Q E => ∃ (G : Hp) (n : Int) (l : Addr) (ld : Lead) (u : Str), vs = [.int n, .ref l, .str u] ∧ Same G H ∧ 1 ≤ n ∧ n ≤ 10 ∧ LeadAt K G l ld ∧ GoodM n ld ∧
  ∀ H1, Ext [] G H G H1 → (u = "copies" → Q (.int (((real ld).length : Nat) + ((shutR n.toNat ld).length : Nat))) H1) ∧ (u = "swaps" → Q (.int (((real ld).length : Nat) - ((ringsOf (lk (real ld)) n.toNat).length : Nat))) H1) ∧ (u ≠ "copies" → u ≠ "swaps" → E (.ref (He.ga K "BadWord")) none H1)
theorem pure_least (vs : List V) (Q : VK) (E : XK) (h : spLeast K vs H Q E) : t_least K w (spPaper K) E { nx := fun _ H1 => Q .non H1, rt := Q } (start ["boxes", "lead", "word", "goals", "shut", "every"] vs) H := by
  obtain ⟨G, n, l, ld, u, rfl, s, n1, n10, la, gm, q⟩ := h
  unfold t_least
  walk_at "go"
  refine ⟨G, n, l, ld, rfl, s, n1, n10, la, gm, fun p pg ps pr gs xs ys G1 H1 e1 np0 npg nps npr gp pm so gg gps dps gpr dpr => ?_⟩
  have lg : (gs.map V.int).length = (real ld).length := by rw [List.length_map, pm.length_eq, List.length_map]
  have lx : xs.length = (shutR n.toNat ld).length := by rw [dpAll_len dps, List.length_map]
  have ly : ys.length = (ringsOf (lk (real ld)) n.toNat).length := by rw [dpAll_len dpr, List.length_map]
  obtain ⟨q1, q2, q3⟩ := q H1 (e1.back s)
  walk_at "go"
  refine k_tupN (SqT.of (e1.s _ _ gp)) rfl ?_
  walk_at "go"
  refine k_eq rfl ?_
  rw [CX.dec_str]
  walk_at "go"
  refine k_both (fun h => ?_) (fun h => ?_)
  · walk_at "go"
    refine k_len (.inl (SqL.of (e1.s _ _ gg))) ?_
    walk_at "go"
    refine k_len (.inl (SqL.of (e1.s _ _ gps))) ?_
    walk_at "go"
    rw [lg, lx]
    exact q1 h
  · walk_at "go"
    refine k_eq rfl ?_
    rw [CX.dec_str]
    walk_at "go"
    refine k_both (fun h2 => ?_) (fun h2 => ?_)
    · walk_at "go"
      refine k_len (.inl (SqL.of (e1.s _ _ gg))) ?_
      walk_at "go"
      refine k_len (.inl (SqL.of (e1.s _ _ gpr))) ?_
      walk_at "go"
      rw [lg, ly]
      exact q2 h2
    · exact q3 h h2
theorem sorted_eq : ∀ {a b : List Int}, a.Perm b → a.Pairwise (· ≤ ·) → b.Pairwise (· ≤ ·) → a = b
  | [], b, p, _, _ => (List.nil_perm.mp p).symm
  | x :: a, [], p, _, _ => by have := p.length_eq; cases this
  | x :: a, y :: b, p, ha, hb => by
    have a2 := List.pairwise_cons.mp ha
    have b2 := List.pairwise_cons.mp hb
    have h1 : y ≤ x := by
      rcases List.mem_cons.mp (p.mem_iff.mp (List.mem_cons_self ..)) with e | m
      · omega
      · exact b2.1 x m
    have h2 : x ≤ y := by
      rcases List.mem_cons.mp (p.mem_iff.mpr (List.mem_cons_self ..)) with e | m
      · omega
      · exact a2.1 y m
    have e : x = y := by omega
    subst e
    rw [sorted_eq ((List.perm_cons x).mp p) a2.2 b2.2]
/-- over a tuple that stands -/
theorem forT {M : List Addr} {G : Hp} {σ : L2.St} {a : Addr} {xs : List V} {g : TG} {tb : TS} {D : Ends} (s : Same G H) (hx : SqT K G a xs) (Pv : Nat → L2.St → Hp → Hp → Prop) (h0 : Pv 0 σ G H)
    (hs : ∀ i x σ1 G1 H1, i < xs.length → xs[i]? = some x → Ext M G H G1 H1 → Pv i σ1 G1 H1 → g x σ1 H1 fun σ2 H2 => tb { D with nx := fun σ3 H3 => ∃ G3, Ext M G1 H1 G3 H3 ∧ Pv (i + 1) σ3 G3 H3, ct := fun σ3 H3 => ∃ G3, Ext M G1 H1 G3 H3 ∧ Pv (i + 1) σ3 G3 H3, bk := D.nx } σ2 H2)
    (hd : ∀ σ1 G1 H1, Ext M G H G1 H1 → Pv xs.length σ1 G1 H1 → D.nx σ1 H1) :
    ∃ W : Nat → Nat → L2.St → Hp → Prop, (∃ m, W 0 m σ H) ∧ ∀ i m σ H, W i m σ H →
      ((Itt K a).stop i H ∧ D.nx σ H) ∨ ((Itt K a).go i H ∧ ∃ N : L2.St → Hp → Prop, (∀ σ' H', N σ' H' → ∃ m', m' < m ∧ W (i + 1) m' σ' H') ∧ ∀ x H', (Itt K a).yld i H x H' → g x σ H' fun σ2 H2 => tb { D with nx := N, ct := N, bk := D.nx } σ2 H2) :=
  forX (Y := fun i x => xs[i]? = some x) (fun H1 s1 => ⟨xs, sqT_mono s1 hx, Nat.le_refl _⟩) (fun i H1 hi s1 => ⟨xs, xs[i], sqT_mono s1 hx, List.getElem?_eq_getElem hi⟩) (fun i H1 x H2 hi s1 y => ⟨y.1, y.2 xs (sqT_mono s1 hx)⟩) s Pv h0 hs hd
end
end CP
namespace CD
open PySem PySem.Spec PyProof.Rows L2 MV CX CP
local macro_rules | `(tactic| walk_at "go") => `(tactic| repeat (first
  | with_reducible refine MV.k_seq ?_ | with_reducible refine MV.k_asg ?_ | with_reducible refine MV.k_name ?_ | with_reducible refine MV.k_op ?_ | ((with_reducible apply MV.k_var); exact rfl) | with_reducible refine MV.k_c ?_
  | with_reducible refine MV.k_add ?_ | with_reducible refine MV.k_sub ?_ | with_reducible refine MV.k_lt ?_ | with_reducible refine MV.k_le ?_ | with_reducible refine MV.k_gt ?_ | with_reducible refine MV.k_ge ?_ | with_reducible refine MV.k_eqI ?_ | with_reducible refine MV.k_neI ?_
  | with_reducible refine MV.k_test ?_ | with_reducible refine MV.k_B ?_ | with_reducible refine MV.k_bl ?_ | with_reducible refine MV.k_blV ?_ | with_reducible refine MV.k_and ?_ | with_reducible refine MV.k_or ?_ | with_reducible refine MV.k_not ?_ | with_reducible refine MV.k_andV ?_ | with_reducible refine MV.k_orV ?_ | with_reducible refine MV.k_notV ?_
  | with_reducible refine MV.k_if ?_ | with_reducible refine MV.k_tru ?_ | with_reducible refine MV.k_chain ?_ | with_reducible refine MV.k_next ?_ | with_reducible refine MV.k_drop ?_ | with_reducible refine MV.k_ret ?_ | with_reducible refine MV.k_retN ?_ | with_reducible refine MV.k_ifS ?_ | with_reducible refine MV.k_brk ?_ | with_reducible refine MV.k_cont ?_
  | with_reducible refine MV.k_nil ?_ | with_reducible refine MV.k_cons ?_ | with_reducible refine MV.k_tup ?_ | with_reducible refine MV.k_lst ?_ | with_reducible refine MV.k_cb ?_ | with_reducible refine MV.k_call ?_ | with_reducible refine MV.k_gnil ?_ | with_reducible refine MV.k_gcons ?_ | with_reducible refine MV.k_gsub ?_
  | with_reducible refine MV.k_bm ?_ | with_reducible refine MV.k_bm0 ?_ | with_reducible refine MV.k_un ?_ | with_reducible refine MV.k_neg ?_ | with_reducible refine MV.k_isN ?_ | with_reducible refine MV.k_notN ?_ | with_reducible refine L2.iteT ?_ | with_reducible refine L2.iteF ?_
  | with_reducible refine MV.k_iList ?_ | with_reducible refine MV.k_iTup ?_ | with_reducible refine MV.k_iRng1 ?_ | with_reducible refine MV.k_lc ?_ | with_reducible refine MV.k_for ?_
  | with_reducible refine MV.k_yes ?_ | with_reducible refine MV.k_dput ?_ | with_reducible refine MV.k_dget ?_ | with_reducible refine MV.k_dget1 ?_ | with_reducible refine MV.k_sl ?_ | with_reducible refine MV.k_nopart ?_ | with_reducible refine MV.k_part ?_ | with_reducible refine MV.k_pint ?_ | with_reducible refine MV.k_dnew ?_ | with_reducible refine MV.k_lstRg ?_ | with_reducible refine MV.k_rg1 ?_
  | with_reducible refine CX.k_callS ?_ | with_reducible refine CX.k_iEnum ?_))
def t_check_spares (K : PySem.W.Frag) (w : World) (s_real_pairs : Sp) (s_is_box : Sp) (E : XK) : TS :=
  (tSeq (tAsg (tLc2 (iList K (tCall s_real_pairs [] E0 (tCons (tVar 1) tNil))) (gName 6) tYes (iTup K (tVar 6)) (gName 7) tYes (tVar 7) [6, 7] [7]) (gName 3))
    (tFor (iEnum K (tCons (tVar 2) tNil)) (gTup K 2 (gCons (gName 4) (gCons (gName 5) gNil))) (tSeq (tIfS (tNot (tB (tCall s_is_box [] E0 (tCons (tVar 0) (tCons (tVar 5) tNil))))) (EX.tRaiseOwn (He.ga K "BadSpare") (fun cls d _ H => E cls d H)) tNext)
    (tSeq (tIfS (tTest (tOp (rIn K false) (tVar 5) (tVar 3))) (EX.tRaiseOwn (He.ga K "BadSpare") (fun cls d _ H => E cls d H)) tNext)
    (tIfS (tTest (tOp (rIn K false) (tVar 5) (tSl (rSlL K) (tVar 2) tNoPart (tPart (tVar 4))))) (EX.tRaiseOwn (He.ga K "BadSpare") (fun cls d _ H => E cls d H)) tNext)))))
def t_does (K : PySem.W.Frag) (w : World) (s_check_lead : Sp) (s_check_spares : Sp) (s_at_once : Sp) (s_moved : Sp) (E : XK) : TS :=
  (tSeq (tDrop (tCallS s_check_lead (WE (fun cls d _ H => E cls d H)) (tCons (tVar 0) (tCons (tVar 1) tNil))))
    (tSeq (tDrop (tCallS s_check_spares (WE (fun cls d _ H => E cls d H)) (tCons (tVar 0) (tCons (tVar 1) (tCons (tVar 2) tNil)))))
    (tSeq (tAsg (tLstRg (tRg1 (tVar 0))) (gName 4))
    (tSeq (tAsg (tCallS s_at_once (WE (fun cls d _ H => E cls d H)) (tCons (tVar 4) (tCons (tVar 1) tNil))) (gName 5))
    (tSeq (tAsg (tCallS s_moved (WE (fun cls d _ H => E cls d H)) (tCons (tVar 4) (tCons (tVar 3) tNil))) (gName 6))
    (tRet (tCB (rAll K) (tCons (tLc (iRng1 (tCons (tVar 0) tNil)) (gName 7) (tTest (tOp (rIn K true) (tVar 7) (tVar 2))) (tOp rEq (tOp (rIxL K) (tVar 6) (tVar 7)) (tOp (rIxL K) (tVar 5) (tVar 7))) [7]) tNil))))))))
section
variable {K : PySem.W.Frag} {w : World} {H : Hp}
/-! ### spares -/
def busyI (m : Lead) : List Int := m.flatMap fun p => [p.1, p.2]
structure GoodSp (n : Int) (ld : Lead) (ss : List Int) : Prop where
  rg : ∀ x, x ∈ ss → (0 ≤ x ∧ x < n) ∧ x ∉ busyI (real ld)
  nd : ss.Nodup
theorem nodup_iff : ∀ {ss : List Int}, ss.Nodup ↔ ∀ (i : Nat) (x : Int), ss[i]? = some x → x ∉ ss.take i := by
  intro ss
  constructor
  · intro nd i x e m
    have hi := (List.getElem?_eq_some_iff.mp e).1
    have e3 : ss[i] = x := (List.getElem?_eq_some_iff.mp e).2
    have e2 : ss = ss.take i ++ x :: ss.drop (i + 1) := by rw [← e3, ← List.drop_eq_getElem_cons hi, List.take_append_drop]
    rw [e2] at nd
    exact (List.nodup_append.mp nd).2.2 x m x (List.mem_cons_self ..) rfl
  · intro h
    have key : ∀ i, i ≤ ss.length → (ss.take i).Nodup := by
      intro i
      induction i with
      | zero => intro _; exact List.nodup_nil
      | succ i ih =>
        intro hi
        have e : ss[i]? = some ss[i] := List.getElem?_eq_getElem (by omega)
        rw [List.take_add_one, e]
        refine List.nodup_append.mpr ⟨ih (by omega), by simp, fun a ha b hb z => ?_⟩
        have : b = ss[i] := by simpa using hb
        rw [this] at z
        rw [z] at ha
        exact h i _ e ha
    have := key ss.length (Nat.le_refl _)
    rwa [List.take_length] at this
def OkSp (n : Int) (ld : Lead) (ss : List Int) (i : Nat) (x : Int) : Prop := (0 ≤ x ∧ x < n) ∧ x ∉ busyI (real ld) ∧ x ∉ ss.take i
theorem good_iff {n : Int} {ld : Lead} {ss : List Int} : GoodSp n ld ss ↔ ∀ (i : Nat) (x : Int), ss[i]? = some x → OkSp n ld ss i x := by
  constructor
  · intro g i x e
    have := g.rg x (List.mem_of_getElem? e)
    exact ⟨this.1, this.2, nodup_iff.mp g.nd i x e⟩
  · intro h
    refine ⟨fun x hx => ?_, nodup_iff.mpr fun i x e => (h i x e).2.2⟩
    obtain ⟨i, hi, e⟩ := List.getElem_of_mem hx
    have := h i x (by rw [List.getElem?_eq_getElem hi, e])
    exact ⟨this.1, this.2.1⟩
theorem busy_len : ∀ l : Lead, (busyI l).length = 2 * l.length
  | [] => rfl
  | a :: l => by
    have ih := busy_len l
    show ([a.1, a.2] ++ busyI l).length = 2 * (l.length + 1)
    rw [List.length_append, ih]
    show 2 + 2 * l.length = _
    omega
theorem busy_snoc {m : Lead} {i : Nat} {p : Int × Int} (e : m[i]? = some p) : busyI (m.take (i + 1)) = busyI (m.take i) ++ [p.1, p.2] := flatM_snoc _ e
def spCheckSpares (K : PySem.W.Frag) : Sp := fun vs H Q E => ∃ (G : Hp) (n : Int) (l sp : Addr) (ld : Lead) (ss : List Int), vs = [.int n, .ref l, .ref sp] ∧ Same G H ∧ LeadAt K G l ld ∧ ld.length ≤ 1000 ∧ SqL K G sp (ss.map V.int) ∧
  ((GoodSp n ld ss ∧ ∀ H1, Ext [] G H G H1 → Q .non H1) ∨ (¬ GoodSp n ld ss ∧ ∀ H1, Ext [] G H G H1 → E (.ref (He.ga K "BadSpare")) none H1))
theorem cut_to {xs : List V} {k : Nat} (h : k ≤ xs.length) : cutV xs none (some (k : Int)) = xs.take k := by
  have e1 : HT.sIx xs.length 0 none = 0 := rfl
  have e2 : HT.sIx xs.length xs.length (some (k : Int)) = k := by
    unfold HT.sIx
    first
      | (simp only []; split <;> omega)
      | (split <;> omega)
      | (simp; omega)
      | omega
  unfold cutV
  rw [e1, e2, List.drop_zero, Nat.sub_zero]
theorem cut_off {xs : List V} {k : Nat} (h : k ≤ xs.length) : cutV xs (some (k : Int)) none = xs.drop k := by
  have e1 : HT.sIx xs.length xs.length none = xs.length := rfl
  have e2 : HT.sIx xs.length 0 (some (k : Int)) = k := by
    unfold HT.sIx
    first
      | (simp only []; split <;> omega)
      | (split <;> omega)
      | (simp; omega)
      | omega
  unfold cutV
  rw [e1, e2, List.take_of_length_le (by rw [List.length_drop]; omega)]
theorem pure_check_spares (vs : List V) (Q : VK) (E : XK) (h : spCheckSpares K vs H Q E) : t_check_spares K w (MV.spRealPairs K) MV.spIsBox E { nx := fun _ H1 => Q .non H1, rt := Q } (start ["boxes", "lead", "spares", "busy", "place", "spare", "pair", "box"] vs) H := by
  obtain ⟨G, n, l, sp, ld, ss, rfl, s, la, l1, hsp, q⟩ := h
  unfold t_check_spares
  walk_at "go"
  refine ⟨_, rfl, G, l, ld, rfl, s, la, l1, fun p ts G1 H1 e1 np gp pr => ?_⟩
  have lt := MV.paired_len pr
  have rl := real_len ld
  have sx := e1.s
  refine ⟨p, rfl, ⟨_, SqL.of (sx _ _ gp)⟩, fun D hD => ⟨fun i k H2 => k = (real ld).length - i ∧ i ≤ (real ld).length ∧ Ext [] G1 H1 G1 H2 ∧ H2 D = some (.lst ((busyI ((real ld).take i)).map V.int)), ⟨(real ld).length, rfl, Nat.zero_le _, (Ext.refl sx).tmp hD, upd_same⟩, ?_⟩⟩
  rintro i k H2 ⟨rfl, hi, e2, h2⟩
  have hp2 : SqL K H2 p (ts.map V.ref) := SqL.of (e2.s _ _ gp)
  have gD : G1 D = none := sx.free hD
  by_cases hlt : i < (real ld).length
  · have et : (ts.map V.ref)[i]? = some (.ref (ts[i]'(by omega))) := by rw [List.getElem?_map, List.getElem?_eq_getElem (by omega)]; rfl
    refine .inr ⟨⟨_, _, hp2, et⟩, fun H' => i + 1 ≤ (real ld).length ∧ Ext [] G1 H1 G1 H' ∧ H' D = some (.lst ((busyI ((real ld).take (i + 1))).map V.int)), fun H' h' => ⟨(real ld).length - (i + 1), by omega, rfl, h'.1, h'.2.1, h'.2.2⟩, fun x H' y => ?_⟩
    obtain ⟨eH, ex⟩ := y
    subst eH
    have ex := ex _ hp2
    obtain ⟨t, pp, ep, rfl, _, ht⟩ := PsAt.at pr ex
    have ht2 := sqT_mono e2.s ht
    have lb := busy_len ((real ld).take i)
    rw [List.length_take] at lb
    walk_at "go"
    refine ⟨rfl, ?_⟩
    walk_at "go"
    refine ⟨t, rfl, ⟨_, ht2⟩, fun j k H3 => k = 2 - j ∧ j ≤ 2 ∧ Ext [] G1 H1 G1 H3 ∧ H3 D = some (.lst ((busyI ((real ld).take i) ++ [pp.1, pp.2].take j).map V.int)), ⟨2, rfl, Nat.zero_le _, e2, by rw [show ([pp.1, pp.2] : List Int).take 0 = [] from rfl, List.append_nil]; exact h2⟩, ?_⟩
    rintro j k H3 ⟨rfl, hj, e3, h3⟩
    have ht3 := sqT_mono e3.s ht
    by_cases hj2 : j < 2
    · have ej : ([.int pp.1, .int pp.2] : List V)[j]? = some (.int (([pp.1, pp.2] : List Int)[j]'hj2)) := by
        have : j = 0 ∨ j = 1 := by omega
        rcases this with rfl | rfl <;> rfl
      refine .inr ⟨⟨_, _, ht3, ej⟩, fun H' => j + 1 ≤ 2 ∧ Ext [] G1 H1 G1 H' ∧ H' D = some (.lst ((busyI ((real ld).take i) ++ [pp.1, pp.2].take (j + 1)).map V.int)), fun H' h' => ⟨2 - (j + 1), by omega, rfl, h'.1, h'.2.1, h'.2.2⟩, fun x H' y => ?_⟩
      obtain ⟨eH, ex2⟩ := y
      subst eH
      have ex2 := ex2 _ ht3
      rw [ej] at ex2
      cases ex2
      walk_at "go"
      refine ⟨rfl, ?_⟩
      walk_at "go"
      refine ⟨_, h3, sz2 (by rw [List.length_map, List.length_append, List.length_take]; simp; omega), by omega, e3.mut hD gD, ?_⟩
      rw [upd_same]
      have : j = 0 ∨ j = 1 := by omega
      rcases this with rfl | rfl <;> simp
    · have : j = 2 := by omega
      subst this
      refine .inl ⟨⟨_, ht3, Nat.le_refl _⟩, by omega, e3, ?_⟩
      rw [h3, busy_snoc ep]
      rfl
  · have : i = (real ld).length := by omega
    subst this
    rw [List.take_length] at h2
    refine .inl ⟨⟨_, hp2, by rw [List.length_map]; omega⟩, ?_⟩
    have np0 : H D = none := e1.d _ hD
    have e3 := (e1.trans e2).frz np0 (by exact gD) h2
    have g3 : (upd G1 D (.lst ((busyI (real ld)).map V.int))) D = some (.lst ((busyI (real ld)).map V.int)) := upd_same
    generalize upd G1 D (.lst ((busyI (real ld)).map V.int)) = G3 at *
    walk_at "go"
    refine ⟨sp, _, rfl, e3.s.seq (e3.g.seq hsp), ?_⟩
    refine forE (M := []) e3.s (e3.g.seq hsp) (fun i σ1 G4 H4 => G4 = G3 ∧ (∃ x4 x5 x6 x7, σ1 = [some (.int n), some (.ref l), some (.ref sp), some (.ref D), x4, x5, x6, x7]) ∧ ∀ j x, j < i → ss[j]? = some x → OkSp n ld ss j x)
      ⟨rfl, ⟨_, _, _, _, rfl⟩, fun j x z => absurd z (Nat.not_lt_zero _)⟩ (fun i x T σ1 G4 H4 hi ex e4 ⟨eG, ⟨x4, x5, x6, x7, es⟩, hb⟩ hT => ?_) (fun σ1 G4 H4 e4 ⟨eG, ⟨x4, x5, x6, x7, es⟩, hb⟩ => ?_)
    · subst eG es
      rw [List.length_map] at hi
      rw [List.getElem?_map, List.getElem?_eq_getElem hi] at ex
      have ex2 : V.int ss[i] = x := Option.some.inj ex
      subst ex2
      have em : ss[i]? = some ss[i] := List.getElem?_eq_getElem hi
      have e5 := (Ext.refl (M := []) e4.s).tmp (o := .tup [.int (i : Nat), .int ss[i]]) hT
      have stop : ¬ OkSp n ld ss i ss[i] → ∀ H5, Ext [] G4 H4 G4 H5 → E (.ref (He.ga K "BadSpare")) none H5 := fun no H5 e6 => by
        rcases q with ⟨g, _⟩ | ⟨_, qe⟩
        · exact absurd (good_iff.mp g i _ em) no
        · exact qe H5 (((e3.trans e4).trans e6).back s)
      refine k_tupN (SqT.of upd_same) rfl ?_
      have hsp5 := e5.s.seq (e3.g.seq hsp)
      have hb5 : SqL K (upd H4 T (.tup [.int (i : Nat), .int ss[i]])) D ((busyI (real ld)).map V.int) := SqL.of (e5.s _ _ g3)
      generalize upd H4 T (.tup [.int (i : Nat), .int ss[i]]) = H5 at *
      walk_at "go"
      refine ⟨n, ss[i], rfl, ?_⟩
      walk_at "go"
      refine k_nboth (fun h1 => ?_) (fun h1 => ?_)
      · exact stop (fun z => h1 z.1) H5 e5
      walk_at "go"
      refine k_inI (.inl hb5) ?_
      walk_at "go"
      refine k_both (fun h2 => ?_) (fun h2 => ?_)
      · exact stop (fun z => z.2.1 h2) H5 e5
      walk_at "go"
      refine ⟨sp, _, rfl, hsp5, fun c hc => ?_⟩
      rw [cut_to (by rw [List.length_map]; omega), ← List.map_take]
      have e6 := e5.tmp (o := .lst ((ss.take i).map V.int)) hc
      refine k_inI (.inl (SqL.of upd_same)) ?_
      generalize upd H5 c (.lst ((ss.take i).map V.int)) = H6 at *
      walk_at "go"
      refine k_both (fun h3 => ?_) (fun h3 => ?_)
      · exact stop (fun z => z.2.2 h3) H6 e6
      walk_at "go"
      refine ⟨G4, e6, rfl, ⟨_, _, _, _, rfl⟩, fun j x hj ej => ?_⟩
      by_cases z : j = i
      · subst z
        rw [em] at ej
        cases ej
        exact ⟨h1, h2, h3⟩
      · exact hb j x (by omega) ej
    · subst eG es
      rw [List.length_map] at hb
      have g : GoodSp n ld ss := good_iff.mpr fun i x e => hb i x (List.getElem?_eq_some_iff.mp e).1 e
      rcases q with ⟨_, qn⟩ | ⟨no, _⟩
      · exact qn H4 ((e3.trans e4).back s)
      · exact absurd g no
end
end CD
namespace XI
open PySem PySem.Spec PyProof.Rows L2
/-- t.index(k), whole numbers, the first place -/
def vIdxT (K : PySem.W.Frag) : V → List V → Hp → VK → Prop := fun x xs H Q => ∃ (p : Addr) (ns : List Int) (k : Int) (j : Nat), x = .ref p ∧ xs = [.int k] ∧ SqT K H p (ns.map V.int) ∧ ns[j]? = some k ∧ (∀ m : Nat, m < j → ns[m]? ≠ some k) ∧ Q (.int (j : Nat)) H
theorem all_flat : ∀ p : List Int, (p.map V.int).all flatV = true
  | [] => rfl
  | y :: r => by rw [List.map_cons, List.all_cons, all_flat r]; rfl
section
variable {X : Cx}
theorem mt_idxT : MtR X "tuple.index" (vIdxT X.K) := by
  intro pins s σ H x xs v us Q I rx rs h
  obtain ⟨p, ns, k, j, rfl, rfl, hq, hk, hno, qq⟩ := h
  cases rx
  obtain ⟨u, rfl, t, rfl⟩ := vals1 rs
  obtain ⟨its, r, pl, hz⟩ := I.tuple hq
  obtain ⟨⟨cls, dd, dt, sl⟩, ho, hc, n, hd⟩ := pl
  simp only at hc hd
  subst hc
  subst hd
  have sz : its.toArray.size = ns.length := by rw [List.size_toArray, ← r.length, List.length_map]
  have jl : j < its.toArray.size := by rw [sz]; exact (List.getElem?_eq_some_iff.mp hk).1
  have there : ∀ (m : Nat) (hm : m < its.toArray.size), ∃ y t', ns[m]? = some y ∧ its.toArray[m] = Value.int y t' := fun m hm => by
    have hm' : m < ns.length := by rw [← sz]; exact hm
    obtain ⟨w, hw, t', hw'⟩ := r.get (i := m) (x := .int ns[m]) (by simp [hm'])
    have e := (List.getElem?_eq_some_iff.mp hw).2
    refine ⟨ns[m], t', List.getElem?_eq_getElem hm', ?_⟩
    rw [← hw', ← e]
    simp
  refine call_meets PySem.F.slot_tuple_index ⟨_, ho, rfl⟩ PySem.F.entry_tuple_index (PySem.F.args_tuple_index_2 _ _) (TI.tuple_indexAt p its.toArray n dd sl (.int k t) (eqU (.int k)) j jl ?_ ?_)
    ⟨ho, fun w hw => mem_eqAt (x := .int k) ⟨t, rfl⟩ rfl r (all_flat ns) w (by simpa using hw), ⟨.int (j : Nat), H, I.tok _, ⟨_, rfl⟩, qq⟩⟩
  · obtain ⟨y, t', h1, h2⟩ := there j jl
    rw [hk] at h1
    cases h1
    rw [h2]
    show (k == k) = true
    simp
  · intro m hm hmj
    obtain ⟨y, t', h1, h2⟩ := there m hm
    rw [h2]
    show (y == k) = false
    have : y ≠ k := fun z => hno m hmj (by rw [h1, z])
    simp [this]
/-- a tuple whose very object is known: it has no dict of its own -/
def tTupF (t : TA) : TE := fun σ H Q => t σ H fun xs H1 => xs.length ≤ sizeLine ∧ ∀ (p : Addr) (ob : Obj), ob.dict = none → H1 p = none → Q (.ref p) (upd H1 p (.frz ob (.tup xs)))
theorem pe_tupF {es : List Expr} {t : TA} {pos : Pos} {x1} (h : PA X es t) : PE X (.Tuple es x1 pos) (tTupF t) := by
  constructor
  intro pins s σ H Q I hq
  refine wpAny_Tuple_spliced (thn (h.run pos pins s σ H _ I hq) fun us s1 ⟨xs, H1, I1, r, z, q⟩ => ⟨by rw [← r.length]; exact z, ?_⟩)
  have free : H1 s1.heap.objs.size = none := I1.hok.fresh (Nat.le_refl _)
  have there : (s1.heap.push { cls := .type "tuple", data := .seq us.toArray }).get? s1.heap.objs.size = some { cls := .type "tuple", data := .seq us.toArray } := Heap.get?_push_size _ rfl
  refine ⟨.ref s1.heap.objs.size, upd H1 s1.heap.objs.size (.frz { cls := .type "tuple", data := .seq us.toArray } (.tup xs)), I1.laid (t' := s1.toks) (fun b u e => Heap.get?_push_of_some _ e) (Nat.le_refl _) ?_, rfl, q _ _ rfl free⟩
  exact ⟨there, z, us, r, ⟨_, there, rfl, _, rfl⟩⟩
/-- a method of such a tuple -/
def NoD (H : Hp) (p : Addr) (xs : List V) : Prop := ∃ ob : Obj, ob.dict = none ∧ H p = some (.frz ob (.tup xs))
def tTM (r : V → List V → Hp → VK → Prop) (to : TE) (t : TA) : TE := fun σ H Q => to σ H fun x H1 => (∃ p xs, x = .ref p ∧ NoD H1 p xs) ∧ t σ H1 fun vs H2 => r x vs H2 Q
theorem pe_tm {o e : Expr} {es : List Expr} {to : TE} {t : TA} {name : Str} {apos cpos : Pos} {id : String} {r : V → List V → Hp → VK → Prop} (slot : Slot "tuple" name id) (hty : typeOf (.builtin id) = pure (.type "method_descriptor")) (hm : MtR X id r) (ho : PE X o to) (ha : PA X (e :: es) t)
    (base : attributeBase o name X.env (eval o X.env) = eval o X.env := by rfl)
    (few : ((backTo cpos (starEach (e :: es) X.env)).all (fun x => !x.1) && (backToKw cpos (keywordEach [] X.env)).all (fun x => x.1.isSome)
      && decide ((e :: es).length + ([] : List Keyword).length + (if ([] : List Keyword).isEmpty then 0 else 1) < 30)) = true := by rfl)
    (line : (apos.endLine == cpos.line) = true := by rfl) (star : starEach (e :: es) X.env = (false, eval e X.env) :: starEach es X.env := by rfl) (plain : (backTo cpos (starEach es X.env)).any (·.1) = false := by rfl) :
    PE X (.Call (.Attribute o name apos) (e :: es) [] cpos) (tTM r to t) := by
  constructor
  intro pins s σ H Q I h
  refine wpAny_Call_method_late base few line rfl (thn (ho.run pins s σ H _ I h) fun v s1 ⟨x, H1, I1, r1, ⟨p, xs, ex, ob, nd, hp⟩, q1⟩ => ?_)
  subst ex
  cases r1
  obtain ⟨got, _, its, _, o2, got2, cls, _⟩ := I1.hok p _ hp
  have same : o2 = ob := Option.some.inj (got2.symm.trans got)
  subst same
  refine ⟨"tuple", id, PySem.F.plainAttrs_tuple, slot, hty, ⟨o2, got, cls⟩, fun a e2 => ?_, ?_⟩
  · cases e2
    exact ⟨o2, got, nd⟩
  · have hA := ha.run cpos pins s1 σ H1 _ I1 q1
    rw [star] at hA ⊢
    refine Calls.callWith_builtin (by show (false || (backTo cpos (starEach es X.env)).any (·.1)) = false; rw [plain] <;> rfl) (Calls.evalArgs_plain ?_)
    exact thn hA fun us s2 ⟨vs, H2, I2, r2, q2⟩ => hm pins s2 σ H2 (.ref p) vs (.ref p) us Q I2 rfl r2 q2
end
end XI
namespace XZ
open PySem PySem.Spec PyProof.Rows L2
/-! ### list(zip(a tuple, a list)): the pairs, each a tuple of its own -/
theorem no_len : typeLookup (.type "zip") "__len__" = pure none := am_miss_of_fast (by decide +kernel)
theorem no_hint : typeLookup (.type "zip") "__length_hint__" = pure none := am_miss_of_fast (by decide +kernel)
section
variable {prog : Program} {w : World} {A : Around} {E : Value → Shared → Prop} {s : Shared} {z TI TO i1 i2 T : Addr} {f : Bool} {oT : Obj} {fp1 fp2 : List Addr} {n1 n2 i : Nat} {P1 P2 : Nat → Value → Prop} {St1 St2 : Nat → Heap → Prop}
/-- the next pair, while the last one is still held by someone -/
theorem held_pair {Q : Value → Shared → Prop} (Z : ZipSep2 z TI TO i1 i2 fp1 fp2) (D1 : Draws prog w A i1 fp1 n1 P1 St1) (D2 : Draws prog w A i2 fp2 n2 P2 St2) (hz : IsZipHeld s.heap z TI TO T f) (hT : s.heap.get? T = some oT)
    (hI : IsTupOf2 s.heap TI (.ref i1) (.ref i2)) (u1 : St1 i s.heap) (u2 : St2 i s.heap) (l1 : i < n1) (l2 : i < n2)
    (q : ∀ x y g tk, P1 i x → P2 i y → IsZipHeld g z TI TO T true → St1 (i + 1) g → St2 (i + 1) g → IsTupOf2 g s.heap.objs.size x y → g.objs.size = s.heap.objs.size + 1 → (∀ c o, c ≠ z → c ≠ i1 → c ≠ i2 → s.heap.get? c = some o → g.get? c = some o) →
      Q (.ref s.heap.objs.size) { s with heap := g, toks := tk }) :
    wpAny (model prog w) A (Builtin.«zip.__next__» ⟨[.ref z], []⟩) (fun fin s' => ∃ v, fin = .done (.ret v) ∧ Q v s') E s := by
  obtain ⟨h0, gn, dr, tk, os⟩ := s
  show wpAny _ _ (field (Value.ref z) 2 >>= _) _ _ _; refine wpAny_bind (wpAny_field hz rfl (x := .bool false) rfl ?_)
  show wpAny _ _ (field (Value.ref z) 3 >>= _) _ _ _; refine wpAny_bind (wpAny_field hz rfl (x := .ref TI) rfl ?_); refine wpAny_bind (wpAny_seqItems hI rfl ?_)
  show wpAny _ _ (Builtin.SmallTypes.ownedTupleIsFree (Value.ref z) >>= _) _ _ _; refine wpAny_bind (wpAny_tupleHeld_zip hz hT fun g0 hz0 b0 => ?_)
  replace b0 : Heap.SameBut z h0 g0 := b0
  simp only [Bool.false_eq_true, if_false]; refine wpAny_bind ?_
  rw [← Array.forIn_toList]; simp only [List.forIn_cons, List.forIn_nil]
  refine wpAny_bind (wpAny_bind (wpAny_holding ?_)); show wpAny _ _ (Builtin.SmallTypes.nextOf (Value.ref i1) >>= _) _ _ ⟨g0, gn, dr, tk, os⟩
  refine wpAny_bind (D1.item i ⟨g0, gn, dr, tk, os⟩ _ _ l1 (D1.over u1 b0 Z.zf1) fun x g1 tk1 px v1 b1 => wpAny_pure ?_)
  replace b1 : Heap.SameBut i1 g0 g1 := b1
  refine wpAny_pure ?_; refine wpAny_bind (wpAny_bind (wpAny_holding ?_)); show wpAny _ _ (Builtin.SmallTypes.nextOf (Value.ref i2) >>= _) _ _ ⟨g1, gn, dr, tk1, os⟩
  refine wpAny_bind (D2.item i ⟨g1, gn, dr, tk1, os⟩ _ _ l2 (D2.over (D2.over u2 b0 Z.zf2) b1 Z.sep1_2) fun y g2 tk2 py v2 b2 => wpAny_pure ?_)
  replace b2 : Heap.SameBut i2 g1 g2 := b2
  refine wpAny_pure (wpAny_pure ?_); show wpAny _ _ (newTuple [x, y] >>= _) _ _ ⟨g2, gn, dr, tk2, os⟩; refine wpAny_bind (wpAny_newTuple ?_)
  have sz : g2.objs.size = h0.objs.size := by rw [b2.1, b1.1, b0.1]
  have hz2 : IsZipHeld g2 z TI TO T true := b2.extBut _ _ Z.zi2 (b1.extBut _ _ Z.zi1 hz0)
  have all : ∀ c o, c ≠ z → c ≠ i1 → c ≠ i2 → h0.get? c = some o → g2.get? c = some o := fun c o c0 c1 c2 e => b2.extBut _ _ c2 (b1.extBut _ _ c1 (b0.extBut _ _ c0 e))
  refine wpAny_pure ⟨_, rfl, ?_⟩
  show Q (Value.ref g2.objs.size) _
  have tp : IsTupOf2 (g2.push { cls := .type "tuple", data := .seq #[x, y] }) g2.objs.size x y := Heap.get?_push_size _ rfl
  have sz2 : (g2.push { cls := .type "tuple", data := .seq #[x, y] }).objs.size = g2.objs.size + 1 := Heap.size_push ..
  have push : ∀ b o, g2.get? b = some o → (g2.push { cls := .type "tuple", data := .seq #[x, y] }).get? b = some o := fun b o e => Heap.get?_push_of_some _ e
  rw [sz] at tp sz2 ⊢
  exact q x y _ tk2 px py (push _ _ hz2) (D1.frame _ _ _ (D1.over v1 b2 Z.sep2_1) fun b _ o e => push b o e) (D2.frame _ _ _ v2 fun b _ o e => push b o e) tp sz2 fun c o c0 c1 c2 e => push c o (all c o c0 c1 c2 e)
/-- no pair is left, while the last one is still held -/
theorem held_stop {Q : Fin → Shared → Prop} (Z : ZipSep2 z TI TO i1 i2 fp1 fp2) (D1 : Draws prog w A i1 fp1 n1 P1 St1) (D2 : Draws prog w A i2 fp2 n2 P2 St2) (hz : IsZipHeld s.heap z TI TO T f) (hT : s.heap.get? T = some oT)
    (hI : IsTupOf2 s.heap TI (.ref i1) (.ref i2)) (u1 : St1 i s.heap) (u2 : St2 i s.heap) (le1 : i ≤ n1) (le2 : i ≤ n2) (last : i = n1 ∨ i = n2)
    (q : ∀ g tk e, (∀ c o, c ≠ z → c ≠ i1 → c ≠ i2 → s.heap.get? c = some o → g.get? c = some o) → (∃ o, g.get? e = some o ∧ o.cls = .type "StopIteration") → E (.ref e) { s with heap := g, toks := tk }) :
    wpAny (model prog w) A (Builtin.«zip.__next__» ⟨[.ref z], []⟩) Q E s := by
  obtain ⟨h0, gn, dr, tk, os⟩ := s
  show wpAny _ _ (field (Value.ref z) 2 >>= _) _ _ _; refine wpAny_bind (wpAny_field hz rfl (x := .bool false) rfl ?_)
  show wpAny _ _ (field (Value.ref z) 3 >>= _) _ _ _; refine wpAny_bind (wpAny_field hz rfl (x := .ref TI) rfl ?_); refine wpAny_bind (wpAny_seqItems hI rfl ?_)
  show wpAny _ _ (Builtin.SmallTypes.ownedTupleIsFree (Value.ref z) >>= _) _ _ _; refine wpAny_bind (wpAny_tupleHeld_zip hz hT fun g0 hz0 b0 => ?_)
  replace b0 : Heap.SameBut z h0 g0 := b0
  simp only [Bool.false_eq_true, if_false]; refine wpAny_bind ?_
  rw [← Array.forIn_toList]; simp only [List.forIn_cons, List.forIn_nil]
  refine wpAny_bind (wpAny_bind (wpAny_holding ?_)); show wpAny _ _ (Builtin.SmallTypes.nextOf (Value.ref i1) >>= _) _ _ ⟨g0, gn, dr, tk, os⟩
  by_cases lt : i < n1
  · refine wpAny_bind (D1.item i ⟨g0, gn, dr, tk, os⟩ _ _ lt (D1.over u1 b0 Z.zf1) fun x g1 tk1 px v1 b1 => wpAny_pure ?_)
    replace b1 : Heap.SameBut i1 g0 g1 := b1
    have e2 : i = n2 := by omega
    refine wpAny_pure ?_; refine wpAny_bind (wpAny_bind (wpAny_holding ?_)); show wpAny _ _ (Builtin.SmallTypes.nextOf (Value.ref i2) >>= _) _ _ ⟨g1, gn, dr, tk1, os⟩
    exact wpAny_bind (D2.done ⟨g1, gn, dr, tk1, os⟩ _ _ (by rw [← e2]; exact D2.over (D2.over u2 b0 Z.zf2) b1 Z.sep1_2) fun g2 e b2 he => q g2 tk1 e (fun c o c0 c1 c2 x => b2 _ _ c2 (b1.extBut _ _ c1 (b0.extBut _ _ c0 x))) he)
  · have e1 : i = n1 := by omega
    exact wpAny_bind (D1.done ⟨g0, gn, dr, tk, os⟩ _ _ (by rw [← e1]; exact D1.over u1 b0 Z.zf1) fun g2 e b2 he => q g2 tk e (fun c o c0 c1 c2 x => b2 _ _ c1 (b0.extBut _ _ c0 x)) he)
/-- where such an iterator stands: nothing told yet, or the last pair T still held -/
def At (z TI TO i1 i2 : Addr) (St1 St2 : Nat → Heap → Prop) (i : Nat) (h : Heap) : Prop :=
  IsTupOf2 h TI (.ref i1) (.ref i2) ∧ St1 i h ∧ St2 i h ∧ ((∃ a b, IsZip h z TI TO .none ∧ IsTupOf2 h TO a b) ∨ ∃ T f oT, IsZipHeld h z TI TO T f ∧ h.get? T = some oT ∧ oT.cls = .type "tuple" ∧ T ≠ z ∧ T ≠ i1 ∧ T ≠ i2)
theorem At.ty {St1 St2 : Nat → Heap → Prop} (a : At z TI TO i1 i2 St1 St2 i s.heap) : s.TypeIs (.ref z) "zip" := by
  rcases a.2.2.2 with ⟨_, _, h, _⟩ | ⟨_, _, _, h, _⟩ <;> exact ⟨_, h, rfl⟩
theorem next_pair {Q : Option Value → Shared → Prop} (Z : ZipSep2 z TI TO i1 i2 fp1 fp2) (D1 : Draws prog w A.in1 i1 fp1 n1 P1 St1) (D2 : Draws prog w A.in1 i2 fp2 n2 P2 St2) (a : At z TI TO i1 i2 St1 St2 i s.heap) (l1 : i < n1) (l2 : i < n2)
    (q : ∀ x y g tk, P1 i x → P2 i y → At z TI TO i1 i2 St1 St2 (i + 1) g → IsTupOf2 g s.heap.objs.size x y → g.objs.size = s.heap.objs.size + 1 → (∀ c o, c ≠ z → c ≠ TO → c ≠ i1 → c ≠ i2 → s.heap.get? c = some o → g.get? c = some o) →
      Q (some (.ref s.heap.objs.size)) { s with heap := g, toks := tk }) : wpAny (model prog w) A (pyNext (.ref z)) Q E s := by
  have ty := a.ty
  obtain ⟨hI, u1, u2, ⟨a1, a2, hz, hO⟩ | ⟨T, f, oT, hz, hT, ct, t0, t1, t2⟩⟩ := a
  · exact wpAny_pyNext_zipD2_item Z D1 D2 hz hI hO u1 u2 l1 l2 fun x y g tk px py hz' hO' v1 v2 tp sz k => q x y g tk px py ⟨k _ _ Z.TIz Z.TITO Z.TIi1 Z.TIi2 hI, v1, v2, .inr ⟨_, false, _, hz', tp, rfl, Nat.ne_of_gt (Heap.lt_size hz), (let ⟨_, e⟩ := D1.live _ _ u1; Nat.ne_of_gt (Heap.lt_size e)), (let ⟨_, e⟩ := D2.live _ _ u2; Nat.ne_of_gt (Heap.lt_size e))⟩⟩ tp sz k
  · unfold pyNext
    refine wpAny_bind (wpAny_attempt (wpAny_callSpecial?_slot (name := Str.ofString "__next__") ty F.slot_zip_next (wpAny_call_entry F.slot_zip_next ty F.entry_zip_next ?_ (F.args_zip_next_1 _))))
    exact held_pair Z D1 D2 hz hT hI u1 u2 l1 l2 fun x y g tk px py hz' v1 v2 tp sz k => wpAny_pure (q x y g tk px py ⟨k _ _ Z.TIz Z.TIi1 Z.TIi2 hI, v1, v2, .inr ⟨_, true, _, hz', k _ _ t0 t1 t2 hT, ct, t0, t1, t2⟩⟩ tp sz fun c o c0 _ c1 c2 e => k c o c0 c1 c2 e)
theorem next_stop {Q : Option Value → Shared → Prop} (Z : ZipSep2 z TI TO i1 i2 fp1 fp2) (D1 : Draws prog w A.in1 i1 fp1 n1 P1 St1) (D2 : Draws prog w A.in1 i2 fp2 n2 P2 St2) (a : At z TI TO i1 i2 St1 St2 i s.heap) (le1 : i ≤ n1) (le2 : i ≤ n2) (last : i = n1 ∨ i = n2)
    (q : ∀ g tk, (∀ c o, c ≠ z → c ≠ TO → c ≠ i1 → c ≠ i2 → s.heap.get? c = some o → g.get? c = some o) → Q none { s with heap := g, toks := tk }) : wpAny (model prog w) A (pyNext (.ref z)) Q E s := by
  have ty := a.ty
  obtain ⟨hI, u1, u2, ⟨a1, a2, hz, hO⟩ | ⟨T, f, oT, hz, hT, ct, t0, t1, t2⟩⟩ := a
  · exact wpAny_pyNext_zipD2_end Z D1 D2 hz hI hO u1 u2 le1 le2 last q
  · unfold pyNext
    refine wpAny_bind (wpAny_attempt (wpAny_callSpecial?_slot (name := Str.ofString "__next__") ty F.slot_zip_next (wpAny_call_entry F.slot_zip_next ty F.entry_zip_next ?_ (F.args_zip_next_1 _))))
    refine held_stop Z D1 D2 hz hT hI u1 u2 le1 le2 last fun g tk e k ⟨o, ho, hc⟩ => ?_
    exact wpAny_bind (wpAny_isInstance (T := "StopIteration") (b := true) ⟨o, ho, hc⟩ isSubtype_stop (wpAny_pure (q g tk fun c o c0 _ c1 c2 e => k c o c0 c1 c2 e)))
theorem At.over {h h' : Heap} {S a b : Addr} {us vs : Array Value} {oS : Obj} (x : At z TI TO i1 i2 (fun i h => h.IsTupleIter i1 a i ∧ h.IsTuple a us) (fun i h => h.IsListIter i2 b i ∧ h.IsList b vs) i h) (hS : h.get? S = some oS) (cS : oS.cls = .type "list") (ne : ∀ c, c ∈ [z, TI, TO, i1, i2] → S ≠ c)
    (k : ∀ c o, c ≠ S → h.get? c = some o → h'.get? c = some o) (na : a ≠ S) (nb : b ≠ S) : At z TI TO i1 i2 (fun i h => h.IsTupleIter i1 a i ∧ h.IsTuple a us) (fun i h => h.IsListIter i2 b i ∧ h.IsList b vs) i h' := by
  obtain ⟨hI, ⟨v1, w1⟩, ⟨v2, w2⟩, r⟩ := x
  refine ⟨k _ _ (ne TI (by simp)).symm hI, ⟨v1.at fun o e => k _ o (ne i1 (by simp)).symm e, w1.at fun o e => k _ o na e⟩, ⟨v2.at fun o e => k _ o (ne i2 (by simp)).symm e, w2.at fun o e => k _ o nb e⟩, ?_⟩
  rcases r with ⟨c, d, hz, hO⟩ | ⟨T, f, oT, hz, hT, ct, r⟩
  · exact .inl ⟨c, d, k _ _ (ne z (by simp)).symm hz, k _ _ (ne TO (by simp)).symm hO⟩
  · refine .inr ⟨T, f, oT, k _ _ (ne z (by simp)).symm hz, k _ _ (fun e => ?_) hT, ct, r⟩
    rw [e, hS] at hT
    cases hT
    rw [cS] at ct
    simp at ct
/-- the pairs laid one after another, the list that holds them growing -/
def Lay : List (V × V) → Addr → List V → Hp → VK → Prop
  | [], S, _, H, Q => Q (.ref S) H
  | p :: r, S, acc, H, Q => ∀ T, H T = none → Lay r S (acc ++ [.ref T]) (upd (upd H T (.tup [p.1, p.2])) S (.lst (acc ++ [.ref T]))) Q
end
section
variable {X : Cx} {pins : List (Addr × Obj)} {σ : L2.St}
/-- the loop of list(..) over such an iterator -/
theorem drainZ {z TI TO i1 i2 a b S : Addr} {xs ys : List V} {A : Around} {R : Result → Shared → Prop} {Q : VK} {its its2 : List Value} (res : Value) (hh : A.handled = none) (Z : ZipSep2 z TI TO i1 i2 [i1, a] [i2, b]) (na : a ≠ i1) (nb : b ≠ i2) (Sa : S ≠ a) (Sb : S ≠ b) (Sz : S ∉ [z, TI, TO, i1, i2])
    (rx : Vals xs its) (ry : Vals ys its2) (hR : ∀ H s', Inv X pins σ H s' → Q (.ref S) H → R (.ok (.ret res)) s') :
    ∀ (k i : Nat) (H : Hp) (s : Shared) (acc : List V), min xs.length ys.length - i = k → i ≤ min xs.length ys.length → acc.length = i → Inv X pins σ H s → H S = some (.lst acc) → (∀ c ∈ [z, TO, i1, i2], FpOk X pins H c) → (∀ c ∈ [z, TO, i1, i2], c < s.heap.objs.size) →
      At z TI TO i1 i2 (fun i h => h.IsTupleIter i1 a i ∧ h.IsTuple a its.toArray) (fun i h => h.IsListIter i2 b i ∧ h.IsList b its2.toArray) i s.heap → Lay ((xs.zip ys).drop i) S acc H Q → min xs.length ys.length ≤ sizeLine →
      codeAny (model X.prog X.w) A (.builtin "list.extend.loop" ⟨[.ref S, .ref z, res], []⟩) R s := by
  have hne : ∀ c, c ∈ [z, TI, TO, i1, i2] → S ≠ c := fun c hc e => Sz (e ▸ hc)
  have l1 : its.toArray.size = xs.length := by rw [List.size_toArray, ← rx.length]
  have l2 : its2.toArray.size = ys.length := by rw [List.size_toArray, ← ry.length]
  have lz : (xs.zip ys).length = min xs.length ys.length := List.length_zip
  intro k
  induction k with
  | zero =>
    intro i H s acc hk hi ha I hS hf hb at0 q sz
    have e : i = min xs.length ys.length := by omega
    refine codeAny_builtin F.entry_extend_loop ?_
    rw [Around.under_plainId F.plain_extend_loop _]
    show wpAny _ A.in1 (pyNext (Value.ref z) >>= _) _ _ s
    refine wpAny_bind (next_stop (n1 := its.toArray.size) (n2 := its2.toArray.size) Z (Draws.tuple (A := A.in1.in1) hh i1 a na its.toArray) (Draws.list (A := A.in1.in1) hh i2 b nb its2.toArray) at0 (by omega) (by omega) (by omega) fun g tk kp => wpAny_pure ?_)
    rw [List.drop_eq_nil_of_le (by omega)] at q
    exact hR H _ (I.turnedL (ch := [z, TO, i1, i2]) (fun c o hc x => kp c o (fun e => hc (by simp [e])) (fun e => hc (by simp [e])) (fun e => hc (by simp [e])) (fun e => hc (by simp [e])) x) hf) q
  | succ k ih =>
    intro i H s acc hk hi ha I hS hf hb at0 q sz
    have hl : i < (xs.zip ys).length := by omega
    have hx : i < xs.length := by omega
    have hy : i < ys.length := by omega
    refine codeAny_builtin F.entry_extend_loop ?_
    rw [Around.under_plainId F.plain_extend_loop _]
    show wpAny _ A.in1 (pyNext (Value.ref z) >>= _) _ _ s
    refine wpAny_bind (next_pair (n1 := its.toArray.size) (n2 := its2.toArray.size) Z (Draws.tuple (A := A.in1.in1) hh i1 a na its.toArray) (Draws.list (A := A.in1.in1) hh i2 b nb its2.toArray) at0 (by omega) (by omega) fun x y g tk px py at1 tp sz1 kp => ?_)
    rw [List.drop_eq_getElem_cons hl] at q
    obtain ⟨u, hu, ru⟩ := rx.get (List.getElem?_eq_getElem hx)
    obtain ⟨u2, hu2, ru2⟩ := ry.get (List.getElem?_eq_getElem hy)
    have ex : x = u := by simpa [hu] using px.symm
    have ey : y = u2 := by simpa [hu2] using py.symm
    subst ex ey
    have fresh := I.fresh
    have I1 : Inv X pins σ (upd H s.heap.objs.size (.tup [xs[i], ys[i]])) { s with heap := g, toks := tk } :=
      I.turnedNew (ch := [z, TO, i1, i2]) (fun c o hc x => kp c o (fun e => hc (by simp [e])) (fun e => hc (by simp [e])) (fun e => hc (by simp [e])) (fun e => hc (by simp [e])) x) hf (Nat.le_refl _)
        ⟨by show 2 ≤ sizeLine; decide, [x, y], .cons ru (.cons ru2 .nil), ⟨_, tp, rfl, _, rfl⟩⟩
    have nS : S ≠ s.heap.objs.size := fun e => by rw [← e, hS] at fresh; cases fresh
    have hS1 : upd H s.heap.objs.size (.tup [xs[i], ys[i]]) S = some (.lst acc) := by rw [upd_ne nS]; exact hS
    obtain ⟨zl, itl, n, rl, ho⟩ := I1.hok S _ hS1
    have q1 := q _ fresh
    have ez : ((xs.zip ys)[i]).1 = xs[i] ∧ ((xs.zip ys)[i]).2 = ys[i] := by rw [List.getElem_zip]; exact ⟨rfl, rfl⟩
    rw [ez.1, ez.2] at q1
    have hS2 : (upd H s.heap.objs.size (.tup [xs[i], ys[i]])) S = some (.lst acc) := hS1
    have llen : itl.length = acc.length := rl.length.symm
    show wpAny _ A.in1 (updateSeq S (·.push (Value.ref s.heap.objs.size)) >>= _) _ _ _
    have mp : Obj.mapSeq (·.push (Value.ref s.heap.objs.size)) { cls := .type "list", data := .seq itl.toArray n } = { cls := .type "list", data := .seq (itl ++ [Value.ref s.heap.objs.size]).toArray (n + 1) } := by
      rw [mapSeq_push]
      simp only [List.push_toArray]
    have I2 := I1.lstUpd hS1 ho mp (rl.append (.cons (a := V.ref s.heap.objs.size) (b := Value.ref s.heap.objs.size) rfl .nil)) (by rw [List.length_append, List.length_singleton]; omega) tk
    have other : ∀ c o, c ≠ S → g.get? c = some o → (g.update S (Obj.mapSeq (·.push (Value.ref s.heap.objs.size)))).get? c = some o := fun c o hc e => (Heap.get?_update_other _ _ (Ne.symm hc)).trans e
    have gs : (g.update S (Obj.mapSeq (·.push (Value.ref s.heap.objs.size)))).objs.size = g.objs.size := (Heap.SameBut.update ..).1
    have ne : ∀ c, c ∈ [z, TO, i1, i2] → c ≠ S := fun c hc => (hne c (by
      have e : c = z ∨ c = TO ∨ c = i1 ∨ c = i2 := by simpa using hc
      rcases e with e | e | e | e <;> simp [e])).symm
    have fp2 : ∀ c ∈ [z, TO, i1, i2], FpOk X pins (upd (upd H s.heap.objs.size (.tup [xs[i], ys[i]])) S (.lst (acc ++ [.ref s.heap.objs.size]))) c := fun c hc =>
      ⟨by rw [upd_ne (ne c hc), upd_ne (Nat.ne_of_lt (hb c hc))]; exact (hf c hc).1, (hf c hc).2⟩
    refine wpAny_bind (wpAny_updateSeq ho rfl (wpAny_pure ⟨plainId_quiet F.plain_extend_loop _, ih (i + 1) _ _ (acc ++ [.ref s.heap.objs.size]) (by omega) (by omega) (by rw [List.length_append, ha]; rfl) I2 upd_same fp2 (fun c hc => ?_) (at1.over ho rfl hne other Sa.symm Sb.symm) q1 sz⟩) ?_ ?_)
    · show c < (g.update S _).objs.size
      rw [gs, sz1]
      exact Nat.lt_succ_of_lt (hb c hc)
    · show itl.toArray.size ≤ sizeLine
      rw [List.size_toArray]; omega
    · show (itl.toArray.push _).size ≤ sizeLine + 1
      rw [Array.size_push, List.size_toArray]; omega
/-- list(that iterator) -/
theorem call_listZ {z TI TO i1 i2 a b : Addr} {xs ys : List V} {A : Around} {H : Hp} {s : Shared} {Q : VK} {Q2 : Value → Shared → Prop} {E : Value → Shared → Prop} {its its2 : List Value} (hh : A.handled = none) (Z : ZipSep2 z TI TO i1 i2 [i1, a] [i2, b]) (na : a ≠ i1) (nb : b ≠ i2)
    (rx : Vals xs its) (ry : Vals ys its2) (I : Inv X pins σ H s) (hf : ∀ c ∈ [z, TO, i1, i2], FpOk X pins H c) (hz : IsZip s.heap z TI TO .none) (hI : IsTupOf2 s.heap TI (.ref i1) (.ref i2)) (hO : IsTupOf2 s.heap TO .none .none) (t1 : s.heap.IsTupleIter i1 a 0) (w1 : s.heap.IsTuple a its.toArray) (t2 : s.heap.IsListIter i2 b 0) (w2 : s.heap.IsList b its2.toArray)
    (sz : min xs.length ys.length ≤ sizeLine) (q : ∀ S, H S = none → Lay (xs.zip ys) S [] (upd H S (.lst [])) Q) (hQ : ∀ v H s', Inv X pins σ H s' → Q v H → ∀ u, RelV v u → Q2 u s') : wpAny (model X.prog X.w) A (call (.type "list") [.ref z]) Q2 E s := by
  have live : ∀ c, c ∈ [z, TI, TO, i1, i2, a, b] → c < s.heap.objs.size := fun c hc => by
    obtain ⟨_, e1, _⟩ := t1
    obtain ⟨_, e2, _⟩ := t2
    obtain ⟨_, e3, _⟩ := w1
    obtain ⟨_, e4, _⟩ := w2
    have e : c = z ∨ c = TI ∨ c = TO ∨ c = i1 ∨ c = i2 ∨ c = a ∨ c = b := by simpa using hc
    rcases e with e | e | e | e | e | e | e <;> subst e <;> exact Heap.lt_size (by assumption)
  refine callType_codes (Q₁ := fun obj s₁ => obj = .ref s.heap.objs.size ∧ s₁ = { s with heap := s.heap.push { cls := .type "list", data := .seq #[] } }) F.called_list (F.typeCall_list_1 _) F.entry_list_init (code_list_new _ ⟨rfl, rfl⟩) fun obj s₁ h₁ => ?_
  obtain ⟨rfl, rfl⟩ := h₁
  have g1 : (s.heap.push { cls := .type "list", data := .seq #[] }).get? s.heap.objs.size = some { cls := .type "list", data := .seq #[] } := Heap.get?_push_size _ rfl
  refine ⟨⟨_, g1, rfl⟩, F.args_list_init_2 _ _, ?_⟩
  show wpAny _ A.in1.in1 (Builtin.List.listItems (Value.ref s.heap.objs.size) >>= fun old => Builtin.List.listUpdate (Value.ref s.heap.objs.size) (fun _ => #[]) >>= fun _ => letGo old.toList.reverse >>= fun _ => Builtin.List.listExtendWith (Value.ref s.heap.objs.size) (Value.ref z) .none) _ _ _
  refine wpAny_bind ?_
  unfold Builtin.List.listItems; refine wpAny_bind (wpAny_seqItems g1 rfl (wpAny_pure ?_))
  show wpAny _ A.in1.in1 (updateSeq s.heap.objs.size (fun _ => #[]) >>= fun _ => letGo (#[] : Array Value).toList.reverse >>= fun _ => Builtin.List.listExtendWith (Value.ref s.heap.objs.size) (Value.ref z) .none) _ _ _
  refine wpAny_bind (wpAny_updateSeq g1 rfl ?_)
  have g2 := Heap.get?_update_self (Obj.mapSeq (fun _ => (#[] : Array Value))) g1 rfl
  refine wpAny_bind (wpAny_letGo ?_)
  unfold Builtin.List.listExtendWith
  have ne : ∀ c, c ∈ [z, TI, TO, i1, i2, a, b] → s.heap.objs.size ≠ c := fun c hc => Nat.ne_of_gt (live c hc)
  have step : ∀ (h : Heap) (f : Obj → Obj), (∀ c o, s.heap.get? c = some o → h.get? c = some o) → ∀ c o, s.heap.get? c = some o → (h.update s.heap.objs.size f).get? c = some o := fun h f k c o e => (Heap.get?_update_other _ _ (Nat.ne_of_gt (Heap.lt_size e))).trans (k c o e)
  have k1 : ∀ c o, s.heap.get? c = some o → (s.heap.push { cls := .type "list", data := .seq #[] }).get? c = some o := fun c o e => Heap.get?_push_of_some _ e
  have k2 := step _ (Obj.mapSeq (fun _ => (#[] : Array Value))) k1
  have d1 : Builtin.List.listSameRef (.ref s.heap.objs.size) (.ref z) = false := by simp [Builtin.List.listSameRef, ne z (by simp)]
  have d2 : (Value.type "zip" == Value.type "list") = false := by decide
  have d3 : (Value.type "zip" == Value.type "tuple") = false := by decide
  refine wpAny_bind (wpAny_typeOf (T := "zip") ⟨_, k2 _ _ hz, rfl⟩ ?_)
  simp only [d1, d2, d3, Bool.or_false, Bool.false_eq_true, if_false]
  refine wpAny_bind (wpAny_pyIter_zip (k2 _ _ hz) ?_)
  refine wpAny_bind (wpAny_holding ?_)
  unfold Builtin.List.listLengthHint
  refine wpAny_bind (wpAny_specialOf (T := "zip") ⟨_, k2 _ _ hz, rfl⟩ no_len ?_)
  show wpAny _ A.in1.in1 (specialOf (Value.ref z) (Str.ofString "__length_hint__") >>= fun _ => _) _ _ _
  refine wpAny_bind (wpAny_specialOf (T := "zip") ⟨_, k2 _ _ hz, rfl⟩ no_hint ?_)
  refine wpAny_pure ?_
  show wpAny _ A.in1.in1 (rule "list.extend.makes-room" >>= fun _ => Builtin.List.listTouch (Value.ref s.heap.objs.size) >>= fun _ => again (.builtin "list.extend.loop" ⟨[.ref s.heap.objs.size, .ref z, .none], []⟩)) _ _ _
  refine wpAny_bind (wpAny_rule (wpAny_bind ?_))
  show wpAny _ A.in1.in1 (updateSeq s.heap.objs.size (·.push Value.none) >>= fun _ => updateSeq s.heap.objs.size (·.pop)) _ _ _
  refine wpAny_bind (wpAny_updateSeq g2 rfl ?_)
  have g3 := Heap.get?_update_self (Obj.mapSeq (·.push Value.none)) g2 rfl
  refine wpAny_updateSeq (hz := by seq_fits) g3 rfl ?_
  have g4 := Heap.get?_update_self (Obj.mapSeq (·.pop)) g3 rfl
  have k4 := step _ (Obj.mapSeq (·.pop)) (step _ (Obj.mapSeq (·.push Value.none)) k2)
  refine wpAny_pure ⟨plainId_quiet F.plain_extend_loop _, ?_⟩
  have I4 : Inv X pins σ (upd H s.heap.objs.size (.lst [])) { s with heap := _ } := I.laid (t' := s.toks) k4 (Nat.le_refl _) ⟨Nat.zero_le _, [], _, .nil, g4⟩
  refine drainZ (X := X) (pins := pins) (σ := σ) (A := A.in1) (R := fun r s' => _) .none hh Z na nb (ne a (by simp)) (ne b (by simp)) (fun h => absurd rfl (ne s.heap.objs.size (by
      have e : s.heap.objs.size = z ∨ s.heap.objs.size = TI ∨ s.heap.objs.size = TO ∨ s.heap.objs.size = i1 ∨ s.heap.objs.size = i2 := by simpa using h
      rcases e with e | e | e | e | e <;> simp [← e]))) rx ry (fun H' s' I' q' => ⟨rfl, hQ _ _ _ I' q' _ rfl⟩) _ 0 _ _ [] rfl (Nat.zero_le _) rfl I4 upd_same
    (fun c hc => ⟨by rw [upd_ne (ne c (by
      have e : c = z ∨ c = TO ∨ c = i1 ∨ c = i2 := by simpa using hc
      rcases e with e | e | e | e <;> simp [e])).symm]; exact (hf c hc).1, (hf c hc).2⟩) (fun c hc => ?_)
    ⟨k4 _ _ hI, ⟨t1.at fun o e => k4 _ o e, w1.at fun o e => k4 _ o e⟩, ⟨t2.at fun o e => k4 _ o e, w2.at fun o e => k4 _ o e⟩, .inl ⟨_, _, k4 _ _ hz, k4 _ _ hO⟩⟩ (q _ I.fresh) sz
  obtain ⟨o, ho⟩ : ∃ o, s.heap.get? c = some o := by
    obtain ⟨_, e1, _⟩ := t1
    obtain ⟨_, e2, _⟩ := t2
    have e : c = z ∨ c = TO ∨ c = i1 ∨ c = i2 := by simpa using hc
    rcases e with e | e | e | e <;> subst e <;> exact ⟨_, by assumption⟩
  exact Heap.lt_size (k4 _ _ ho)
end
def tListZip (K : PySem.W.Frag) (ta : TA) : TE := fun σ H Q => ta σ H fun vs H1 => ∃ a b xs ys, vs = [.ref a, .ref b] ∧ SqT K H1 a xs ∧ SqL K H1 b ys ∧ xs.length ≤ 1000 ∧ ∀ S, H1 S = none → Lay (xs.zip ys) S [] (upd H1 S (.lst [])) Q
theorem pe_listZip {X : Cx} {e e2 : Expr} {ta : TA} {p p2 pos pos2 : Pos} (hl : Gl X "list") (ml : X.mg "list" = none) (hg : Gl X "zip") (hm : X.mg "zip" = none) (ha : PA X [e, e2] ta) (hc : X.calm = true := by rfl)
    (hs : starEach [e, e2] X.env = (false, eval e X.env) :: starEach [e2] X.env := by rfl) (hpl : (backTo pos2 (starEach [e2] X.env)).any (·.1) = false := by rfl)
    (na : starEach [.Call (.Name "zip" p2) [e, e2] [] pos2] X.env = (false, eval (.Call (.Name "zip" p2) [e, e2] [] pos2) X.env) :: starEach [] X.env := by rfl) :
    PE X (.Call (.Name "list" p) [.Call (.Name "zip" p2) [e, e2] [] pos2] [] pos) (tListZip X.K ta) := by
  refine ⟨fun pins s σ H Q I h => ?_⟩
  refine Call_ (ld_blt I hl ml boot_list ?_)
  refine callWith_type1 (args_cons ?_ rfl) na rfl
  refine Call_ (ld_blt I hg hm boot_zip (callWith_type1 (thn (ha.run pos2 pins s σ H _ I h) fun us s1 ⟨vs, H1, I1, r1, q1⟩ => ?_) hs hpl))
  obtain ⟨a, b, xs, ys, rfl, hqx, hqy, sz, q⟩ := q1
  cases r1 with
  | cons r rr =>
    cases rr with
    | cons r' rr =>
      cases rr
      cases r
      cases r'
      obtain ⟨its, rv, pa, _⟩ := I1.tuple hqx
      obtain ⟨its2, rv2, pb, _⟩ := I1.list hqy
      have la : a < s1.heap.objs.size := let ⟨_, e, _⟩ := pa; Heap.lt_size e
      have lb : b < s1.heap.objs.size := pb.lt
      have begT := begins_tuple a its.toArray
      have begL := begins_list b its2.toArray
      refine zip_begins2 begT begL (show s1.heap.IsTuple a its.toArray from pa) pb.isList fun h' hz hI hO o1 o2 hsz hk => ?_
      refine args_nil ?_
      have I2 : Inv X pins σ H1 { s1 with heap := h' } := I1.kept (t' := s1.toks) hk
      have Z := zip_sep2 (N := s1.heap.objs.size) (fp1 := [a]) (fp2 := [b]) (fun c hc => by rw [List.mem_singleton.mp hc]; exact la) (fun c hc => by rw [List.mem_singleton.mp hc]; exact lb)
      refine call_listZ (X := X) (pins := pins) (σ := σ) (Q := Q) (I2.ok.hd hc) Z (Nat.ne_of_lt la) (Nat.ne_of_lt (Nat.lt_succ_of_lt lb)) rv rv2 I2 (fun c hc => ?_) hz hI hO ⟨_, o1, rfl, rfl⟩ ((show s1.heap.IsTuple a its.toArray from pa).at fun o e => hk _ o e) ⟨_, o2, rfl, rfl⟩ (pb.isList.at fun o e => hk _ o e) ?_ q (fun v H' s' I' q' u r => ⟨v, H', I', r, q'⟩)
      · have hle : s1.heap.objs.size ≤ c := by
          have e : c = s1.heap.objs.size + 4 ∨ c = s1.heap.objs.size + 3 ∨ c = s1.heap.objs.size ∨ c = s1.heap.objs.size + 1 := by simpa using hc
          rcases e with z | z | z | z <;> rw [z]
          · exact Nat.le_add_right _ _
          · exact Nat.le_add_right _ _
          · exact Nat.le_refl _
          · exact Nat.le_add_right _ _
        exact I1.fpOk hle (I1.hok.fresh hle)
      · have : min xs.length ys.length ≤ 1000 := Nat.le_trans (Nat.min_le_left _ _) sz
        exact Nat.le_trans this (by decide)
/-- a slice of a list or of a tuple -/
def rSlX (K : PySem.W.Frag) : V → Option Int → Option Int → Hp → VK → Prop := fun x lo hi H Q => rSlL K x lo hi H Q ∨ rSlA K x lo hi H Q
theorem sl_seq {X : Cx} : SlR X (rSlX X.K) := by
  intro pins s σ H x v vl vu lo hi sl Q I rx hs pl pu h
  rcases h with h | h
  · exact sl_list pins s σ H x v vl vu lo hi sl Q I rx hs pl pu h
  · exact sl_tupA pins s σ H x v vl vu lo hi sl Q I rx hs pl pu h
/-- int(a whole number or a truth value) -/
def rInt1 : List V → Hp → VK → Prop := fun xs H Q => (∃ i, xs = [.int i] ∧ Q (.int i) H) ∨ ∃ k, xs = [.bl k] ∧ Q (.int (if k then 1 else 0)) H
end XZ
namespace CH
open PySem PySem.Spec PyProof.Rows L2 MV CX CP CD
local macro_rules | `(tactic| walk_at "go") => `(tactic| repeat (first
  | with_reducible refine MV.k_seq ?_ | with_reducible refine MV.k_asg ?_ | with_reducible refine MV.k_name ?_ | with_reducible refine MV.k_op ?_ | ((with_reducible apply MV.k_var); exact rfl) | with_reducible refine MV.k_c ?_
  | with_reducible refine MV.k_add ?_ | with_reducible refine MV.k_sub ?_ | with_reducible refine MV.k_lt ?_ | with_reducible refine MV.k_le ?_ | with_reducible refine MV.k_gt ?_ | with_reducible refine MV.k_ge ?_ | with_reducible refine MV.k_eqI ?_ | with_reducible refine MV.k_neI ?_
  | with_reducible refine MV.k_test ?_ | with_reducible refine MV.k_B ?_ | with_reducible refine MV.k_bl ?_ | with_reducible refine MV.k_blV ?_ | with_reducible refine MV.k_and ?_ | with_reducible refine MV.k_or ?_ | with_reducible refine MV.k_not ?_ | with_reducible refine MV.k_andV ?_ | with_reducible refine MV.k_orV ?_ | with_reducible refine MV.k_notV ?_
  | with_reducible refine MV.k_if ?_ | with_reducible refine MV.k_tru ?_ | with_reducible refine MV.k_chain ?_ | with_reducible refine MV.k_next ?_ | with_reducible refine MV.k_drop ?_ | with_reducible refine MV.k_ret ?_ | with_reducible refine MV.k_retN ?_ | with_reducible refine MV.k_ifS ?_ | with_reducible refine MV.k_brk ?_ | with_reducible refine MV.k_cont ?_
  | with_reducible refine MV.k_nil ?_ | with_reducible refine MV.k_cons ?_ | with_reducible refine MV.k_tup ?_ | with_reducible refine MV.k_lst ?_ | with_reducible refine MV.k_cb ?_ | with_reducible refine MV.k_call ?_ | with_reducible refine MV.k_gnil ?_ | with_reducible refine MV.k_gcons ?_ | with_reducible refine MV.k_gsub ?_
  | with_reducible refine MV.k_bm ?_ | with_reducible refine MV.k_bm0 ?_ | with_reducible refine MV.k_un ?_ | with_reducible refine MV.k_neg ?_ | with_reducible refine MV.k_isN ?_ | with_reducible refine MV.k_notN ?_ | with_reducible refine L2.iteT ?_ | with_reducible refine L2.iteF ?_
  | with_reducible refine MV.k_iList ?_ | with_reducible refine MV.k_iTup ?_ | with_reducible refine MV.k_iRng1 ?_ | with_reducible refine MV.k_lc ?_ | with_reducible refine MV.k_for ?_
  | with_reducible refine MV.k_yes ?_ | with_reducible refine MV.k_dput ?_ | with_reducible refine MV.k_dget ?_ | with_reducible refine MV.k_dget1 ?_ | with_reducible refine MV.k_sl ?_ | with_reducible refine MV.k_nopart ?_ | with_reducible refine MV.k_part ?_ | with_reducible refine MV.k_pint ?_ | with_reducible refine MV.k_dnew ?_ | with_reducible refine MV.k_lstRg ?_ | with_reducible refine MV.k_rg1 ?_
  | with_reducible refine CX.k_callS ?_ | with_reducible refine CX.k_iEnum ?_))
def t_are_boxes (K : PySem.W.Frag) (w : World) (s_is_box : Sp) : TS :=
  (tRet (tCB (rAll K) (tCons (tLc (iList K (tVar 1)) (gName 2) tYes (tCall s_is_box [] E0 (tCons (tVar 0) (tCons (tVar 2) tNil))) [2]) tNil)))
def t_is_rising (K : PySem.W.Frag) (w : World) : TS :=
  (tRet (tCB (rAll K) (tCons (tLc (RZ.iZipA K (tCons (tVar 0) (tCons (tSl (XZ.rSlX K) (tVar 0) (tPart (tC (.int 1))) tNoPart) tNil))) (gTup K 2 (gCons (gName 1) (gCons (gName 2) gNil))) tYes (tOp vLt (tVar 1) (tVar 2)) [1, 2]) tNil)))
section
variable {K : PySem.W.Frag} {w : World} {H : Hp}
/-! ### a comprehension over a zip of two rows -/
theorem lcZ {σ : L2.St} {g : TG} {tt : TT} {te : TE} {vs : List Nat} {M : List Addr} {G : Hp} {Qd : Addr → Hp → Prop} {J : It} {n : Nat} {Y : Nat → V → V → Prop} (hstop : ∀ H1, Same G H1 → J.stop n H1) (hgo : ∀ i H1, i < n → Same G H1 → J.go i H1)
    (hyl : ∀ i H1 x H2, i < n → Same G H1 → J.yld i H1 x H2 → ∃ T y z, x = .ref T ∧ H1 T = none ∧ H2 = upd H1 T (.tup [y, z]) ∧ Y i y z)
    (s : Same G H) (hM : ∀ m, m ∈ M → H m ≠ none) (hz : n ≤ 10000) (Iv : Nat → List V → Hp → Hp → Prop) (hJ : ∀ i acc G1 H1 H2, (∀ m, m ∈ M → H2 m = H1 m) → Iv i acc G1 H1 → Iv i acc G1 H2) (h0 : Iv 0 [] G H)
    (hs : ∀ i y z T acc G1 H1 (Ry : V → Hp → Prop) (Rn : Hp → Prop), i < n → Y i y z → H1 T = none → Ext M G H G1 H1 → Iv i acc G1 H1 →
      (∀ y G4 H4, Ext M G1 H1 G4 H4 → Iv (i + 1) (acc ++ [y]) G4 H4 → Ry y H4) → (∀ G4 H4, Ext M G1 H1 G4 H4 → Iv (i + 1) acc G4 H4 → Rn H4) →
      g (.ref T) (wipe σ vs) (upd H1 T (.tup [y, z])) fun σ2 H2 => wipe σ2 vs = wipe σ vs ∧ tt σ2 H2 fun b H3 => if b = true then te σ2 H3 Ry else Rn H3)
    (hd : ∀ D acc G1 H1, Ext M G H G1 H1 → H D = none → G1 D = none → H1 D = some (.lst acc) → acc.length ≤ n → Iv n acc G1 H1 → Qd D H1) :
    ∀ D, H D = none → ∃ W : Nat → Nat → Hp → Prop, (∃ m, W 0 m (upd H D (.lst []))) ∧ ∀ i m H, W i m H →
      (J.stop i H ∧ Qd D H) ∨ (J.go i H ∧ ∃ Nx : Hp → Prop, (∀ H', Nx H' → ∃ m', m' < m ∧ W (i + 1) m' H') ∧ ∀ x H', J.yld i H x H' → g x (wipe σ vs) H' fun σ2 H2 => wipe σ2 vs = wipe σ vs ∧ tt σ2 H2 fun b H3 =>
        if b = true then te σ2 H3 fun y H4 => ∃ acc, H4 D = some (.lst acc) ∧ acc.length < sizeLine ∧ Nx (upd H4 D (.lst (acc ++ [y]))) else Nx H3) := by
  intro D hD
  have nM : D ∉ M := fun m => hM D m hD
  have off : ∀ (H1 : Hp) (o : HO) (m : Addr), m ∈ M → upd H1 D o m = H1 m := fun H1 o m hm => upd_ne fun z => nM (z ▸ hm)
  refine ⟨fun i m H1 => m = n - i ∧ i ≤ n ∧ ∃ acc G1, Ext M G H G1 H1 ∧ G1 D = none ∧ H1 D = some (.lst acc) ∧ acc.length ≤ i ∧ Iv i acc G1 H1,
    ⟨n, rfl, Nat.zero_le _, [], G, (Ext.refl s).tmp hD, s.free hD, upd_same, Nat.le_refl _, hJ _ _ _ _ _ (off H _) h0⟩, ?_⟩
  rintro i m H1 ⟨rfl, hi, acc, G1, e, g1, h1, hl, iv⟩
  have sG : Same G H1 := e.g.trans e.s
  by_cases hlt : i < n
  · refine .inr ⟨hgo i H1 hlt sG, fun H2 => i + 1 ≤ n ∧ ∃ acc G1, Ext M G H G1 H2 ∧ G1 D = none ∧ H2 D = some (.lst acc) ∧ acc.length ≤ i + 1 ∧ Iv (i + 1) acc G1 H2, fun H2 q => ⟨n - (i + 1), by omega, rfl, q.1, q.2⟩, fun x H2 y => ?_⟩
    obtain ⟨T, y1, z1, rfl, nT, rfl, yx⟩ := hyl i H1 x H2 hlt sG y
    refine hs i y1 z1 T acc G1 H1 _ _ hlt yx nT e iv (fun y G4 H4 e4 iv4 => ?_) (fun G4 H4 e4 iv4 => ?_)
    · have a4 := e4.keep h1 nM
      have g4 := e4.un g1 h1
      refine ⟨acc, a4, by rw [sizeLine_eq]; omega, hlt, acc ++ [y], G4, (e.trans e4).mut hD g4, g4, upd_same, by simp; omega, hJ _ _ _ _ _ (off H4 _) iv4⟩
    · exact ⟨hlt, acc, G4, e.trans e4, e4.un g1 h1, e4.keep h1 nM, by omega, iv4⟩
  · have en : i = n := by omega
    subst en
    exact .inl ⟨hstop H1 sG, hd D acc G1 H1 e hD g1 h1 hl iv⟩
/-! ### boxes that there are, rows that rise -/
def boxesB (n : Int) (xs : List Int) : Bool := xs.all fun x => decide (0 ≤ x ∧ x < n)
def spAreBoxes (K : PySem.W.Frag) : Sp := fun vs H Q _ => ∃ (G : Hp) (n : Int) (l : Addr) (xs : List Int), vs = [.int n, .ref l] ∧ Same G H ∧ SqL K G l (xs.map V.int) ∧ xs.length ≤ 1000 ∧ ∀ H1, Ext [] G H G H1 → Q (.bl (boxesB n xs)) H1
theorem pure_are_boxes (vs : List V) (Q : VK) (E : XK) (h : spAreBoxes K vs H Q E) : t_are_boxes K w spIsBox { nx := fun _ H1 => Q .non H1, rt := Q } (start ["boxes", "row", "box"] vs) H := by
  obtain ⟨G, n, l, xs, rfl, s, hx, lx, q⟩ := h
  unfold t_are_boxes
  walk_at "go"
  refine ⟨_, rfl, ⟨_, s.seq hx⟩, ?_⟩
  refine lcL (M := []) s (fun _ h => nomatch h) hx (by rw [List.length_map]; omega) (fun i acc G1 H1 => acc = ((xs.take i).map fun x => decide (0 ≤ x ∧ x < n)).map V.bl) (fun _ _ _ _ _ _ h => h) rfl
    (fun i x acc G1 H1 Ry Rn hi ex e iv hy hn => ?_) (fun p acc G1 H1 e np gp hp hl iv => ?_)
  · rw [List.length_map] at hi
    rw [List.getElem?_map, List.getElem?_eq_getElem hi] at ex
    have ex2 : V.int xs[i] = x := Option.some.inj ex
    subst ex2
    walk_at "go"
    refine ⟨rfl, ?_⟩
    walk_at "go"
    refine ⟨n, xs[i], rfl, hy _ _ _ (Ext.refl e.s) ?_⟩
    rw [iv, List.take_add_one, List.getElem?_eq_getElem hi, List.map_append, List.map_append]
    rfl
  · rw [List.length_map, List.take_length] at iv
    walk_at "go"
    refine ⟨p, xs.map fun x => decide (0 ≤ x ∧ x < n), rfl, SqL.of (by rw [← iv]; exact hp), ?_⟩
    have e2 : (xs.map fun x => decide (0 ≤ x ∧ x < n)).all id = boxesB n xs := by
      unfold boxesB; rw [List.all_map]; rfl
    rw [e2]
    exact q _ (e.back s)
def riseB (xs : List Int) : Bool := (xs.zip (xs.drop 1)).all fun p => decide (p.1 < p.2)
theorem cut_one (xs : List V) : cutV xs (some 1) none = xs.drop 1 := by
  cases xs with
  | nil => rfl
  | cons x r => exact cut_off (k := 1) (by rw [List.length_cons]; omega)
def spIsRising (K : PySem.W.Frag) : Sp := fun vs H Q _ => ∃ (G : Hp) (l : Addr) (xs : List Int), vs = [.ref l] ∧ Same G H ∧ (SqL K G l (xs.map V.int) ∨ SqT K G l (xs.map V.int)) ∧ xs.length ≤ 1000 ∧ ∀ H1, Ext [] G H G H1 → Q (.bl (riseB xs)) H1
theorem rise_turn {xs : List Int} {J : It} {G : Hp} {Qd : VK} (s : Same G H) (lx : xs.length ≤ 1000) (hstop : ∀ H1, Same G H1 → J.stop (xs.length - 1) H1) (hgo : ∀ i H1, i < xs.length - 1 → Same G H1 → J.go i H1)
    (hyl : ∀ i H1 x H2, i < xs.length - 1 → Same G H1 → J.yld i H1 x H2 → ∃ T y z, x = .ref T ∧ H1 T = none ∧ H2 = upd H1 T (.tup [y, z]) ∧ (xs.map V.int)[i]? = some y ∧ ((xs.map V.int).drop 1)[i]? = some z) (st : L2.St) (hst : ∃ v, st = [some v, none, none])
    (q : ∀ p H1, Ext [] G H G H1 → H1 p = some (.lst (((xs.zip (xs.drop 1)).map fun p => decide (p.1 < p.2)).map V.bl)) → Qd (.ref p) H1) :
    ∀ D, H D = none → ∃ W : Nat → Nat → Hp → Prop, (∃ m, W 0 m (upd H D (.lst []))) ∧ ∀ i m H, W i m H →
      (J.stop i H ∧ Qd (.ref D) H) ∨ (J.go i H ∧ ∃ Nx : Hp → Prop, (∀ H', Nx H' → ∃ m', m' < m ∧ W (i + 1) m' H') ∧ ∀ x H', J.yld i H x H' → gTup K 2 (gCons (gName 1) (gCons (gName 2) gNil)) x (wipe st [1, 2]) H' fun σ2 H2 => wipe σ2 [1, 2] = wipe st [1, 2] ∧ tYes σ2 H2 fun b H3 =>
        if b = true then tOp vLt (tVar 1) (tVar 2) σ2 H3 fun y H4 => ∃ acc, H4 D = some (.lst acc) ∧ acc.length < sizeLine ∧ Nx (upd H4 D (.lst (acc ++ [y]))) else Nx H3) := by
  obtain ⟨v0, rfl⟩ := hst
  have lz : (xs.zip (xs.drop 1)).length = xs.length - 1 := by rw [List.length_zip, List.length_drop]; omega
  refine lcZ (Qd := fun D => Qd (.ref D)) (M := []) hstop hgo hyl s (fun _ h => nomatch h) (by omega) (fun i acc G1 H1 => acc = (((xs.zip (xs.drop 1)).take i).map fun p => decide (p.1 < p.2)).map V.bl) (fun _ _ _ _ _ _ h => h) rfl
    (fun i y z T acc G1 H1 Ry Rn hi ey nT e iv hy hn => ?_) (fun p acc G1 H1 e np gp hp hl iv => ?_)
  · have hi0 : i < xs.length := by omega
    have hi1 : i + 1 < xs.length := by omega
    have ey1 := ey.1
    have ey2 := ey.2
    rw [List.getElem?_map, List.getElem?_eq_getElem hi0] at ey1
    rw [List.getElem?_drop, List.getElem?_map, Nat.add_comm 1 i, List.getElem?_eq_getElem hi1] at ey2
    cases ey1
    cases ey2
    refine k_tupN (SqT.of upd_same) rfl ?_
    walk_at "go"
    refine ⟨rfl, ?_⟩
    walk_at "go"
    refine hy _ _ _ ((Ext.refl e.s).tmp nT) ?_
    have ez : (xs.zip (xs.drop 1))[i]? = some (xs[i], xs[i + 1]) := by
      rw [List.getElem?_eq_getElem (by omega), List.getElem_zip, List.getElem_drop]
      simp only [Nat.add_comm 1 i]
    rw [iv, List.take_add_one, ez, List.map_append, List.map_append]
    rfl
  · rw [← lz, List.take_length] at iv
    rw [iv] at hp
    exact q p H1 (e.back s) hp
end
end CH
namespace CH
open PySem PySem.Spec PyProof.Rows L2 MV CX CP CD
local macro_rules | `(tactic| walk_at "go") => `(tactic| repeat (first
  | with_reducible refine MV.k_seq ?_ | with_reducible refine MV.k_asg ?_ | with_reducible refine MV.k_name ?_ | with_reducible refine MV.k_op ?_ | ((with_reducible apply MV.k_var); exact rfl) | with_reducible refine MV.k_c ?_
  | with_reducible refine MV.k_add ?_ | with_reducible refine MV.k_sub ?_ | with_reducible refine MV.k_lt ?_ | with_reducible refine MV.k_le ?_ | with_reducible refine MV.k_gt ?_ | with_reducible refine MV.k_ge ?_ | with_reducible refine MV.k_eqI ?_ | with_reducible refine MV.k_neI ?_
  | with_reducible refine MV.k_test ?_ | with_reducible refine MV.k_B ?_ | with_reducible refine MV.k_bl ?_ | with_reducible refine MV.k_blV ?_ | with_reducible refine MV.k_and ?_ | with_reducible refine MV.k_or ?_ | with_reducible refine MV.k_not ?_ | with_reducible refine MV.k_andV ?_ | with_reducible refine MV.k_orV ?_ | with_reducible refine MV.k_notV ?_
  | with_reducible refine MV.k_if ?_ | with_reducible refine MV.k_tru ?_ | with_reducible refine MV.k_chain ?_ | with_reducible refine MV.k_next ?_ | with_reducible refine MV.k_drop ?_ | with_reducible refine MV.k_ret ?_ | with_reducible refine MV.k_retN ?_ | with_reducible refine MV.k_ifS ?_ | with_reducible refine MV.k_brk ?_ | with_reducible refine MV.k_cont ?_
  | with_reducible refine MV.k_nil ?_ | with_reducible refine MV.k_cons ?_ | with_reducible refine MV.k_tup ?_ | with_reducible refine MV.k_lst ?_ | with_reducible refine MV.k_cb ?_ | with_reducible refine MV.k_call ?_ | with_reducible refine MV.k_gnil ?_ | with_reducible refine MV.k_gcons ?_ | with_reducible refine MV.k_gsub ?_
  | with_reducible refine MV.k_bm ?_ | with_reducible refine MV.k_bm0 ?_ | with_reducible refine MV.k_un ?_ | with_reducible refine MV.k_neg ?_ | with_reducible refine MV.k_isN ?_ | with_reducible refine MV.k_notN ?_ | with_reducible refine L2.iteT ?_ | with_reducible refine L2.iteF ?_
  | with_reducible refine MV.k_iList ?_ | with_reducible refine MV.k_iTup ?_ | with_reducible refine MV.k_iRng1 ?_ | with_reducible refine MV.k_lc ?_ | with_reducible refine MV.k_for ?_
  | with_reducible refine MV.k_yes ?_ | with_reducible refine MV.k_dput ?_ | with_reducible refine MV.k_dget ?_ | with_reducible refine MV.k_dget1 ?_ | with_reducible refine MV.k_sl ?_ | with_reducible refine MV.k_nopart ?_ | with_reducible refine MV.k_part ?_ | with_reducible refine MV.k_pint ?_ | with_reducible refine MV.k_dnew ?_ | with_reducible refine MV.k_lstRg ?_ | with_reducible refine MV.k_rg1 ?_
  | with_reducible refine CX.k_callS ?_ | with_reducible refine CX.k_iEnum ?_))
def t_check_house (K : PySem.W.Frag) (w : World) (s_is_count : Sp) (s_are_boxes : Sp) (s_is_rising : Sp) : TS :=
  (tSeq (tIfS (tNot (tB (tCall s_is_count [] E0 (tCons (tVar 0) tNil)))) tNever tNext)
    (tSeq (tIfS (tTest (tOp rNe (tCB (vLen K) (tCons (tVar 1) tNil)) (tC (.int 3)))) tNever tNext)
    (tSeq (tAsg (tVar 1) (gTup K 3 (gCons (gName 2) (gCons (gName 3) (gCons (gName 4) gNil)))))
    (tSeq (tIfS (tNot (tTest (tChain vLe vLe (tC (.int 1)) (tCB (vLen K) (tCons (tVar 2) tNil)) (tC (.int 4))))) tNever tNext)
    (tSeq (tIfS (tNot (tB (tCall s_are_boxes [] E0 (tCons (tVar 0) (tCons (tLst (StX.tStar K (tVar 2) (tCons (tVar 3) (StX.tStar K (tVar 4) tNil)))) tNil))))) tNever tNext)
    (tSeq (tIfS (tTest (tOp rNe (XR.tLenSet K (tVar 2)) (tCB (vLen K) (tCons (tVar 2) tNil)))) tNever tNext)
    (tSeq (tIfS (tNot (tB (tCall s_is_rising [] E0 (tCons (tVar 4) tNil)))) tNever tNext)
    (tIfS (tTest (tOp (rIn K false) (tVar 3) (tVar 4))) tNever tNext))))))))
def t_check_call (K : PySem.W.Frag) (w : World) (s_are_boxes : Sp) (s_is_rising : Sp) : TS :=
  (tSeq (tIfS (tTest (tOp vGt (tCB (vLen K) (tCons (tVar 1) tNil)) (tC (.int 8)))) tNever tNext)
    (tSeq (tIfS (tNot (tB (tCall s_are_boxes [] E0 (tCons (tVar 0) (tCons (tLst (StX.tStar K (tVar 1) (tCons (tVar 2) (StX.tStar K (tVar 3) tNil)))) tNil))))) tNever tNext)
    (tSeq (tIfS (tNot (tB (tCall s_is_rising [] E0 (tCons (tVar 3) tNil)))) tNever tNext)
    (tIfS (tTest (tOp (rIn K false) (tVar 2) (tVar 3))) tNever tNext))))
def t_saved_boxes (K : PySem.W.Frag) (w : World) (s_real_pairs : Sp) : TS :=
  (tSeq (tAsg (tLc (iList K (tCall s_real_pairs [] E0 (tCons (tVar 0) tNil))) (gTup K 2 (gCons (gName 4) (gCons (gName 5) gNil))) tYes (tVar 4) [4, 5]) (gName 3))
    (tRet (tLc (iList K (tVar 2)) (gName 6) (tOr (tTest (tOp (rIn K true) (tVar 6) (tVar 1))) (tTest (tOp (rIn K false) (tVar 6) (tVar 3)))) (tVar 6) [6])))
section
variable {K : PySem.W.Frag} {w : World} {H : Hp}
theorem k_star {te : TE} {t : TA} {σ : L2.St} {QA : List V → Hp → Prop} (q : te σ H fun x H1 => ∃ p xs, x = V.ref p ∧ (SqT K H1 p xs ∨ SqL K H1 p xs) ∧ t σ H1 fun ys H2 => QA (xs ++ ys) H2) : StX.tStar K te t σ H QA := q
theorem k_lenS {ta : TE} {σ : L2.St} {Q : VK} (q : ta σ H fun x H1 => ∃ (l : Addr) (ns : List Int), x = V.ref l ∧ (SqL K H1 l (ns.map V.int) ∨ SqT K H1 l (ns.map V.int)) ∧ ns.length < 64 ∧ ∀ c : Nat, c ≤ ns.length → (c = ns.length ↔ ns.Nodup) → Q (.int (c : Nat)) H1) : XR.tLenSet K ta σ H Q := q
theorem k_iZip {ta : TA} {σ : L2.St} {R : It → Hp → Prop} (q : ta σ H fun vs H1 => ∃ a b xs ys, vs = [.ref a, .ref b] ∧ ((SqL K H1 a xs ∧ SqL K H1 b ys ∧ R (Itz K a b) H1) ∨ (SqT K H1 a xs ∧ SqT K H1 b ys ∧ R (RZ.ItzT K a b) H1))) : RZ.iZipA K ta σ H R := q
theorem pure_is_rising (vs : List V) (Q : VK) (E : XK) (h : spIsRising K vs H Q E) : t_is_rising K w { nx := fun _ H1 => Q .non H1, rt := Q } (start ["row", "low", "high"] vs) H := by
  obtain ⟨G, l, xs, rfl, s, hx, lx, q⟩ := h
  unfold t_is_rising
  have last : ∀ {H0 H1 : Hp} {p : Addr}, Ext [] G H G H0 → Ext [] G H0 G H1 → H1 p = some (.lst (((xs.zip (xs.drop 1)).map fun p => decide (p.1 < p.2)).map V.bl)) → rAll K [.ref p] H1 Q := fun {H0 H1 p} e0 e1 hp => by
    refine ⟨p, _, rfl, SqL.of hp, ?_⟩
    have e2 : ((xs.zip (xs.drop 1)).map fun p => decide (p.1 < p.2)).all id = riseB xs := by
      unfold riseB; rw [List.all_map]; rfl
    rw [e2]
    exact q _ (e0.trans e1)
  have len : ∀ ys : List V, (ys.drop 1).length = ys.length - 1 := fun ys => List.length_drop
  have lm : (xs.map V.int).length = xs.length := List.length_map _
  walk_at "go"
  refine k_iZip ?_
  walk_at "go"
  rcases hx with hx | hx
  · refine Or.inl ⟨l, _, rfl, s.seq hx, fun p np => ?_⟩
    walk_at "go"
    rw [cut_one]
    have e0 := (Ext.refl (M := []) s).tmp (o := .lst ((xs.map V.int).drop 1)) np
    have s0 : Same G (upd H p (.lst ((xs.map V.int).drop 1))) := e0.s
    have hp : upd H p (.lst ((xs.map V.int).drop 1)) p = some (.lst ((xs.map V.int).drop 1)) := upd_same
    have gp : G p = none := s.free np
    generalize upd H p (.lst ((xs.map V.int).drop 1)) = H0 at *
    -- the slice may be known while the zip goes
    have sk : Same (upd G p (.lst ((xs.map V.int).drop 1))) H0 := same_lock s0 hp
    have g0 : Same G (upd G p (.lst ((xs.map V.int).drop 1))) := same_know gp
    have h2 : SqL K (upd G p (.lst ((xs.map V.int).drop 1))) p ((xs.map V.int).drop 1) := SqL.of upd_same
    have h1 : SqL K (upd G p (.lst ((xs.map V.int).drop 1))) l (xs.map V.int) := g0.seq hx
    refine ⟨l, p, _, _, rfl, .inl ⟨s0.seq hx, SqL.of hp, ?_⟩⟩
    refine rise_turn (K := K) (Qd := fun v H => rAll K [v] H Q) (xs := xs) (J := Itz K l p) sk lx (fun H1 s1 => ⟨_, _, s1.seq h1, s1.seq h2, .inr (by rw [len, lm]; omega)⟩)
      (fun i H1 hi s1 => ⟨_, _, _, _, s1.seq h1, s1.seq h2, List.getElem?_eq_getElem (by rw [lm]; omega), List.getElem?_eq_getElem (by rw [len, lm]; omega)⟩) (fun i H1 x H2 hi s1 y => ?_) [some (.ref l), none, none] ⟨_, rfl⟩ (fun p2 H1 e1 hp2 => ?_)
    · obtain ⟨T, y1, z1, rfl, nT, rfl, f1, f2⟩ := y
      exact ⟨T, y1, z1, rfl, nT, rfl, f1 _ (s1.seq h1), f2 _ (s1.seq h2)⟩
    · exact last e0 (Ext.hide e1 g0) hp2
  · refine Or.inr ⟨l, _, rfl, sqT_mono s hx, fun hw => ?_, fun hw p np => ?_⟩
    · have hc : xs.map V.int = [] := by
        cases xs with
        | nil => rfl
        | cons x r => exact absurd hw.1 (by rw [List.map_cons, List.length_cons, six1]; decide)
      have hx0 : xs = [] := by simpa using hc
      subst hx0
      walk_at "go"
      refine ⟨l, l, [], [], rfl, .inr ⟨sqT_mono s hx, sqT_mono s hx, ?_⟩⟩
      refine rise_turn (K := K) (Qd := fun v H => rAll K [v] H Q) (xs := []) (J := RZ.ItzT K l l) s lx (fun H1 s1 => ⟨[], [], sqT_mono s1 hx, sqT_mono s1 hx, .inl (Nat.le_refl _)⟩) (fun i H1 hi s1 => absurd hi (Nat.not_lt_zero _)) (fun i H1 x H2 hi s1 y => absurd hi (Nat.not_lt_zero _)) [some (.ref l), none, none] ⟨_, rfl⟩ (fun p2 H1 e1 hp2 => ?_)
      exact last (Ext.refl s) e1 hp2
    · walk_at "go"
      rw [cut_one]
      have e0 := (Ext.refl (M := []) s).tmp (o := .tup ((xs.map V.int).drop 1)) np
      have s0 : Same G (upd H p (.tup ((xs.map V.int).drop 1))) := e0.s
      have hp : upd H p (.tup ((xs.map V.int).drop 1)) p = some (.tup ((xs.map V.int).drop 1)) := upd_same
      have gp : G p = none := s.free np
      generalize upd H p (.tup ((xs.map V.int).drop 1)) = H0 at *
      have sk : Same (upd G p (.tup ((xs.map V.int).drop 1))) H0 := same_lock s0 hp
      have g0 : Same G (upd G p (.tup ((xs.map V.int).drop 1))) := same_know gp
      have h2 : SqT K (upd G p (.tup ((xs.map V.int).drop 1))) p ((xs.map V.int).drop 1) := SqT.of upd_same
      have h1 : SqT K (upd G p (.tup ((xs.map V.int).drop 1))) l (xs.map V.int) := sqT_mono g0 hx
      refine ⟨l, p, _, _, rfl, .inr ⟨sqT_mono s0 hx, SqT.of hp, ?_⟩⟩
      refine rise_turn (K := K) (Qd := fun v H => rAll K [v] H Q) (xs := xs) (J := RZ.ItzT K l p) sk lx (fun H1 s1 => ⟨_, _, sqT_mono s1 h1, sqT_mono s1 h2, .inr (by rw [len, lm]; omega)⟩)
        (fun i H1 hi s1 => ⟨_, _, _, _, sqT_mono s1 h1, sqT_mono s1 h2, List.getElem?_eq_getElem (by rw [lm]; omega), List.getElem?_eq_getElem (by rw [len, lm]; omega)⟩) (fun i H1 x H2 hi s1 y => ?_) [some (.ref l), none, none] ⟨_, rfl⟩ (fun p2 H1 e1 hp2 => ?_)
      · obtain ⟨T, y1, z1, rfl, nT, rfl, f1, f2⟩ := y
        exact ⟨T, y1, z1, rfl, nT, rfl, f1 _ (sqT_mono s1 h1), f2 _ (sqT_mono s1 h2)⟩
      · exact last e0 (Ext.hide e1 g0) hp2
/-! ### good houses, good calls -/
structure HouseOk (n : Int) (ins : List Int) (out : Int) (kept : List Int) : Prop where
  few : 1 ≤ ins.length ∧ ins.length ≤ 4
  rg : ∀ x, x ∈ ins ++ out :: kept → 0 ≤ x ∧ x < n
  nd : ins.Nodup
  up : riseB kept = true
  no : out ∉ kept
  kl : kept.length ≤ 100
structure CallOk (n : Int) (args : List Int) (goal : Int) (alive : List Int) : Prop where
  few : args.length ≤ 8
  rg : ∀ x, x ∈ args ++ goal :: alive → 0 ≤ x ∧ x < n
  up : riseB alive = true
  no : goal ∉ alive
  kl : alive.length ≤ 100
theorem boxesB_of {n : Int} {xs : List Int} (h : ∀ x, x ∈ xs → 0 ≤ x ∧ x < n) : boxesB n xs = true := List.all_eq_true.mpr fun x hx => decide_eq_true (h x hx)
structure HouseAt (K : PySem.W.Frag) (G : Hp) (h : Addr) (ins : List Int) (out : Int) (kept : List Int) (ti tk : Addr) : Prop where
  h : SqT K G h [.ref ti, .int out, .ref tk]
  i : SqT K G ti (ins.map V.int)
  k : SqT K G tk (kept.map V.int)
theorem HouseAt.mono {G G1 : Hp} {h ti tk : Addr} {ins kept : List Int} {out : Int} (x : HouseAt K G h ins out kept ti tk) (s : Same G G1) : HouseAt K G1 h ins out kept ti tk := ⟨sqT_mono s x.h, sqT_mono s x.i, sqT_mono s x.k⟩
def spCheckHouse (K : PySem.W.Frag) : Sp := fun vs H Q _ => ∃ (G : Hp) (n : Int) (h ti tk : Addr) (ins kept : List Int) (out : Int), vs = [.int n, .ref h] ∧ Same G H ∧ 1 ≤ n ∧ n ≤ 10 ∧ HouseAt K G h ins out kept ti tk ∧ HouseOk n ins out kept ∧ ∀ H1, Ext [] G H G H1 → Q .non H1
theorem pure_check_house (vs : List V) (Q : VK) (E : XK) (h : spCheckHouse K vs H Q E) : t_check_house K w spIsCount (spAreBoxes K) (spIsRising K) { nx := fun _ H1 => Q .non H1, rt := Q } (start ["boxes", "house", "ins", "out", "kept"] vs) H := by
  obtain ⟨G, n, h, ti, tk, ins, kept, out, rfl, s, n1, n10, ha, ok, q⟩ := h
  have hm := ha.mono s
  have li : (ins.map V.int).length = ins.length := List.length_map _
  unfold t_check_house
  walk_at "go"
  refine ⟨n, rfl, ?_⟩
  walk_at "go"
  refine k_nfalse ⟨n1, n10⟩ ?_
  walk_at "go"
  refine k_len (.inr hm.h) ?_
  walk_at "go"
  refine k_nfalse rfl ?_
  walk_at "go"
  refine k_tupN hm.h rfl ?_
  walk_at "go"
  refine k_len (.inr hm.i) ?_
  rw [li]
  walk_at "go"
  refine k_true (by have := ok.few; omega) ?_
  walk_at "go"
  rw [decide_eq_true (show ((ins.length : Nat) : Int) ≤ 4 by have := ok.few; omega)]
  refine L2.iteF ?_
  walk_at "go"
  refine k_star ?_
  walk_at "go"
  refine ⟨ti, _, rfl, .inl hm.i, ?_⟩
  walk_at "go"
  refine k_star ?_
  walk_at "go"
  refine ⟨tk, _, rfl, .inl hm.k, ?_⟩
  walk_at "go"
  refine ⟨sz1 (by have := ok.few; have := ok.kl; simp; omega), fun p np => ?_⟩
  have er : ins.map V.int ++ V.int out :: (kept.map V.int ++ []) = (ins ++ out :: kept).map V.int := by simp
  rw [er]
  have e0 := (Ext.refl (M := []) s).new (o := .lst ((ins ++ out :: kept).map V.int)) np
  walk_at "go"
  refine ⟨_, n, p, ins ++ out :: kept, rfl, e0.s, SqL.of upd_same, by have := ok.few; have := ok.kl; simp; omega, fun H1 e1 => ?_⟩
  have E1 := e0.trans e1
  have hm1 := ha.mono (E1.g.trans E1.s)
  rw [boxesB_of ok.rg]
  walk_at "go"
  refine L2.iteF ?_
  walk_at "go"
  refine k_lenS ?_
  walk_at "go"
  refine ⟨ti, ins, rfl, .inr hm1.i, by have := ok.few; omega, fun c cl ci => ?_⟩
  walk_at "go"
  refine k_len (.inr hm1.i) ?_
  rw [li, (ci.mpr ok.nd)]
  walk_at "go"
  refine k_nfalse rfl ?_
  walk_at "go"
  refine ⟨_, tk, kept, rfl, E1.s, .inr (sqT_mono E1.g ha.k), by have := ok.kl; omega, fun H2 e2 => ?_⟩
  have E2 := E1.trans e2
  rw [ok.up]
  walk_at "go"
  refine L2.iteF ?_
  walk_at "go"
  refine k_inI (.inr (sqT_mono (E2.g.trans E2.s) ha.k)) ?_
  walk_at "go"
  refine k_false ok.no ?_
  walk_at "go"
  exact q _ (E2.back s)
def spCheckCall (K : PySem.W.Frag) : Sp := fun vs H Q _ => ∃ (G : Hp) (n : Int) (la ll : Addr) (args alive : List Int) (goal : Int), vs = [.int n, .ref la, .int goal, .ref ll] ∧ Same G H ∧ SqL K G la (args.map V.int) ∧ SqL K G ll (alive.map V.int) ∧ CallOk n args goal alive ∧ ∀ H1, Ext [] G H G H1 → Q .non H1
theorem pure_check_call (vs : List V) (Q : VK) (E : XK) (h : spCheckCall K vs H Q E) : t_check_call K w (spAreBoxes K) (spIsRising K) { nx := fun _ H1 => Q .non H1, rt := Q } (start ["boxes", "args", "goal", "alive"] vs) H := by
  obtain ⟨G, n, la, ll, args, alive, goal, rfl, s, ha, hl, ok, q⟩ := h
  unfold t_check_call
  walk_at "go"
  refine k_len (.inl (s.seq ha)) ?_
  rw [List.length_map]
  walk_at "go"
  refine k_false (by have := ok.few; omega) ?_
  walk_at "go"
  refine k_star ?_
  walk_at "go"
  refine ⟨la, _, rfl, .inr (s.seq ha), ?_⟩
  walk_at "go"
  refine k_star ?_
  walk_at "go"
  refine ⟨ll, _, rfl, .inr (s.seq hl), ?_⟩
  walk_at "go"
  refine ⟨sz1 (by have := ok.few; have := ok.kl; simp; omega), fun p np => ?_⟩
  have er : args.map V.int ++ V.int goal :: (alive.map V.int ++ []) = (args ++ goal :: alive).map V.int := by simp
  rw [er]
  have e0 := (Ext.refl (M := []) s).new (o := .lst ((args ++ goal :: alive).map V.int)) np
  walk_at "go"
  refine ⟨_, n, p, args ++ goal :: alive, rfl, e0.s, SqL.of upd_same, by have := ok.few; have := ok.kl; simp; omega, fun H1 e1 => ?_⟩
  have E1 := e0.trans e1
  rw [boxesB_of ok.rg]
  walk_at "go"
  refine L2.iteF ?_
  walk_at "go"
  refine ⟨_, ll, alive, rfl, E1.s, .inl (E1.g.seq hl), by have := ok.kl; omega, fun H2 e2 => ?_⟩
  have E2 := E1.trans e2
  rw [ok.up]
  walk_at "go"
  refine L2.iteF ?_
  walk_at "go"
  refine k_inI (.inl ((E2.g.trans E2.s).seq hl)) ?_
  walk_at "go"
  refine k_false ok.no ?_
  walk_at "go"
  exact q _ (E2.back s)
/-! ### which boxes are saved -/
def savedI (ld : Lead) (kept alive : List Int) : List Int := alive.filter fun b => decide (b ∉ kept) || decide (b ∈ (real ld).map (·.1))
def spSaved (K : PySem.W.Frag) : Sp := fun vs H Q _ => ∃ (G : Hp) (l tk ll : Addr) (ld : Lead) (kept alive : List Int), vs = [.ref l, .ref tk, .ref ll] ∧ Same G H ∧ LeadAt K G l ld ∧ ld.length ≤ 1000 ∧ SqT K G tk (kept.map V.int) ∧ SqL K G ll (alive.map V.int) ∧ alive.length ≤ 1000 ∧
  ∀ (p : Addr) (G1 H1 : Hp), Ext [] G H G1 H1 → H p = none → G1 p = some (.lst ((savedI ld kept alive).map V.int)) → Q (.ref p) H1
end
end CH
namespace CH
open PySem PySem.Spec PyProof.Rows L2 MV CX CP CD
local macro_rules | `(tactic| walk_at "go") => `(tactic| repeat (first
  | with_reducible refine MV.k_seq ?_ | with_reducible refine MV.k_asg ?_ | with_reducible refine MV.k_name ?_ | with_reducible refine MV.k_op ?_ | ((with_reducible apply MV.k_var); exact rfl) | with_reducible refine MV.k_c ?_
  | with_reducible refine MV.k_add ?_ | with_reducible refine MV.k_sub ?_ | with_reducible refine MV.k_lt ?_ | with_reducible refine MV.k_le ?_ | with_reducible refine MV.k_gt ?_ | with_reducible refine MV.k_ge ?_ | with_reducible refine MV.k_eqI ?_ | with_reducible refine MV.k_neI ?_
  | with_reducible refine MV.k_test ?_ | with_reducible refine MV.k_B ?_ | with_reducible refine MV.k_bl ?_ | with_reducible refine MV.k_blV ?_ | with_reducible refine MV.k_and ?_ | with_reducible refine MV.k_or ?_ | with_reducible refine MV.k_not ?_ | with_reducible refine MV.k_andV ?_ | with_reducible refine MV.k_orV ?_ | with_reducible refine MV.k_notV ?_
  | with_reducible refine MV.k_if ?_ | with_reducible refine MV.k_tru ?_ | with_reducible refine MV.k_chain ?_ | with_reducible refine MV.k_next ?_ | with_reducible refine MV.k_drop ?_ | with_reducible refine MV.k_ret ?_ | with_reducible refine MV.k_retN ?_ | with_reducible refine MV.k_ifS ?_ | with_reducible refine MV.k_brk ?_ | with_reducible refine MV.k_cont ?_
  | with_reducible refine MV.k_nil ?_ | with_reducible refine MV.k_cons ?_ | with_reducible refine MV.k_tup ?_ | with_reducible refine MV.k_lst ?_ | with_reducible refine MV.k_cb ?_ | with_reducible refine MV.k_call ?_ | with_reducible refine MV.k_gnil ?_ | with_reducible refine MV.k_gcons ?_ | with_reducible refine MV.k_gsub ?_
  | with_reducible refine MV.k_bm ?_ | with_reducible refine MV.k_bm0 ?_ | with_reducible refine MV.k_un ?_ | with_reducible refine MV.k_neg ?_ | with_reducible refine MV.k_isN ?_ | with_reducible refine MV.k_notN ?_ | with_reducible refine L2.iteT ?_ | with_reducible refine L2.iteF ?_
  | with_reducible refine MV.k_iList ?_ | with_reducible refine MV.k_iTup ?_ | with_reducible refine MV.k_iRng1 ?_ | with_reducible refine MV.k_lc ?_ | with_reducible refine MV.k_for ?_
  | with_reducible refine MV.k_yes ?_ | with_reducible refine MV.k_dput ?_ | with_reducible refine MV.k_dget ?_ | with_reducible refine MV.k_dget1 ?_ | with_reducible refine MV.k_sl ?_ | with_reducible refine MV.k_nopart ?_ | with_reducible refine MV.k_part ?_ | with_reducible refine MV.k_pint ?_ | with_reducible refine MV.k_dnew ?_ | with_reducible refine MV.k_lstRg ?_ | with_reducible refine MV.k_rg1 ?_
  | with_reducible refine CX.k_callS ?_ | with_reducible refine CX.k_iEnum ?_))
def t_handing (K : PySem.W.Frag) (w : World) (s_check_house : Sp) (s_check_call : Sp) (s_saved_boxes : Sp) (s_by_swaps : Sp) : TS :=
  (tSeq (tDrop (tCall s_check_house [] E0 (tCons (tVar 0) (tCons (tVar 1) tNil))))
    (tSeq (tDrop (tCall s_check_call [] E0 (tCons (tVar 0) (tCons (tVar 2) (tCons (tVar 3) (tCons (tVar 4) tNil))))))
    (tSeq (tAsg (tVar 1) (gTup K 3 (gCons (gName 5) (gCons (gName 6) (gCons (gName 7) gNil)))))
    (tSeq (tAsg (XZ.tListZip K (tCons (tVar 5) (tCons (tVar 2) tNil))) (gName 8))
    (tSeq (tAsg (tCall s_saved_boxes [] E0 (tCons (tVar 8) (tCons (tVar 7) (tCons (tVar 4) tNil)))) (gName 9))
    (tSeq (tAsg (tSl (rSlL K) (tVar 2) (tPart (tCB (vLen K) (tCons (tVar 5) tNil))) tNoPart) (gName 10))
    (tSeq (tAsg (tLc (iList K (tVar 9)) (gName 12) tYes (tTup (tCons (tC (.str "push")) (tCons (tVar 12) tNil))) [12]) (gName 11))
    (tSeq (tDrop (tBM K "list" rExtend (tVar 11) (tCons (tLc (iList K (tRevL K (tVar 10))) (gName 12) tYes (tTup (tCons (tC (.str "push")) (tCons (tVar 12) tNil))) [12]) tNil)))
    (tSeq (tDrop (tBM K "list" rExtend (tVar 11) (tCons (tCall s_by_swaps [] E0 (tCons (tVar 0) (tCons (tVar 8) tNil))) tNil)))
    (tSeq (tDrop (tBM K "list" rAppend (tVar 11) (tCons (tTup (tCons (tC (.str "call")) tNil)) tNil)))
    (tSeq (tIfS (tTest (tOp rNe (tVar 3) (tVar 6))) (tDrop (tBM K "list" rAppend (tVar 11) (tCons (tTup (tCons (tC (.str "copy")) (tCons (tVar 3) (tCons (tVar 6) tNil)))) tNil))) tNext)
    (tSeq (tDrop (tBM K "list" rExtend (tVar 11) (tCons (tLc (iList K (tRevL K (tVar 9))) (gName 12) tYes (tTup (tCons (tC (.str "pop")) (tCons (tVar 12) tNil))) [12]) tNil)))
    (tRet (tVar 11))))))))))))))
section
variable {K : PySem.W.Frag} {w : World} {H : Hp}
theorem pure_saved (vs : List V) (Q : VK) (E : XK) (h : spSaved K vs H Q E) : t_saved_boxes K w (spRealPairs K) { nx := fun _ H1 => Q .non H1, rt := Q } (start ["lead", "kept", "alive", "written_over", "goal", "source", "box"] vs) H := by
  obtain ⟨G, l, tk, ll, ld, kept, alive, rfl, s, la, lld, hk, hl, lal, q⟩ := h
  have rl := real_len ld
  unfold t_saved_boxes
  walk_at "go"
  refine ⟨G, l, ld, rfl, s, la, lld, fun p ts G1 H1 e1 np gp pt => ?_⟩
  have lp := MV.paired_len pt
  walk_at "go"
  refine ⟨_, rfl, ⟨_, e1.s.seq (SqL.of gp)⟩, ?_⟩
  refine lcL (M := []) e1.s (fun _ h => nomatch h) (SqL.of gp) (by rw [List.length_map]; omega) (fun i acc G2 H2 => acc = (((real ld).take i).map (·.1)).map V.int) (fun _ _ _ _ _ _ h => h) rfl
    (fun i x acc G2 H2 Ry Rn hi ex e iv hy hn => ?_) (fun wo acc G2 H2 e nw gw hw hlen iv => ?_)
  · obtain ⟨t, pr, ep, rfl, _, ht⟩ := PsAt.at pt ex
    walk_at "go"
    refine k_tupN (sqT_mono e.s (sqT_mono e.g ht)) rfl ?_
    walk_at "go"
    refine ⟨rfl, ?_⟩
    walk_at "go"
    refine hy _ _ _ (Ext.refl e.s) ?_
    rw [iv, List.take_add_one, ep, List.map_append, List.map_append]
    rfl
  · rw [List.length_map, lp, List.take_length] at iv
    subst iv
    have E2 := e1.trans e
    have e3 : Ext [] G H (upd G2 wo (.lst (((real ld).map (·.1)).map V.int))) H2 := E2.frz (e1.d _ nw) gw hw
    have hwo : upd G2 wo (.lst (((real ld).map (·.1)).map V.int)) wo = some (.lst (((real ld).map (·.1)).map V.int)) := upd_same
    generalize upd G2 wo (.lst (((real ld).map (·.1)).map V.int)) = G3 at *
    walk_at "go"
    refine ⟨_, rfl, ⟨_, (e3.g.trans e3.s).seq hl⟩, ?_⟩
    refine lcL (M := []) e3.s (fun _ h => nomatch h) (e3.g.seq hl) (by rw [List.length_map]; omega) (fun i acc G4 H4 => acc = (savedI ld kept (alive.take i)).map V.int) (fun _ _ _ _ _ _ h => h) rfl
      (fun i x acc G4 H4 Ry Rn hi ex e4 iv hy hn => ?_) (fun p5 acc G4 H4 e4 n5 g5 h5 hlen iv => ?_)
    · rw [List.length_map] at hi
      rw [List.getElem?_map, List.getElem?_eq_getElem hi] at ex
      have ex2 : V.int alive[i] = x := Option.some.inj ex
      subst ex2
      have sn : savedI ld kept (alive.take (i + 1)) = savedI ld kept (alive.take i) ++ (if (decide (alive[i] ∉ kept) || decide (alive[i] ∈ (real ld).map (·.1))) = true then [alive[i]] else []) := by
        unfold savedI
        rw [List.take_add_one, List.getElem?_eq_getElem hi, List.filter_append]
        congr 1
        show List.filter _ [alive[i]] = _
        rw [List.filter_cons]
        rfl
      walk_at "go"
      refine ⟨rfl, ?_⟩
      walk_at "go"
      refine k_ninI (.inr (sqT_mono e4.s (sqT_mono (e3.g.trans e4.g) hk))) ?_
      have yes : (decide (alive[i] ∉ kept) || decide (alive[i] ∈ (real ld).map (·.1))) = true → Ry (.int alive[i]) H4 := fun h => hy _ _ _ (Ext.refl e4.s) (by rw [sn, if_pos h, List.map_append, iv]; rfl)
      walk_at "go"
      refine k_nboth (fun h => ?_) (fun h => ?_)
      · walk_at "go"
        exact yes (by rw [decide_eq_true h]; rfl)
      · walk_at "go"
        refine k_inI (.inl ((e4.g.trans e4.s).seq (SqL.of hwo))) ?_
        walk_at "go"
        refine k_both (fun h2 => ?_) (fun h2 => ?_)
        · walk_at "go"
          exact yes (by rw [decide_eq_true h2, Bool.or_true])
        · refine hn _ _ (Ext.refl e4.s) ?_
          rw [sn, if_neg (by rw [decide_eq_false (show ¬ (alive[i] ∉ kept) from fun z => z h), decide_eq_false h2]; decide), List.append_nil]
          exact iv
    · rw [List.length_map, List.take_length] at iv
      subst iv
      exact q p5 _ H4 ((e3.trans e4).frz (e3.d _ n5) g5 h5) (e3.d _ n5) upd_same
/-! ### the pairs of a zip -/
theorem lay_go {G : Hp} {S : Addr} {Q : VK} : ∀ (ps : Lead) (acc : List Addr) (done : Lead) (G1 H1 : Hp), Ext [] G H G1 H1 → H S = none → G1 S = none → H1 S = some (.lst (acc.map V.ref)) → PsAt K G1 acc done →
    (∀ ts G2 H2, Ext [] G H G2 H2 → G2 S = none → H2 S = some (.lst (ts.map V.ref)) → PsAt K G2 ts (done ++ ps) → Q (.ref S) H2) → XZ.Lay (ps.map fun p => (V.int p.1, V.int p.2)) S (acc.map V.ref) H1 Q
  | [], acc, done, G1, H1, e, n0, g1, h1, pt, q => q acc G1 H1 e g1 h1 (by rw [List.append_nil]; exact pt)
  | p :: ps, acc, done, G1, H1, e, n0, g1, h1, pt, q => fun T nT => by
    have e1 := e.new (o := .tup [.int p.1, .int p.2]) nT
    have ne : S ≠ T := fun z => by rw [z, nT] at h1; cases h1
    have gS : upd G1 T (.tup [.int p.1, .int p.2]) S = none := by rw [upd_ne ne]; exact g1
    have e2 := e1.mut (o := .lst (acc.map V.ref ++ [V.ref T])) n0 gS
    have r := lay_go ps (acc ++ [T]) (done ++ [p]) _ _ e2 n0 gS (by rw [upd_same, List.map_append]; rfl) (MV.paired_app (PsAt.mono pt (same_new (e.s.free nT))) (SqT.of upd_same)) (fun ts G2 H2 e3 g3 h3 pt3 => q ts G2 H2 e3 g3 h3 (by rw [List.append_assoc] at pt3; exact pt3))
    rw [List.map_append] at r
    exact r
theorem dp_ps {G : Hp} : ∀ {ts : List Addr} {m : Lead}, PsAt K G ts m → DpAll K G (ts.map V.ref) (m.map pdPair)
  | _, _, .nil => .nil
  | _, _, .cons h t => .cons (.tup h (.cons (.int _) (.cons (.int _) .nil))) (dp_ps t)
theorem lay_lead {G : Hp} {S : Addr} {Q : VK} {as bs : List Int} (s : Same G H) (nS : H S = none) (q : ∀ G1 H1, Ext [] G H G1 H1 → LeadAt K G1 S (as.zip bs) → Q (.ref S) H1) :
    XZ.Lay ((as.map V.int).zip (bs.map V.int)) S [] (upd H S (.lst [])) Q := by
  have e : (as.map V.int).zip (bs.map V.int) = (as.zip bs).map fun p => (V.int p.1, V.int p.2) := by rw [List.zip_map]; rfl
  rw [e]
  refine lay_go (G := G) (K := K) (as.zip bs) [] [] G (upd H S (.lst [])) ((Ext.refl s).tmp nS) nS (s.free nS) upd_same .nil fun ts G2 H2 e2 g2 h2 pt => ?_
  refine q _ H2 (e2.frz nS g2 h2) ⟨⟨ts.map V.ref, SqL.of upd_same, ?_⟩⟩
  exact dpAll_mono (same_know g2) _ _ (dp_ps pt)
/-! ### a word for each box of a row -/
def wrM (u : Str) (b : Int) : List V := [.str u, .int b]
theorem wrs_turn {G : Hp} {a : Addr} {u : Str} {n : Nat} {σ : L2.St} {xs : List Int} {Qd : Addr → Hp → Prop} (hn : n < σ.length) (s : Same G H) (hx : SqL K G a (xs.map V.int)) (lx : xs.length ≤ 1000)
    (q : ∀ (p : Addr) (ts : List Addr) (G2 H2 : Hp), Ext [] G H G2 H2 → H p = none → G2 p = none → H2 p = some (.lst (ts.map V.ref)) → TsAt K G2 ts (xs.map (wrM u)) → Qd p H2) :
    ∀ D, H D = none → ∃ W : Nat → Nat → Hp → Prop, (∃ m, W 0 m (upd H D (.lst []))) ∧ ∀ i m H, W i m H →
      ((Itl K a).stop i H ∧ Qd D H) ∨ ((Itl K a).go i H ∧ ∃ Nx : Hp → Prop, (∀ H', Nx H' → ∃ m', m' < m ∧ W (i + 1) m' H') ∧ ∀ x H', (Itl K a).yld i H x H' → gName n x (wipe σ [n]) H' fun σ2 H2 => wipe σ2 [n] = wipe σ [n] ∧ tYes σ2 H2 fun b H3 =>
        if b = true then tTup (tCons (tC (.str u)) (tCons (tVar n) tNil)) σ2 H3 fun y H4 => ∃ acc, H4 D = some (.lst acc) ∧ acc.length < sizeLine ∧ Nx (upd H4 D (.lst (acc ++ [y]))) else Nx H3) := by
  refine lcL (M := []) s (fun _ h => nomatch h) hx (by rw [List.length_map]; omega) (fun i acc G3 H3 => ∃ ts : List Addr, acc = ts.map V.ref ∧ TsAt K G3 ts ((xs.take i).map (wrM u))) (fun _ _ _ _ _ _ h => h) ⟨[], rfl, .nil⟩
    (fun i x acc G3 H3 Ry Rn hi ex e3 iv hy hnn => ?_) (fun mv acc G3 H3 e3 nmv gmv hmv hlen iv => ?_)
  · obtain ⟨ts, rfl, pt⟩ := iv
    rw [List.length_map] at hi
    rw [List.getElem?_map, List.getElem?_eq_getElem hi] at ex
    have ex2 : V.int xs[i] = x := Option.some.inj ex
    subst ex2
    refine k_name ⟨?_, k_yes (L2.iteT (k_tup (k_cons (k_c (k_cons (k_var (v := V.int xs[i]) ?_ (k_nil ?_)))))))⟩
    · show List.set (List.set (List.set σ n none) n _) n none = List.set σ n none
      rw [List.set_set, List.set_set]
    · show (List.set (List.set σ n none) n _)[n]? = _
      rw [List.getElem?_set_self (by rw [List.length_set]; exact hn)]
    · refine ⟨sz1 (by simp), fun t2 n2 => ?_⟩
      refine hy _ _ _ ((Ext.refl e3.s).new n2) ⟨ts ++ [t2], by simp, ?_⟩
      rw [List.take_add_one, List.getElem?_eq_getElem hi, List.map_append]
      exact paired_app (TsAt.mono pt (same_new (e3.s.free n2))) (SqT.of upd_same)
  · obtain ⟨ts, rfl, pt⟩ := iv
    rw [List.length_map, List.take_length] at pt
    exact q mv ts G3 H3 e3 nmv gmv hmv pt
/-! ### handing -/
def callM : List V := [.str "call"]
def handF (ins args kept alive : List Int) : List (List V) := (savedI (ins.zip args) kept alive).map (wrM "push") ++ ((args.drop ins.length).reverse).map (wrM "push")
def handL (ins args kept alive : List Int) (goal out : Int) : List (List V) := (callM :: if goal ≠ out then [[V.str "copy", .int goal, .int out]] else []) ++ ((savedI (ins.zip args) kept alive).reverse).map (wrM "pop")
structure Hand (K : PySem.W.Frag) (G : Hp) (n : Int) (h ti tk la ll : Addr) (ins kept args alive : List Int) (out goal : Int) : Prop where
  n1 : 1 ≤ n
  n10 : n ≤ 10
  ha : HouseAt K G h ins out kept ti tk
  ho : HouseOk n ins out kept
  aa : SqL K G la (args.map V.int)
  al : SqL K G ll (alive.map V.int)
  co : CallOk n args goal alive
theorem Hand.good {G : Hp} {n : Int} {h ti tk la ll : Addr} {ins kept args alive : List Int} {out goal : Int} (x : Hand K G n h ti tk la ll ins kept args alive out goal) : GoodM n (ins.zip args) := by
  refine ⟨fun p hp => ?_, ?_⟩
  · have h1 := (List.of_mem_zip (a := p.1) (b := p.2) hp)
    have i1 := x.ho.rg p.1 (List.mem_append_left _ h1.1)
    have i2 := x.co.rg p.2 (List.mem_append_left _ h1.2)
    omega
  · have : (ins.zip args).map (·.1) = ins.take (ins.zip args).length := by
      apply List.ext_getElem
      · rw [List.length_map, List.length_take, List.length_zip]; omega
      · intro i h1 h2
        rw [List.getElem_map, List.getElem_zip, List.getElem_take]
    rw [this]
    exact x.ho.nd.sublist (List.take_sublist _ _)
def spHanding (K : PySem.W.Frag) : Sp := fun vs H Q _ => ∃ (G : Hp) (n : Int) (h ti tk la ll : Addr) (ins kept args alive : List Int) (out goal : Int), vs = [.int n, .ref h, .ref la, .int goal, .ref ll] ∧ Same G H ∧ Hand K G n h ti tk la ll ins kept args alive out goal ∧
  ∀ (p : Addr) (ts : List Addr) (G1 H1 : Hp), Ext [] G H G1 H1 → H p = none → G1 p = none → H1 p = some (.lst (ts.map V.ref)) → TsAt K G1 ts (handF ins args kept alive ++ bySwaps n.toNat (ins.zip args) ++ handL ins args kept alive goal out) → Q (.ref p) H1
theorem saved_len (ld : Lead) (kept alive : List Int) : (savedI ld kept alive).length ≤ alive.length := List.length_filter_le ..
theorem k_listZip {ta : TA} {σ : L2.St} {Q : VK} (q : ta σ H fun vs H1 => ∃ a b xs ys, vs = [.ref a, .ref b] ∧ SqT K H1 a xs ∧ SqL K H1 b ys ∧ xs.length ≤ 1000 ∧ ∀ S, H1 S = none → XZ.Lay (xs.zip ys) S [] (upd H1 S (.lst [])) Q) : XZ.tListZip K ta σ H Q := q
theorem k_revL {te : TE} {σ : L2.St} {Q : VK} (q : te σ H fun x H1 => ∃ a xs, x = .ref a ∧ SqL K H1 a xs ∧ ∀ p, H1 p = none → Q (.ref p) (upd H1 p (.lst xs.reverse))) : tRevL K te σ H Q := q
theorem cut_drop (xs : List V) (k : Nat) : cutV xs (some (k : Int)) none = xs.drop k := by
  unfold cutV
  rw [HT.sIx_nat]
  show (xs.drop (min k xs.length)).take (xs.length - min k xs.length) = xs.drop k
  rcases Nat.le_total k xs.length with h | h
  · rw [Nat.min_eq_left h]
    exact List.take_of_length_le (by rw [List.length_drop]; omega)
  · rw [Nat.min_eq_right h, Nat.sub_self, List.take_zero, List.drop_eq_nil_of_le h]
/-- a list of ours that grows -/
structure Grow (K : PySem.W.Frag) (G0 H0 G H : Hp) (st : Addr) (ts : List Addr) (ms : List (List V)) : Prop where
  e : Ext [] G0 H0 G H
  n : H0 st = none
  g : G st = none
  h : H st = some (.lst (ts.map V.ref))
  t : TsAt K G ts ms
theorem Grow.step {G0 H0 G H G1 H1 : Hp} {st : Addr} {ts : List Addr} {ms : List (List V)} (x : Grow K G0 H0 G H st ts ms) (e : Ext [] G H G1 H1) : Grow K G0 H0 G1 H1 st ts ms := ⟨x.e.trans e, x.n, e.un x.g x.h, e.keep0 x.h, TsAt.mono x.t e.g⟩
theorem Grow.more {G0 H0 G H : Hp} {st : Addr} {ts us : List Addr} {ms ns : List (List V)} (x : Grow K G0 H0 G H st ts ms) (pu : TsAt K G us ns) : Grow K G0 H0 G (upd H st (.lst (ts.map V.ref ++ us.map V.ref))) st (ts ++ us) (ms ++ ns) :=
  ⟨x.e.mut x.n x.g, x.n, x.g, by rw [upd_same, List.map_append], paired_both x.t pu⟩
theorem hand_end {G0 H0 G : Hp} {sv st : Addr} {σ : L2.St} {D : Ends} {ts : List Addr} {ms : List (List V)} {SV : List Int} (h9 : σ[9]? = some (some (.ref sv))) (h11 : σ[11]? = some (some (.ref st))) (hl : 12 < σ.length) (g : Grow K G0 H0 G H st ts ms) (lt : ts.length ≤ 1000)
    (gsv : G sv = some (.lst (SV.map V.int))) (ls : SV.length ≤ 1000) (q : ∀ us G1 H1, Grow K G0 H0 G1 H1 st us (ms ++ SV.reverse.map (wrM "pop")) → D.rt (.ref st) H1) :
    tSeq (tDrop (tBM K "list" rExtend (tVar 11) (tCons (tLc (iList K (tRevL K (tVar 9))) (gName 12) tYes (tTup (tCons (tC (.str "pop")) (tCons (tVar 12) tNil))) [12]) tNil))) (tRet (tVar 11)) D σ H := by
  refine k_seq (k_drop (k_bm (k_var h11 ⟨tyL g.h, k_cons (k_lc (k_iList (k_revL (k_var h9 ⟨sv, _, rfl, g.e.s.seq (SqL.of gsv), fun rv nrv => ?_⟩))))⟩)))
  rw [← List.map_reverse]
  have e7 := (Ext.refl (M := []) g.e.s).new (o := .lst (SV.reverse.map V.int)) nrv
  refine ⟨_, rfl, ⟨_, SqL.of upd_same⟩, ?_⟩
  refine wrs_turn hl e7.s (SqL.of upd_same) (by rw [List.length_reverse]; omega) fun c ts2 G8 H8 e8 nc gc hc pt2 => ?_
  have g8 := g.step (e7.trans e8)
  have l2 : ts2.length ≤ 1000 := by rw [CX.paired_len pt2, List.length_map, List.length_reverse]; omega
  refine k_nil ⟨st, c, _, _, rfl, rfl, g8.h, hc, sz1 (by rw [List.length_map, List.length_map]; omega), ?_⟩
  exact k_ret (k_var h11 (q _ _ _ (g8.more pt2)))
theorem pure_handing (vs : List V) (Q : VK) (E : XK) (h : spHanding K vs H Q E) : t_handing K w (spCheckHouse K) (spCheckCall K) (spSaved K) (spBySwaps K) { nx := fun _ H1 => Q .non H1, rt := Q } (start ["boxes", "house", "args", "goal", "alive", "ins", "out", "kept", "lead", "saved", "beyond", "steps", "box"] vs) H := by
  obtain ⟨G, n, h, ti, tk, la, ll, ins, kept, args, alive, out, goal, rfl, s, hd, q⟩ := h
  have gm := hd.good
  have few := hd.ho.few
  have fewa := hd.co.few
  have al100 := hd.co.kl
  have lz : (ins.zip args).length ≤ 4 := by rw [List.length_zip]; omega
  have sl := saved_len (ins.zip args) kept alive
  unfold t_handing
  walk_at "go"
  refine ⟨G, n, h, ti, tk, ins, kept, out, rfl, s, hd.n1, hd.n10, hd.ha, hd.ho, fun H1 e1 => ?_⟩
  walk_at "go"
  refine ⟨G, n, la, ll, args, alive, goal, rfl, e1.s, hd.aa, hd.al, hd.co, fun H2 e2 => ?_⟩
  have E2 := e1.trans e2
  have hm := hd.ha.mono E2.s
  walk_at "go"
  refine k_tupN hm.h rfl ?_
  walk_at "go"
  refine k_listZip ?_
  walk_at "go"
  refine ⟨ti, la, _, _, rfl, hm.i, E2.s.seq hd.aa, by rw [List.length_map]; omega, fun S nS => ?_⟩
  refine lay_lead (K := K) (G := G) E2.s nS fun G3 H3 e3 ld3 => ?_
  have E3 := E2.trans e3
  walk_at "go"
  refine ⟨G3, S, tk, ll, ins.zip args, kept, alive, rfl, E3.s, ld3, by omega, sqT_mono E3.g hd.ha.k, E3.g.seq hd.al, by omega, fun sv G4 H4 e4 nsv gsv => ?_⟩
  have E4 := E3.trans e4
  generalize hSV : savedI (ins.zip args) kept alive = SV at *
  walk_at "go"
  refine k_len (.inr (sqT_mono (E4.g.trans E4.s) hd.ha.i)) ?_
  rw [List.length_map]
  walk_at "go"
  refine ⟨la, _, rfl, (E4.g.trans E4.s).seq hd.aa, fun by_ nby => ?_⟩
  rw [cut_drop, ← List.map_drop]
  have e5 := E4.new (o := .lst ((args.drop ins.length).map V.int)) nby
  have gsv5 : upd G4 by_ (.lst ((args.drop ins.length).map V.int)) sv = some (.lst (SV.map V.int)) := (same_new (E4.s.free nby)) _ _ gsv
  have gby : upd G4 by_ (.lst ((args.drop ins.length).map V.int)) by_ = some (.lst ((args.drop ins.length).map V.int)) := upd_same
  have ld5 := ld3.mono (e4.g.trans (same_new (o := .lst ((args.drop ins.length).map V.int)) (E4.s.free nby)))
  generalize upd G4 by_ (.lst ((args.drop ins.length).map V.int)) = G5 at *
  generalize upd H4 by_ (.lst ((args.drop ins.length).map V.int)) = H5 at *
  walk_at "go"
  refine ⟨_, rfl, ⟨_, e5.s.seq (SqL.of gsv5)⟩, ?_⟩
  refine wrs_turn (show 12 < 13 by decide) e5.s (SqL.of gsv5) (by omega) fun st ts1 G6 H6 e6 nst gst hst pt1 => ?_
  have g6 : Grow K G H G6 H6 st ts1 (SV.map (wrM "push")) := ⟨e5.trans e6, e5.d _ nst, gst, hst, pt1⟩
  walk_at "go"
  refine ⟨tyL g6.h, ?_⟩
  walk_at "go"
  refine k_revL ?_
  walk_at "go"
  refine ⟨by_, _, rfl, (e6.g.trans e6.s).seq (SqL.of gby), fun rv nrv => ?_⟩
  rw [← List.map_reverse]
  have e7 := (Ext.refl (M := []) e6.s).new (o := .lst ((args.drop ins.length).reverse.map V.int)) nrv
  refine ⟨_, rfl, ⟨_, SqL.of upd_same⟩, ?_⟩
  refine wrs_turn (show 12 < 13 by decide) e7.s (SqL.of upd_same) (by rw [List.length_reverse, List.length_drop]; omega) fun c ts2 G8 H8 e8 nc gc hc pt2 => ?_
  have g8 := g6.step (e7.trans e8)
  have l1 : ts1.length = SV.length := by rw [CX.paired_len pt1, List.length_map]
  have l2 : ts2.length ≤ 8 := by rw [CX.paired_len pt2, List.length_map, List.length_reverse, List.length_drop]; omega
  walk_at "go"
  refine ⟨st, c, _, _, rfl, rfl, g8.h, hc, sz1 (by rw [List.length_map, List.length_map]; omega), ?_⟩
  have g9 := g8.more pt2
  have gsv9 : G8 sv = some (.lst (SV.map V.int)) := (e6.g.trans (e7.g.trans e8.g)) _ _ gsv5
  have ld9 := ld5.mono (e6.g.trans (e7.g.trans e8.g))
  clear e8 hc nc gc g8
  generalize upd H8 st (.lst (ts1.map V.ref ++ ts2.map V.ref)) = H9 at *
  walk_at "go"
  refine ⟨tyL g9.h, ?_⟩
  walk_at "go"
  refine ⟨G8, n, S, ins.zip args, rfl, g9.e.s, hd.n1, hd.n10, ld9, gm, fun c ts3 G10 H10 e10 nc gc hc pt3 => ?_⟩
  have g10 := g9.step e10
  have l3 : ts3.length ≤ 4 := by
    have := CX.paired_len pt3
    have b := by_len (n := n.toNat) (ld := ins.zip args) (by rw [show ((n.toNat : Nat) : Int) = n by have := hd.n1; omega]; exact gm) (by have := hd.n10; omega)
    have := real_len (ins.zip args)
    omega
  walk_at "go"
  refine ⟨st, c, _, _, rfl, rfl, g10.h, hc, sz1 (by rw [List.length_map, List.length_map, List.length_append]; omega), ?_⟩
  have g11 := g10.more pt3
  have gsv11 : G10 sv = some (.lst (SV.map V.int)) := e10.g _ _ gsv9
  clear e10 hc nc gc g10
  generalize upd H10 st (.lst ((ts1 ++ ts2).map V.ref ++ ts3.map V.ref)) = H11 at *
  walk_at "go"
  refine ⟨tyL g11.h, ?_⟩
  walk_at "go"
  refine ⟨sz1 (by simp), fun t nt => ?_⟩
  have g12 := g11.step ((Ext.refl (M := []) g11.e.s).new (o := .tup [V.str "call"]) nt)
  have ht : SqT K (upd G10 t (.tup [V.str "call"])) t callM := SqT.of upd_same
  have gsv12 : upd G10 t (.tup [V.str "call"]) sv = some (.lst (SV.map V.int)) := (same_new (g11.e.s.free nt)) _ _ gsv11
  walk_at "go"
  refine k_append g12.h (by rw [sizeLine_eq, List.length_map, List.length_append, List.length_append]; omega) ?_
  have g13 := g12.more (us := [t]) (ns := [callM]) (.cons ht .nil)
  generalize upd G10 t (.tup [V.str "call"]) = G12 at *
  clear ht
  generalize upd H11 t (.tup [V.str "call"]) = H12 at *
  generalize hH13 : upd H12 st (.lst ((ts1 ++ ts2 ++ ts3).map V.ref ++ [t].map V.ref)) = H13 at *
  have l4 : (ts1 ++ ts2 ++ ts3 ++ [t]).length ≤ 200 := by rw [List.length_append, List.length_append, List.length_append, List.length_singleton]; omega
  have cut : ∀ X Y : List (List V), SV.map (wrM "push") ++ ((args.drop ins.length).reverse).map (wrM "push") ++ bySwaps n.toNat (ins.zip args) ++ [callM] ++ X ++ Y = handF ins args kept alive ++ bySwaps n.toNat (ins.zip args) ++ ((callM :: X) ++ Y) := fun X Y => by
    unfold handF
    rw [hSV]
    simp [List.append_assoc]
  have done : ∀ {us : List Addr} {G1 H1 : Hp} {X : List (List V)}, Grow K G H G1 H1 st us (SV.map (wrM "push") ++ ((args.drop ins.length).reverse).map (wrM "push") ++ bySwaps n.toNat (ins.zip args) ++ [callM] ++ X ++ SV.reverse.map (wrM "pop")) →
      X = (if goal ≠ out then [[V.str "copy", .int goal, .int out]] else []) → Q (.ref st) H1 := fun {us G1 H1 X} g hX => by
    refine q st us G1 H1 g.e g.n g.g g.h ?_
    have := g.t
    rw [cut, hX] at this
    unfold handL
    rw [hSV]
    exact this
  walk_at "go"
  subst hH13
  refine k_nboth (fun hne => ?_) (fun heq => ?_)
  · walk_at "go"
    refine ⟨tyL g13.h, ?_⟩
    walk_at "go"
    refine ⟨sz1 (by simp), fun t5 n5 => ?_⟩
    have g14 := g13.step ((Ext.refl (M := []) g13.e.s).new (o := .tup [V.str "copy", .int goal, .int out]) n5)
    have ht : SqT K (upd G12 t5 (.tup [V.str "copy", .int goal, .int out])) t5 [V.str "copy", .int goal, .int out] := SqT.of upd_same
    have gsv14 : upd G12 t5 (.tup [V.str "copy", .int goal, .int out]) sv = some (.lst (SV.map V.int)) := (same_new (g13.e.s.free n5)) _ _ gsv12
    walk_at "go"
    refine k_append g14.h (by rw [sizeLine_eq, List.length_map]; omega) ?_
    have g15 := g14.more (us := [t5]) (ns := [[V.str "copy", .int goal, .int out]]) (.cons ht .nil)
    dsimp only
    refine hand_end (sv := sv) rfl rfl (show 12 < 13 by decide) g15 (by rw [List.length_append, List.length_singleton]; omega) gsv14 (by omega) fun us G1 H1 g => done g (by rw [if_pos hne])
  · dsimp only
    refine hand_end (sv := sv) rfl rfl (show 12 < 13 by decide) g13 (by omega) gsv12 (by omega) fun us G1 H1 g => done (X := []) (by rw [List.append_nil]; exact g) (by rw [if_neg (fun z => z heq)])
end
end CH
namespace CH
open PySem PySem.Spec PyProof.Rows L2 MV CX CP CD
local macro_rules | `(tactic| walk_at "go") => `(tactic| repeat (first
  | with_reducible refine MV.k_seq ?_ | with_reducible refine MV.k_asg ?_ | with_reducible refine MV.k_name ?_ | with_reducible refine MV.k_op ?_ | ((with_reducible apply MV.k_var); exact rfl) | with_reducible refine MV.k_c ?_
  | with_reducible refine MV.k_add ?_ | with_reducible refine MV.k_sub ?_ | with_reducible refine MV.k_lt ?_ | with_reducible refine MV.k_le ?_ | with_reducible refine MV.k_gt ?_ | with_reducible refine MV.k_ge ?_ | with_reducible refine MV.k_eqI ?_ | with_reducible refine MV.k_neI ?_
  | with_reducible refine MV.k_test ?_ | with_reducible refine MV.k_B ?_ | with_reducible refine MV.k_bl ?_ | with_reducible refine MV.k_blV ?_ | with_reducible refine MV.k_and ?_ | with_reducible refine MV.k_or ?_ | with_reducible refine MV.k_not ?_ | with_reducible refine MV.k_andV ?_ | with_reducible refine MV.k_orV ?_ | with_reducible refine MV.k_notV ?_
  | with_reducible refine MV.k_if ?_ | with_reducible refine MV.k_tru ?_ | with_reducible refine MV.k_chain ?_ | with_reducible refine MV.k_next ?_ | with_reducible refine MV.k_drop ?_ | with_reducible refine MV.k_ret ?_ | with_reducible refine MV.k_retN ?_ | with_reducible refine MV.k_ifS ?_ | with_reducible refine MV.k_brk ?_ | with_reducible refine MV.k_cont ?_
  | with_reducible refine MV.k_nil ?_ | with_reducible refine MV.k_cons ?_ | with_reducible refine MV.k_tup ?_ | with_reducible refine MV.k_lst ?_ | with_reducible refine MV.k_cb ?_ | with_reducible refine MV.k_call ?_ | with_reducible refine MV.k_gnil ?_ | with_reducible refine MV.k_gcons ?_ | with_reducible refine MV.k_gsub ?_
  | with_reducible refine MV.k_bm ?_ | with_reducible refine MV.k_bm0 ?_ | with_reducible refine MV.k_un ?_ | with_reducible refine MV.k_neg ?_ | with_reducible refine MV.k_isN ?_ | with_reducible refine MV.k_notN ?_ | with_reducible refine L2.iteT ?_ | with_reducible refine L2.iteF ?_
  | with_reducible refine MV.k_iList ?_ | with_reducible refine MV.k_iTup ?_ | with_reducible refine MV.k_iRng1 ?_ | with_reducible refine MV.k_lc ?_ | with_reducible refine MV.k_for ?_
  | with_reducible refine MV.k_yes ?_ | with_reducible refine MV.k_dput ?_ | with_reducible refine MV.k_dget ?_ | with_reducible refine MV.k_dget1 ?_ | with_reducible refine MV.k_sl ?_ | with_reducible refine MV.k_nopart ?_ | with_reducible refine MV.k_part ?_ | with_reducible refine MV.k_pint ?_ | with_reducible refine MV.k_dnew ?_ | with_reducible refine MV.k_lstRg ?_ | with_reducible refine MV.k_rg1 ?_
  | with_reducible refine CX.k_callS ?_ | with_reducible refine CX.k_iEnum ?_))
def t__law_house (K : PySem.W.Frag) (w : World) (s__law_order : Sp) (s__law_drawn : Sp) : TS :=
  (tSeq (tAsg (tCall s__law_order [] E0 (tCons (tVar 0) (tCons (tLstRg (tRg1 (tVar 1))) tNil))) (gName 2))
    (tSeq (tAsg (tCB (vTupleOf K) (tCons (tSl (rSlL K) (tVar 2) tNoPart (tPart (tOp vAdd (tC (.int 1)) (tCall s__law_drawn [] E0 (tCons (tVar 0) (tCons (tCB vMin2 (tCons (tC (.int 4)) (tCons (tVar 1) tNil))) tNil)))))) tNil)) (gName 3))
    (tSeq (tAsg (tCall s__law_drawn [] E0 (tCons (tVar 0) (tCons (tVar 1) tNil))) (gName 4))
    (tSeq (tAsg (tOp vAdd (tC (.int 1)) (tCall s__law_drawn [] E0 (tCons (tVar 0) (tCons (tC (.int 3)) tNil)))) (gName 5))
    (tSeq (tAsg (tCB (vTupleOf K) (tCons (tLc (iRng1 (tCons (tVar 1) tNil)) (gName 7) (tAnd (tTest (tOp rNe (tVar 7) (tVar 4))) (tTest (tOp rEq (tCall s__law_drawn [] E0 (tCons (tVar 0) (tCons (tVar 5) tNil))) (tC (.int 0))))) (tVar 7) [7]) tNil)) (gName 6))
    (tRet (tTup (tCons (tVar 3) (tCons (tVar 4) (tCons (tVar 6) tNil))))))))))
def t__law_call (K : PySem.W.Frag) (w : World) (s__law_drawn : Sp) : TS :=
  (tSeq (tAsg (tLc (iRng1 (tCons (tCall s__law_drawn [] E0 (tCons (tVar 0) (tCons (tOp (rIxL K) (tLst (tCons (tC (.int 4)) (tCons (tC (.int 9)) tNil))) (tCall s__law_drawn [] E0 (tCons (tVar 0) (tCons (tC (.int 2)) tNil)))) tNil))) tNil)) (gName 5) tYes (tCall s__law_drawn [] E0 (tCons (tVar 0) (tCons (tVar 1) tNil))) [5]) (gName 2))
    (tSeq (tAsg (tCall s__law_drawn [] E0 (tCons (tVar 0) (tCons (tVar 1) tNil))) (gName 3))
    (tSeq (tAsg (tLc (iRng1 (tCons (tVar 1) tNil)) (gName 6) (tAnd (tTest (tOp rNe (tVar 6) (tVar 3))) (tTest (tOp rEq (tCall s__law_drawn [] E0 (tCons (tVar 0) (tCons (tC (.int 2)) tNil))) (tC (.int 1))))) (tVar 6) [6]) (gName 4))
    (tRet (tTup (tCons (tVar 2) (tCons (tVar 3) (tCons (tVar 4) tNil))))))))
section
variable {K : PySem.W.Frag} {w : World} {H : Hp}
/-! ### rows that rise -/
theorem rise_of {xs : List Int} (h : xs.Pairwise (· < ·)) : riseB xs = true := by
  unfold riseB
  refine List.all_eq_true.mpr fun p hp => decide_eq_true ?_
  obtain ⟨i, hi⟩ := List.mem_iff_getElem?.mp hp
  have hl := (List.getElem?_eq_some_iff.mp hi).1
  rw [List.length_zip, List.length_drop] at hl
  have e := (List.getElem?_eq_some_iff.mp hi).2
  rw [List.getElem_zip, List.getElem_drop] at e
  rw [← e]
  exact List.pairwise_iff_getElem.mp h i (1 + i) (by omega) (by omega) (by omega)
theorem range_rise (n : Nat) : (rangeI n).Pairwise (· < ·) := by
  unfold rangeI
  refine List.pairwise_map.mpr ?_
  exact List.pairwise_lt_range.imp fun h => by omega
theorem range_take {n i : Nat} (h : i ≤ n) : (rangeI n).take i = rangeI i := by
  unfold rangeI
  rw [← List.map_take, List.take_range, Nat.min_eq_left h]
theorem range_at {n i : Nat} (h : i < n) : (rangeI n)[i]? = some (i : Int) := by
  unfold rangeI
  simp [h]
theorem range_snoc (i : Nat) : rangeI (i + 1) = rangeI i ++ [(i : Int)] := by
  unfold rangeI
  rw [List.range_succ, List.map_append]
  rfl
/-! ### the law's houses and calls -/
theorem k_tupL {p : Addr} {ys : List V} {Q : VK} (h : SqL K H p ys) (q : ∀ l, H l = none → Q (.ref l) (upd H l (.tup ys))) : vTupleOf K [.ref p] H Q := ⟨p, ys, rfl, .inl ⟨h, q⟩⟩
def spLawHouse (K : PySem.W.Frag) : Sp := fun vs H Q _ => ∃ (c a : Addr) (ns : List Int) (G : Hp) (n : Int), vs = [.ref a, .int n] ∧ Dr K c a ns G H ∧ 1 ≤ n ∧ n ≤ 10 ∧
  ∀ (h ti tk : Addr) (ins kept : List Int) (out : Int) (G1 H1 : Hp), Ext [a] G H G1 H1 → Dr K c a ns G1 H1 → HouseAt K G1 h ins out kept ti tk → HouseOk n ins out kept → Q (.ref h) H1
theorem pure_law_house (vs : List V) (Q : VK) (E : XK) (h : spLawHouse K vs H Q E) : t__law_house K w (spOrder K) (spDrawn K) { nx := fun _ H1 => Q .non H1, rt := Q }
    (start ["_law_state", "_law_boxes_here", "_law_some", "_law_ins", "_law_out", "_law_often", "_law_kept", "_law_box"] vs) H := by
  obtain ⟨c, a, ns, G, n, rfl, d, n1, n10, q⟩ := h
  unfold t__law_house
  walk_at "go"
  refine ⟨RgOk.of_le (by decide) (by omega) (by decide) (by omega), fun pr npr => ?_⟩
  rw [rgV_ints]
  walk_at "go"
  have d1 := d.new (o := .lst ((rangeI n.toNat).map V.int)) npr
  have e1 := (Ext.refl (M := [a]) d.s).new (o := .lst ((rangeI n.toNat).map V.int)) npr
  refine ⟨c, a, pr, ns, rangeI n.toNat, _, rfl, d1, SqL.of upd_same, by rw [len_rangeI]; omega, fun l zs G2 H2 e2 d2 nl pm gl => ?_⟩
  have E2 := e1.trans e2
  have lz : zs.length = n.toNat := by rw [pm.length_eq, len_rangeI]
  walk_at "go"
  refine k_min2 fun mn m1 m2 m3 => ?_
  walk_at "go"
  refine d2.draw (M := [a]) (by simp) (by omega) (by omega) fun y H3 y0 y1 e3 d3 k3 => ?_
  have E3 := E2.trans e3
  walk_at "go"
  refine ⟨l, _, rfl, d3.s.seq (SqL.of gl), fun p4 np4 => ?_⟩
  obtain ⟨j, hj⟩ : ∃ j : Nat, 1 + y = (j : Int) := ⟨(1 + y).toNat, by omega⟩
  rw [hj, cut_to (k := j) (by rw [List.length_map]; omega), ← List.map_take]
  have d4 := d3.new (o := .lst ((zs.take j).map V.int)) np4
  have e4 := E3.new (o := .lst ((zs.take j).map V.int)) np4
  walk_at "go"
  refine k_tupL (SqL.of upd_same) fun ti nti => ?_
  have d5 := d4.new (o := .tup ((zs.take j).map V.int)) nti
  have e5 := e4.new (o := .tup ((zs.take j).map V.int)) nti
  have gti : upd (upd G2 p4 (.lst ((zs.take j).map V.int))) ti (.tup ((zs.take j).map V.int)) ti = some (.tup ((zs.take j).map V.int)) := upd_same
  generalize upd (upd G2 p4 (.lst ((zs.take j).map V.int))) ti (.tup ((zs.take j).map V.int)) = G5 at *
  generalize upd (upd H3 p4 (.lst ((zs.take j).map V.int))) ti (.tup ((zs.take j).map V.int)) = H5 at *
  walk_at "go"
  refine d5.draw (M := [a]) (by simp) (by omega) (by omega) fun out H6 o0 o1 e6 d6 k6 => ?_
  walk_at "go"
  refine d6.draw (M := [a]) (by simp) (by decide) (by decide) fun oft H7 f0 f1 e7 d7 k7 => ?_
  have E7 := (e5.trans e6).trans e7
  walk_at "go"
  refine ⟨_, rfl, by omega, by omega, ?_⟩
  refine lcR (M := [a]) (n := n.toNat) d7.s (fun m hm => by rw [List.mem_singleton.mp hm]; exact d7.st.ne) (by omega) (fun i acc G8 H8 => Stt c a H8 ∧ ∃ ks : List Int, acc = ks.map V.int ∧ ks.Sublist (rangeI i) ∧ out ∉ ks) (fun _ _ _ _ _ h iv => ⟨iv.1.of (h a (List.mem_singleton.mpr rfl)), iv.2⟩)
    ⟨d7.st, [], rfl, List.nil_sublist _, List.not_mem_nil⟩ (fun i acc G8 H8 Ry Rn hi e8 iv hy hn => ?_) (fun r acc G8 H8 e8 nr gr hr hl2 iv => ?_)
  · obtain ⟨st, ks, rfl, sub, nout⟩ := iv
    have d8 : Dr K c a ns G8 H8 := d7.next e8 st
    have sub2 : ks.Sublist (rangeI (i + 1)) := by rw [range_snoc]; exact sub.trans (List.sublist_append_left _ _)
    walk_at "go"
    refine ⟨rfl, ?_⟩
    walk_at "go"
    refine k_nboth (fun hne => ?_) (fun heq => ?_)
    · walk_at "go"
      refine d8.draw (M := [a]) (by simp) (by omega) (by omega) fun y H9 y0 y1 e9 d9 k9 => ?_
      walk_at "go"
      refine k_both (fun h1 => ?_) (fun h1 => ?_)
      · walk_at "go"
        refine hy _ _ _ e9 ⟨d9.st, ks ++ [(i : Int)], by simp, ?_, ?_⟩
        · rw [range_snoc]
          exact sub.append (List.Sublist.refl _)
        · intro m
          rcases List.mem_append.mp m with m | m
          · exact nout m
          · rw [List.mem_singleton] at m
            exact hne (by omega)
      · exact hn _ _ e9 ⟨d9.st, ks, rfl, sub2, nout⟩
    · exact hn _ _ (Ext.refl e8.s) ⟨st, ks, rfl, sub2, nout⟩
  · obtain ⟨st, ks, rfl, sub, nout⟩ := iv
    have E8 := E7.trans e8
    have d8 : Dr K c a ns G8 H8 := d7.next e8 st
    walk_at "go"
    refine k_tupL (SqL.of hr) fun tk ntk => ?_
    have d9 := d8.new (o := .tup (ks.map V.int)) ntk
    have e9 := E8.new (o := .tup (ks.map V.int)) ntk
    walk_at "go"
    refine ⟨sz1 (by simp), fun hh nhh => ?_⟩
    have d10 := d9.new (o := .tup [.ref ti, .int out, .ref tk]) nhh
    have e10 := e9.new (o := .tup [.ref ti, .int out, .ref tk]) nhh
    have s1 := same_new (o := .tup (ks.map V.int)) (E8.s.free ntk)
    have s2 := same_new (o := .tup [.ref ti, .int out, .ref tk]) (e9.s.free nhh)
    have lk : ks.length ≤ n.toNat := by have := sub.length_le; rw [len_rangeI] at this; exact this
    walk_at "go"
    refine q hh ti tk (zs.take j) ks out _ _ e10 d10 ⟨SqT.of upd_same, sqT_mono s2 (sqT_mono s1 (sqT_mono e8.g (SqT.of gti))), sqT_mono s2 (SqT.of upd_same)⟩ ⟨?_, fun x hx => ?_, ?_, ?_, nout, by omega⟩
    · rw [List.length_take]
      omega
    · rcases List.mem_append.mp hx with hx | hx
      · have := mem_rangeI.mp (pm.mem_iff.mp (List.mem_of_mem_take hx))
        omega
      · rcases List.mem_cons.mp hx with hx | hx
        · omega
        · have := mem_rangeI.mp (sub.subset hx)
          omega
    · exact (pm.nodup_iff.mpr (rangeI_nodup _)).sublist (List.take_sublist _ _)
    · exact rise_of ((range_rise n.toNat).sublist sub)
def spLawCall (K : PySem.W.Frag) : Sp := fun vs H Q _ => ∃ (c a : Addr) (ns : List Int) (G : Hp) (n : Int), vs = [.ref a, .int n] ∧ Dr K c a ns G H ∧ 1 ≤ n ∧ n ≤ 10 ∧
  ∀ (t la ll : Addr) (args alive : List Int) (goal : Int) (G1 H1 : Hp), Ext [a] G H G1 H1 → Dr K c a ns G1 H1 → SqT K G1 t [.ref la, .int goal, .ref ll] → G1 la = some (.lst (args.map V.int)) → G1 ll = some (.lst (alive.map V.int)) → CallOk n args goal alive → Q (.ref t) H1
theorem pure_law_call (vs : List V) (Q : VK) (E : XK) (h : spLawCall K vs H Q E) : t__law_call K w (spDrawn K) { nx := fun _ H1 => Q .non H1, rt := Q }
    (start ["_law_state", "_law_boxes_here", "_law_args", "_law_goal", "_law_alive", "_law_k", "_law_box"] vs) H := by
  obtain ⟨c, a, ns, G, n, rfl, d, n1, n10, q⟩ := h
  unfold t__law_call
  walk_at "go"
  refine ⟨sz1 (by simp), fun p np => ?_⟩
  have d0 := d.tmp (o := .lst [.int 4, .int 9]) np
  have e0 := (Ext.refl (M := [a]) d.s).tmp (o := .lst [.int 4, .int 9]) np
  have npa : p ≠ a := d.ne np
  walk_at "go"
  refine d0.draw (M := [a]) (by simp) (by decide) (by decide) fun y H1 y0 y1 e1 d1 k1 => ?_
  have hp : H1 p = some (.lst [.int 4, .int 9]) := by rw [k1 p npa]; exact upd_same
  have E1 := e0.trans e1
  walk_at "go"
  obtain ⟨m, hm, m4⟩ : ∃ m : Int, atI [V.int 4, V.int 9] y = some (.int m) ∧ 4 ≤ m ∧ m ≤ 9 := by
    rcases (show y = 0 ∨ y = 1 by omega) with rfl | rfl
    · exact ⟨4, rfl, by decide, by decide⟩
    · exact ⟨9, rfl, by decide, by decide⟩
  refine k_ixL (SqL.of hp) hm ?_
  walk_at "go"
  refine d1.draw (M := [a]) (by simp) (by omega) (by omega) fun k H2 k0 k9 e2 d2 k2 => ?_
  have E2 := E1.trans e2
  walk_at "go"
  refine ⟨_, rfl, by omega, by omega, ?_⟩
  refine lcR (M := [a]) (n := k.toNat) d2.s (fun m hm => by rw [List.mem_singleton.mp hm]; exact d2.st.ne) (by omega) (fun i acc G8 H8 => Stt c a H8 ∧ ∃ ks : List Int, acc = ks.map V.int ∧ ks.length = i ∧ ∀ x, x ∈ ks → 0 ≤ x ∧ x < n) (fun _ _ _ _ _ h iv => ⟨iv.1.of (h a (List.mem_singleton.mpr rfl)), iv.2⟩)
    ⟨d2.st, [], rfl, rfl, fun _ h => nomatch h⟩ (fun i acc G8 H8 Ry Rn hi e8 iv hy hn => ?_) (fun la acc G8 H8 e8 nr gr hr hl2 iv => ?_)
  · obtain ⟨st, ks, rfl, lk, rg⟩ := iv
    have d8 : Dr K c a ns G8 H8 := d2.next e8 st
    walk_at "go"
    refine ⟨rfl, ?_⟩
    walk_at "go"
    refine d8.draw (M := [a]) (by simp) (by omega) (by omega) fun x H9 x0 x1 e9 d9 k9 => ?_
    refine hy _ _ _ e9 ⟨d9.st, ks ++ [x], by simp, by rw [List.length_append, lk]; rfl, fun z hz => ?_⟩
    rcases List.mem_append.mp hz with hz | hz
    · exact rg z hz
    · rw [List.mem_singleton.mp hz]
      exact ⟨x0, x1⟩
  · obtain ⟨st, args, rfl, largs, rga⟩ := iv
    have nra : la ≠ a := d2.ne nr
    have d8 : Dr K c a ns (upd G8 la (.lst (args.map V.int))) H8 := (d2.next e8 st).frz gr hr nra
    have E8 : Ext [a] G H (upd G8 la (.lst (args.map V.int))) H8 := (E2.trans e8).frz (E2.d _ nr) gr hr
    have gla : upd G8 la (.lst (args.map V.int)) la = some (.lst (args.map V.int)) := upd_same
    generalize upd G8 la (.lst (args.map V.int)) = G9 at *
    walk_at "go"
    refine d8.draw (M := [a]) (by simp) (by omega) (by omega) fun goal H10 o0 o1 e10 d10 k10 => ?_
    have E10 := E8.trans e10
    walk_at "go"
    refine ⟨_, rfl, by omega, by omega, ?_⟩
    refine lcR (M := [a]) (n := n.toNat) d10.s (fun m hm => by rw [List.mem_singleton.mp hm]; exact d10.st.ne) (by omega) (fun i acc G8 H8 => Stt c a H8 ∧ ∃ ks : List Int, acc = ks.map V.int ∧ ks.Sublist (rangeI i) ∧ goal ∉ ks) (fun _ _ _ _ _ h iv => ⟨iv.1.of (h a (List.mem_singleton.mpr rfl)), iv.2⟩)
      ⟨d10.st, [], rfl, List.nil_sublist _, List.not_mem_nil⟩ (fun i acc G11 H11 Ry Rn hi e11 iv hy hn => ?_) (fun ll acc G11 H11 e11 nl gl hl hl2 iv => ?_)
    · obtain ⟨st, ks, rfl, sub, nout⟩ := iv
      have d11 : Dr K c a ns G11 H11 := d10.next e11 st
      have sub2 : ks.Sublist (rangeI (i + 1)) := by rw [range_snoc]; exact sub.trans (List.sublist_append_left _ _)
      walk_at "go"
      refine ⟨rfl, ?_⟩
      walk_at "go"
      refine k_nboth (fun hne => ?_) (fun heq => ?_)
      · walk_at "go"
        refine d11.draw (M := [a]) (by simp) (by decide) (by decide) fun y H9 y0 y1 e9 d9 k9 => ?_
        walk_at "go"
        refine k_both (fun h1 => ?_) (fun h1 => ?_)
        · walk_at "go"
          refine hy _ _ _ e9 ⟨d9.st, ks ++ [(i : Int)], by simp, ?_, ?_⟩
          · rw [range_snoc]
            exact sub.append (List.Sublist.refl _)
          · intro m
            rcases List.mem_append.mp m with m | m
            · exact nout m
            · rw [List.mem_singleton] at m
              exact hne (by omega)
        · exact hn _ _ e9 ⟨d9.st, ks, rfl, sub2, nout⟩
      · exact hn _ _ (Ext.refl e11.s) ⟨st, ks, rfl, sub2, nout⟩
    · obtain ⟨st, ks, rfl, sub, nout⟩ := iv
      have nla : ll ≠ a := d10.ne nl
      have d11 : Dr K c a ns (upd G11 ll (.lst (ks.map V.int))) H11 := (d10.next e11 st).frz gl hl nla
      have E11 : Ext [a] G H (upd G11 ll (.lst (ks.map V.int))) H11 := (E10.trans e11).frz (E10.d _ nl) gl hl
      walk_at "go"
      refine ⟨sz1 (by simp), fun t nt => ?_⟩
      have d12 := d11.new (o := .tup [.ref la, .int goal, .ref ll]) nt
      have e12 := E11.new (o := .tup [.ref la, .int goal, .ref ll]) nt
      have s1 := same_new (o := .tup [.ref la, .int goal, .ref ll]) (E11.s.free nt)
      have lk : ks.length ≤ n.toNat := by have := sub.length_le; rw [len_rangeI] at this; exact this
      walk_at "go"
      refine q t la ll args ks goal _ _ e12 d12 (SqT.of upd_same) (s1 _ _ (same_know gl _ _ (e11.g _ _ (e10.g _ _ gla)))) (s1 _ _ upd_same) ⟨by omega, fun x hx => ?_, rise_of ((range_rise n.toNat).sublist sub), nout, by omega⟩
      rcases List.mem_append.mp hx with hx | hx
      · exact rga x hx
      · rcases List.mem_cons.mp hx with hx | hx
        · omega
        · have := mem_rangeI.mp (sub.subset hx)
          omega
end
end CH
namespace XV
open PySem PySem.Spec PyProof.Rows L2
/-! ### t[::-1] of a tuple -/
theorem adjust_rev (n : Nat) : Builtin.Slice.sliceAdjust none none (-1) (n : Int) = ((n : Int) - 1, -1) := by
  unfold Builtin.Slice.sliceAdjust
  have h1 : ((-1 : Int) < 0) := by omega
  simp only [h1, if_true]
theorem places_rev (n : Nat) : Builtin.Slice.slicePlaces ((n : Int) - 1) (-1) (-1) = n := by
  unfold Builtin.Slice.slicePlaces
  have h1 : ¬ ((-1 : Int) > 0) := by omega
  simp only [h1, if_false]
  by_cases h : (n : Int) - 1 > -1
  · rw [if_pos h, show (- -1 : Int) = 1 by decide, Int.ediv_one]; omega
  · rw [if_neg h]; omega
theorem pick_rev (xs : Array Value) : ((List.range xs.size).filterMap fun (m : Nat) => xs[(((xs.size : Int) - 1) + (m : Int) * (-1)).toNat]?).toArray = xs.toList.reverse.toArray := by
  have e : (List.range xs.size).filterMap (fun (m : Nat) => xs[(((xs.size : Int) - 1) + (m : Int) * (-1)).toNat]?) = ((List.range xs.size).map fun k => xs.size - 1 - k).filterMap (xs[·]?) := by
    rw [List.filterMap_map]
    congr 1
    funext m
    show _ = xs[xs.size - 1 - m]?
    by_cases h : xs.size = 0
    · rw [Array.getElem?_eq_none (by omega), Array.getElem?_eq_none (by omega)]
    · congr 1
      omega
  rw [e, PySem.W.krv_range, List.filterMap_reverse, PySem.W.krv_all]
section
variable {prog : Program} {w : World} {A : Around} {E : Value → Shared → Prop} {s : Shared}
theorem sliceApplied_rev {sl : Addr} {u : Tok} {n : Nat} {Q : Int × Int × Nat → Shared → Prop} (hs : s.heap.IsSliceOf sl .none .none (.int (-1) u))
    (h : Q ((n : Int) - 1, -1, n) s) : wpAny (model prog w) A (Builtin.Slice.sliceApplied (.ref sl) (pure (n : Int))) Q E s := by
  obtain ⟨os, hos, hcs, hds⟩ := id hs
  unfold Builtin.Slice.sliceApplied Builtin.Slice.sliceFields
  refine wpAny_bind (wpAny_bind (wpAny_field hos hds (x := .none) rfl (wpAny_bind (wpAny_field hos hds (x := .none) rfl (wpAny_bind (wpAny_field hos hds (x := .int (-1) u) rfl (wpAny_pure ?_)))))))
  refine wpAny_bind (slicePart_int ?_)
  show wpAny _ _ (if ((-1 : Int) == 0) = true then _ else _) _ _ s
  rw [if_neg (by decide)]
  refine wpAny_bind (slicePart_none (wpAny_bind (slicePart_none (wpAny_bind (wpAny_pure ?_)))))
  show wpAny _ _ (match Builtin.Slice.sliceAdjust none none (-1) (n : Int) with | (lo, hi) => pure (lo, (-1 : Int), Builtin.Slice.slicePlaces lo hi (-1))) _ _ s
  rw [adjust_rev n]
  show wpAny _ _ (pure ((n : Int) - 1, (-1 : Int), Builtin.Slice.slicePlaces ((n : Int) - 1) (-1) (-1))) _ _ s
  rw [places_rev]
  exact wpAny_pure h
theorem getItem_tuple_rev {t sl : Addr} {items : Array Value} {u : Tok} {Q : Value → Shared → Prop} (ht : IsTup s.heap t items) (hs : s.heap.IsSliceOf sl .none .none (.int (-1) u))
    (h : Q (.ref s.heap.objs.size) { s with heap := s.heap.push { cls := .type "tuple", data := .seq items.toList.reverse.toArray } })
    (hsz : items.size ≤ sizeLine) : wpAny (model prog w) A (getItem (.ref t) (.ref sl)) Q E s := by
  have htake : sizeOk (.seq items.toList.reverse.toArray) := by
    show items.toList.reverse.toArray.size ≤ sizeLine
    rw [List.size_toArray, List.length_reverse, Array.length_toList]
    exact hsz
  obtain ⟨os, hos, hcs, hds⟩ := id hs
  have hTs : s.TypeIs (.ref sl) "slice" := ⟨os, hos, hcs⟩
  unfold getItem
  try with_reducible refine wpAny_holding ?_
  first | refine wpAny_bind (wpAny_pure ?_) | skip
  refine wpAny_bind (wpAny_sequenceKey ht.typeIs (by decide) ?_)
  refine wpAny_bind (wpAny_callSpecial?_slot (name := Str.ofString "__getitem__") ht.typeIs PyProof.Rows.slot_tuple_getitem
    (wpAny_call_entry PyProof.Rows.slot_tuple_getitem ht.typeIs entry_tuple_getitem ?_ (args_tuple_getitem _ _)))
  show wpAny _ _ (Builtin.Tuple.tupleItemsOf (.ref t) >>= _) _ _ s
  refine wpAny_bind (tupleItemsOf_ ht ?_)
  refine wpAny_bind (wpAny_typeOf hTs ?_)
  rw [if_pos (by decide)]
  refine wpAny_bind (sliceApplied_rev hs ?_)
  have hno : ¬ ((((items.size : Int) - 1) == 0 && (-1 : Int) == 1 && items.size == items.size) = true) := by
    intro q
    rw [Bool.and_eq_true, Bool.and_eq_true] at q
    exact absurd q.1.2 (by decide)
  show wpAny _ _ (if (((items.size : Int) - 1) == 0 && (-1 : Int) == 1 && items.size == items.size) = true then _ else _) _ _ s
  rw [if_neg hno, pick_rev]
  first
    | exact wpAny_bind (m := Builtin.Tuple.tupleExact _) (wpAny_newObj_type (wpAny_pure ⟨_, rfl, wpAny_pure h⟩) htake)
    | exact wpAny_bind (m := Builtin.Tuple.tupleExact _) (wpAny_newObj_type (wpAny_bind (wpAny_pure (wpAny_pure ⟨_, rfl, wpAny_pure h⟩))) htake)
    | exact wpAny_bind (wpAny_bind (m := Builtin.Tuple.tupleExact _) (wpAny_newObj_type (wpAny_pure (wpAny_pure ⟨_, rfl, wpAny_pure h⟩)) htake))
    | exact wpAny_bind (wpAny_bind (m := Builtin.Tuple.tupleExact _) (wpAny_newObj_type (wpAny_pure ⟨_, rfl, wpAny_pure h⟩) htake))
end
section
variable {X : Cx}
def tRevT (K : PySem.W.Frag) (te : TE) : TE := fun σ H Q => te σ H fun x H1 => ∃ a xs, x = .ref a ∧ SqT K H1 a xs ∧ ∀ p, H1 p = none → Q (.ref p) (upd H1 p (.tup xs.reverse))
theorem pe_revT {e : Expr} {te : TE} {k : Nat} {p1 p2 p3 pos : Pos} (he : PE X e te) : PE X (.Subscript e (.Slice none none (some (.UnaryOp .USub (.Constant (.int 1) k p1) p2)) p3) pos) (tRevT X.K te) := by
  refine ⟨fun pins s σ H Q I h => ?_⟩
  refine Subscript_ (thn (he.run pins s σ H _ I h) fun v s1 ⟨x, H1, I1, r1, q1⟩ => ?_)
  obtain ⟨a, xs, ex, hx, q⟩ := q1
  subst ex
  cases r1
  have hst : PO X (some (.UnaryOp .USub (.Constant (.int 1) k p1) p2)) (tPart (tUn (rU fun i => .int (-i)) (tC (.int 1)))) := po_some (pe_un un_neg pe_int)
  refine wpAny_Slice (thn (po_none.run pins s1 σ H1 (fun o H2 => o = none ∧ H2 = H1) I1 ⟨rfl, rfl⟩) fun vl s2 ⟨l, H2, I2, pl, el, e2⟩ => ?_)
  subst el e2
  refine thn (po_none.run pins s2 σ H2 (fun o H3 => o = none ∧ H3 = H2) I2 ⟨rfl, rfl⟩) fun vu s3 ⟨u, H3, I3, pu, eu, e3⟩ => ?_
  subst eu e3
  refine thn (hst.run pins s3 σ H3 (fun o H4 => o = some (-1) ∧ H4 = H3) I3 ⟨1, rfl, -1, rfl, rfl, rfl⟩) fun vs s4 ⟨o, H4, I4, ps, eo, e4⟩ => ?_
  subst eo e4
  cases pl
  cases pu
  cases ps with
  | int i tk =>
  have I5 : Inv X pins σ H4 { s4 with heap := s4.heap.push { cls := .type "slice", data := .fields #[.none, .none, .int (-1) tk] } } := I4.kept (t' := s4.toks) fun b ob q => Heap.get?_push_of_some _ q
  obtain ⟨its, r, ht, hz⟩ := I5.tuple hx
  have hlen := r.length
  show wpAny (model X.prog X.w) X.A (subscriptTail e (.Slice none none (some (.UnaryOp .USub (.Constant (.int 1) k p1) p2)) p3) (.ref a) (.ref s4.heap.objs.size)) (EP X pins σ Q) X.xe { s4 with heap := s4.heap.push { cls := .type "slice", data := .fields #[.none, .none, .int (-1) tk] } }
  refine tail_any (ops := [.ref a, .ref s4.heap.objs.size]) ht.typeIs PyProof.Rows.slot_tuple_getitem.lookup ?_ (by with_unfolding_all rfl)
  refine getItem_tuple_rev ht (Heap.IsSliceOf.new _ _ _ _) ?_ (by rw [List.size_toArray]; omega)
  refine ⟨.ref _, _, I5.laid (t' := s4.toks) (o := .tup xs.reverse) (fun b ob q => Heap.get?_push_of_some _ q) (Nat.le_refl _) ?_, rfl, q _ (I5.hok.fresh (Nat.le_refl _))⟩
  exact ⟨by rw [List.length_reverse]; exact hz, _, r.reverse, IsTup.new _ _⟩
end
end XV
namespace CH
open PySem PySem.Spec PyProof.Rows L2 MV CX CP CD
local macro_rules | `(tactic| walk_at "go") => `(tactic| repeat (first
  | with_reducible refine MV.k_seq ?_ | with_reducible refine MV.k_asg ?_ | with_reducible refine MV.k_name ?_ | with_reducible refine MV.k_op ?_ | ((with_reducible apply MV.k_var); exact rfl) | with_reducible refine MV.k_c ?_
  | with_reducible refine MV.k_add ?_ | with_reducible refine MV.k_sub ?_ | with_reducible refine MV.k_lt ?_ | with_reducible refine MV.k_le ?_ | with_reducible refine MV.k_gt ?_ | with_reducible refine MV.k_ge ?_ | with_reducible refine MV.k_eqI ?_ | with_reducible refine MV.k_neI ?_
  | with_reducible refine MV.k_test ?_ | with_reducible refine MV.k_B ?_ | with_reducible refine MV.k_bl ?_ | with_reducible refine MV.k_blV ?_ | with_reducible refine MV.k_and ?_ | with_reducible refine MV.k_or ?_ | with_reducible refine MV.k_not ?_ | with_reducible refine MV.k_andV ?_ | with_reducible refine MV.k_orV ?_ | with_reducible refine MV.k_notV ?_
  | with_reducible refine MV.k_if ?_ | with_reducible refine MV.k_tru ?_ | with_reducible refine MV.k_chain ?_ | with_reducible refine MV.k_next ?_ | with_reducible refine MV.k_drop ?_ | with_reducible refine MV.k_ret ?_ | with_reducible refine MV.k_retN ?_ | with_reducible refine MV.k_ifS ?_ | with_reducible refine MV.k_brk ?_ | with_reducible refine MV.k_cont ?_
  | with_reducible refine MV.k_nil ?_ | with_reducible refine MV.k_cons ?_ | with_reducible refine MV.k_tup ?_ | with_reducible refine MV.k_lst ?_ | with_reducible refine MV.k_cb ?_ | with_reducible refine MV.k_call ?_ | with_reducible refine MV.k_gnil ?_ | with_reducible refine MV.k_gcons ?_ | with_reducible refine MV.k_gsub ?_
  | with_reducible refine MV.k_bm ?_ | with_reducible refine MV.k_bm0 ?_ | with_reducible refine MV.k_un ?_ | with_reducible refine MV.k_neg ?_ | with_reducible refine MV.k_isN ?_ | with_reducible refine MV.k_notN ?_ | with_reducible refine L2.iteT ?_ | with_reducible refine L2.iteF ?_
  | with_reducible refine MV.k_iList ?_ | with_reducible refine MV.k_iTup ?_ | with_reducible refine MV.k_iRng1 ?_ | with_reducible refine MV.k_lc ?_ | with_reducible refine MV.k_for ?_
  | with_reducible refine MV.k_yes ?_ | with_reducible refine MV.k_dput ?_ | with_reducible refine MV.k_dget ?_ | with_reducible refine MV.k_dget1 ?_ | with_reducible refine MV.k_sl ?_ | with_reducible refine MV.k_nopart ?_ | with_reducible refine MV.k_part ?_ | with_reducible refine MV.k_pint ?_ | with_reducible refine MV.k_dnew ?_ | with_reducible refine MV.k_lstRg ?_ | with_reducible refine MV.k_rg1 ?_
  | with_reducible refine CX.k_callS ?_ | with_reducible refine CX.k_iEnum ?_))
def t_check_houseX (K : PySem.W.Frag) (w : World) (s_is_count : Sp) (s_are_boxes : Sp) (s_is_rising : Sp) (E : XK) : TS :=
  (tSeq (tIfS (tNot (tB (tCall s_is_count [] E0 (tCons (tVar 0) tNil)))) (EX.tRaiseOwn (He.ga K "BadHouse") (fun cls d _ H => E cls d H)) tNext)
    (tSeq (tIfS (tTest (tOp rNe (tCB (vLen K) (tCons (tVar 1) tNil)) (tC (.int 3)))) (EX.tRaiseOwn (He.ga K "BadHouse") (fun cls d _ H => E cls d H)) tNext)
    (tSeq (tAsg (tVar 1) (gTup K 3 (gCons (gName 2) (gCons (gName 3) (gCons (gName 4) gNil)))))
    (tSeq (tIfS (tNot (tTest (tChain vLe vLe (tC (.int 1)) (tCB (vLen K) (tCons (tVar 2) tNil)) (tC (.int 4))))) (EX.tRaiseOwn (He.ga K "BadHouse") (fun cls d _ H => E cls d H)) tNext)
    (tSeq (tIfS (tNot (tB (tCall s_are_boxes [] E0 (tCons (tVar 0) (tCons (tLst (StX.tStar K (tVar 2) (tCons (tVar 3) (StX.tStar K (tVar 4) tNil)))) tNil))))) (EX.tRaiseOwn (He.ga K "BadHouse") (fun cls d _ H => E cls d H)) tNext)
    (tSeq (tIfS (tTest (tOp rNe (XR.tLenSet K (tVar 2)) (tCB (vLen K) (tCons (tVar 2) tNil)))) (EX.tRaiseOwn (He.ga K "BadHouse") (fun cls d _ H => E cls d H)) tNext)
    (tSeq (tIfS (tNot (tB (tCall s_is_rising [] E0 (tCons (tVar 4) tNil)))) (EX.tRaiseOwn (He.ga K "BadHouse") (fun cls d _ H => E cls d H)) tNext)
    (tIfS (tTest (tOp (rIn K false) (tVar 3) (tVar 4))) (EX.tRaiseOwn (He.ga K "BadHouse") (fun cls d _ H => E cls d H)) tNext))))))))
def t_check_callX (K : PySem.W.Frag) (w : World) (s_are_boxes : Sp) (s_is_rising : Sp) (E : XK) : TS :=
  (tSeq (tIfS (tTest (tOp vGt (tCB (vLen K) (tCons (tVar 1) tNil)) (tC (.int 8)))) (EX.tRaiseOwn (He.ga K "BadCall") (fun cls d _ H => E cls d H)) tNext)
    (tSeq (tIfS (tNot (tB (tCall s_are_boxes [] E0 (tCons (tVar 0) (tCons (tLst (StX.tStar K (tVar 1) (tCons (tVar 2) (StX.tStar K (tVar 3) tNil)))) tNil))))) (EX.tRaiseOwn (He.ga K "BadCall") (fun cls d _ H => E cls d H)) tNext)
    (tSeq (tIfS (tNot (tB (tCall s_is_rising [] E0 (tCons (tVar 3) tNil)))) (EX.tRaiseOwn (He.ga K "BadCall") (fun cls d _ H => E cls d H)) tNext)
    (tIfS (tTest (tOp (rIn K false) (tVar 2) (tVar 3))) (EX.tRaiseOwn (He.ga K "BadCall") (fun cls d _ H => E cls d H)) tNext))))
def t_handingX (K : PySem.W.Frag) (w : World) (s_check_house : Sp) (s_check_call : Sp) (s_saved_boxes : Sp) (s_by_swaps : Sp) (E : XK) : TS :=
  (tSeq (tDrop (tCallS s_check_house (WE (fun cls d _ H => E cls d H)) (tCons (tVar 0) (tCons (tVar 1) tNil))))
    (tSeq (tDrop (tCallS s_check_call (WE (fun cls d _ H => E cls d H)) (tCons (tVar 0) (tCons (tVar 2) (tCons (tVar 3) (tCons (tVar 4) tNil))))))
    (tSeq (tAsg (tVar 1) (gTup K 3 (gCons (gName 5) (gCons (gName 6) (gCons (gName 7) gNil)))))
    (tSeq (tAsg (XZ.tListZip K (tCons (tVar 5) (tCons (tVar 2) tNil))) (gName 8))
    (tSeq (tAsg (tCall s_saved_boxes [] E0 (tCons (tVar 8) (tCons (tVar 7) (tCons (tVar 4) tNil)))) (gName 9))
    (tSeq (tAsg (tSl (rSlL K) (tVar 2) (tPart (tCB (vLen K) (tCons (tVar 5) tNil))) tNoPart) (gName 10))
    (tSeq (tAsg (tLc (iList K (tVar 9)) (gName 12) tYes (tTup (tCons (tC (.str "push")) (tCons (tVar 12) tNil))) [12]) (gName 11))
    (tSeq (tDrop (tBM K "list" rExtend (tVar 11) (tCons (tLc (iList K (tRevL K (tVar 10))) (gName 12) tYes (tTup (tCons (tC (.str "push")) (tCons (tVar 12) tNil))) [12]) tNil)))
    (tSeq (tDrop (tBM K "list" rExtend (tVar 11) (tCons (tCallS s_by_swaps (WE (fun cls d _ H => E cls d H)) (tCons (tVar 0) (tCons (tVar 8) tNil))) tNil)))
    (tSeq (tDrop (tBM K "list" rAppend (tVar 11) (tCons (tTup (tCons (tC (.str "call")) tNil)) tNil)))
    (tSeq (tIfS (tTest (tOp rNe (tVar 3) (tVar 6))) (tDrop (tBM K "list" rAppend (tVar 11) (tCons (tTup (tCons (tC (.str "copy")) (tCons (tVar 3) (tCons (tVar 6) tNil)))) tNil))) tNext)
    (tSeq (tDrop (tBM K "list" rExtend (tVar 11) (tCons (tLc (iList K (tRevL K (tVar 9))) (gName 12) tYes (tTup (tCons (tC (.str "pop")) (tCons (tVar 12) tNil))) [12]) tNil)))
    (tRet (tVar 11))))))))))))))
section
variable {K : PySem.W.Frag} {w : World} {H : Hp}
/-! ### any house, any call -/
def HouseP (n : Int) (ins : List Int) (out : Int) (kept : List Int) : Prop := (1 ≤ n ∧ n ≤ 10) ∧ (1 ≤ ins.length ∧ ins.length ≤ 4) ∧ boxesB n (ins ++ out :: kept) = true ∧ ins.Nodup ∧ riseB kept = true ∧ out ∉ kept
def CallP (n : Int) (args : List Int) (goal : Int) (alive : List Int) : Prop := args.length ≤ 8 ∧ boxesB n (args ++ goal :: alive) = true ∧ riseB alive = true ∧ goal ∉ alive
theorem HouseP.of {n : Int} {ins kept : List Int} {out : Int} (n1 : 1 ≤ n) (n10 : n ≤ 10) (h : HouseOk n ins out kept) : HouseP n ins out kept := ⟨⟨n1, n10⟩, h.few, boxesB_of h.rg, h.nd, h.up, h.no⟩
theorem boxesB_in {n : Int} {xs : List Int} (h : boxesB n xs = true) : ∀ x, x ∈ xs → 0 ≤ x ∧ x < n := fun x hx => of_decide_eq_true (List.all_eq_true.mp h x hx)
theorem HouseP.ok {n : Int} {ins kept : List Int} {out : Int} (h : HouseP n ins out kept) (kl : kept.length ≤ 100) : HouseOk n ins out kept := ⟨h.2.1, boxesB_in h.2.2.1, h.2.2.2.1, h.2.2.2.2.1, h.2.2.2.2.2, kl⟩
theorem CallP.of {n : Int} {args alive : List Int} {goal : Int} (h : CallOk n args goal alive) : CallP n args goal alive := ⟨h.few, boxesB_of h.rg, h.up, h.no⟩
theorem CallP.ok {n : Int} {args alive : List Int} {goal : Int} (h : CallP n args goal alive) (kl : alive.length ≤ 100) : CallOk n args goal alive := ⟨h.1, boxesB_in h.2.1, h.2.2.1, h.2.2.2, kl⟩
def spCheckHouseX (K : PySem.W.Frag) : Sp := fun vs H Q E => ∃ (G : Hp) (n : Int) (h ti tk : Addr) (ins kept : List Int) (out : Int), vs = [.int n, .ref h] ∧ Same G H ∧ HouseAt K G h ins out kept ti tk ∧ ins.length ≤ 60 ∧ kept.length ≤ 300 ∧
  ∀ H1, Ext [] G H G H1 → (HouseP n ins out kept → Q .non H1) ∧ (¬ HouseP n ins out kept → E (.ref (He.ga K "BadHouse")) none H1)
theorem pure_check_houseX (vs : List V) (Q : VK) (E : XK) (h : spCheckHouseX K vs H Q E) : t_check_houseX K w spIsCount (spAreBoxes K) (spIsRising K) E { nx := fun _ H1 => Q .non H1, rt := Q } (start ["boxes", "house", "ins", "out", "kept"] vs) H := by
  obtain ⟨G, n, h, ti, tk, ins, kept, out, rfl, s, ha, l60, l100, q⟩ := h
  have hm := ha.mono s
  have li : (ins.map V.int).length = ins.length := List.length_map _
  have bad : ∀ H1, Ext [] G H G H1 → ¬ HouseP n ins out kept → E (.ref (He.ga K "BadHouse")) none H1 := fun H1 e z => (q H1 e).2 z
  have e00 := Ext.refl (M := []) s
  unfold t_check_houseX
  walk_at "go"
  refine ⟨n, rfl, ?_⟩
  walk_at "go"
  refine k_nboth (fun hn => bad _ e00 fun z => hn z.1) (fun hn => ?_)
  walk_at "go"
  refine k_len (.inr hm.h) ?_
  walk_at "go"
  refine k_nfalse rfl ?_
  walk_at "go"
  refine k_tupN hm.h rfl ?_
  walk_at "go"
  refine k_len (.inr hm.i) ?_
  rw [li]
  walk_at "go"
  refine k_both (fun h1 => ?_) (fun h1 => ?_)
  rotate_left
  · walk_at "go"
    refine L2.iteT (bad _ e00 fun z => h1 (by have := z.2.1; omega))
  walk_at "go"
  refine k_nboth (fun h4 => bad _ e00 fun z => h4 (by have := z.2.1; omega)) (fun h4 => ?_)
  walk_at "go"
  refine k_star ?_
  walk_at "go"
  refine ⟨ti, _, rfl, .inl hm.i, ?_⟩
  walk_at "go"
  refine k_star ?_
  walk_at "go"
  refine ⟨tk, _, rfl, .inl hm.k, ?_⟩
  walk_at "go"
  refine ⟨sz1 (by simp; omega), fun p np => ?_⟩
  have er : ins.map V.int ++ V.int out :: (kept.map V.int ++ []) = (ins ++ out :: kept).map V.int := by simp
  rw [er]
  have e0 := (Ext.refl (M := []) s).new (o := .lst ((ins ++ out :: kept).map V.int)) np
  walk_at "go"
  refine ⟨_, n, p, ins ++ out :: kept, rfl, e0.s, SqL.of upd_same, by simp; omega, fun H1 e1 => ?_⟩
  have E1 := e0.trans e1
  have hm1 := ha.mono (E1.g.trans E1.s)
  walk_at "go"
  by_cases hb : boxesB n (ins ++ out :: kept) = true
  rotate_left
  · rw [Bool.not_eq_true] at hb
    rw [hb]
    exact L2.iteT (bad _ (E1.back s) fun z => by have y := z.2.2.1; rw [hb] at y; cases y)
  rw [hb]
  refine L2.iteF ?_
  walk_at "go"
  refine k_lenS ?_
  walk_at "go"
  refine ⟨ti, ins, rfl, .inr hm1.i, by omega, fun c cl ci => ?_⟩
  walk_at "go"
  refine k_len (.inr hm1.i) ?_
  rw [li]
  walk_at "go"
  refine k_nboth (fun hc => bad _ (E1.back s) fun z => hc (by rw [ci.mpr z.2.2.2.1])) (fun hc => ?_)
  have nd : ins.Nodup := ci.mp (by omega)
  walk_at "go"
  refine ⟨_, tk, kept, rfl, E1.s, .inr (sqT_mono E1.g ha.k), by omega, fun H2 e2 => ?_⟩
  have E2 := E1.trans e2
  walk_at "go"
  by_cases hr : riseB kept = true
  rotate_left
  · rw [Bool.not_eq_true] at hr
    rw [hr]
    exact L2.iteT (bad _ (E2.back s) fun z => by have y := z.2.2.2.2.1; rw [hr] at y; cases y)
  rw [hr]
  refine L2.iteF ?_
  walk_at "go"
  refine k_inI (.inr (sqT_mono (E2.g.trans E2.s) ha.k)) ?_
  walk_at "go"
  refine k_both (fun ho => bad _ (E2.back s) fun z => z.2.2.2.2.2 ho) (fun ho => ?_)
  walk_at "go"
  exact (q _ (E2.back s)).1 ⟨hn, ⟨by omega, by omega⟩, hb, nd, hr, ho⟩
def spCheckCallX (K : PySem.W.Frag) : Sp := fun vs H Q E => ∃ (G : Hp) (n : Int) (la ll : Addr) (args alive : List Int) (goal : Int), vs = [.int n, .ref la, .int goal, .ref ll] ∧ Same G H ∧ SqL K G la (args.map V.int) ∧ SqL K G ll (alive.map V.int) ∧ args.length ≤ 300 ∧ alive.length ≤ 300 ∧
  ∀ H1, Ext [] G H G H1 → (CallP n args goal alive → Q .non H1) ∧ (¬ CallP n args goal alive → E (.ref (He.ga K "BadCall")) none H1)
theorem pure_check_callX (vs : List V) (Q : VK) (E : XK) (h : spCheckCallX K vs H Q E) : t_check_callX K w (spAreBoxes K) (spIsRising K) E { nx := fun _ H1 => Q .non H1, rt := Q } (start ["boxes", "args", "goal", "alive"] vs) H := by
  obtain ⟨G, n, la, ll, args, alive, goal, rfl, s, ha, hl, l1, l2, q⟩ := h
  have bad : ∀ H1, Ext [] G H G H1 → ¬ CallP n args goal alive → E (.ref (He.ga K "BadCall")) none H1 := fun H1 e z => (q H1 e).2 z
  unfold t_check_callX
  walk_at "go"
  refine k_len (.inl (s.seq ha)) ?_
  rw [List.length_map]
  walk_at "go"
  refine k_both (fun h8 => bad _ (Ext.refl s) fun z => by have := z.1; omega) (fun h8 => ?_)
  walk_at "go"
  refine k_star ?_
  walk_at "go"
  refine ⟨la, _, rfl, .inr (s.seq ha), ?_⟩
  walk_at "go"
  refine k_star ?_
  walk_at "go"
  refine ⟨ll, _, rfl, .inr (s.seq hl), ?_⟩
  walk_at "go"
  refine ⟨sz1 (by simp; omega), fun p np => ?_⟩
  have er : args.map V.int ++ V.int goal :: (alive.map V.int ++ []) = (args ++ goal :: alive).map V.int := by simp
  rw [er]
  have e0 := (Ext.refl (M := []) s).new (o := .lst ((args ++ goal :: alive).map V.int)) np
  walk_at "go"
  refine ⟨_, n, p, args ++ goal :: alive, rfl, e0.s, SqL.of upd_same, by simp; omega, fun H1 e1 => ?_⟩
  have E1 := e0.trans e1
  walk_at "go"
  by_cases hb : boxesB n (args ++ goal :: alive) = true
  rotate_left
  · rw [Bool.not_eq_true] at hb
    rw [hb]
    exact L2.iteT (bad _ (E1.back s) fun z => by have y := z.2.1; rw [hb] at y; cases y)
  rw [hb]
  refine L2.iteF ?_
  walk_at "go"
  refine ⟨_, ll, alive, rfl, E1.s, .inl (E1.g.seq hl), by omega, fun H2 e2 => ?_⟩
  have E2 := E1.trans e2
  walk_at "go"
  by_cases hr : riseB alive = true
  rotate_left
  · rw [Bool.not_eq_true] at hr
    rw [hr]
    exact L2.iteT (bad _ (E2.back s) fun z => by have y := z.2.2.1; rw [hr] at y; cases y)
  rw [hr]
  refine L2.iteF ?_
  walk_at "go"
  refine k_inI (.inl ((E2.g.trans E2.s).seq hl)) ?_
  walk_at "go"
  refine k_both (fun ho => bad _ (E2.back s) fun z => z.2.2.2 ho) (fun ho => ?_)
  walk_at "go"
  exact (q _ (E2.back s)).1 ⟨by omega, hb, hr, ho⟩
/-! ### handing of any house, any call -/
theorem Ext.swap {G G2 H H1 : Hp} (e : Ext [] G H G H1) (s : Same G2 H) : Ext [] G2 H G2 H1 := ⟨Same.refl _, s.trans e.same, e.h, e.d, fun _ => .inl rfl⟩
theorem un_call2 {sp : Sp} {rest : TS} {D : Ends} {σ : L2.St} {i j : Nat} {x y : V} (hx : σ[i]? = some (some x)) (hy : σ[j]? = some (some y)) (h : tSeq (tDrop (tCall sp [] E0 (tCons (tVar i) (tCons (tVar j) tNil)))) rest D σ H) : sp [x, y] H (fun _ H1 => rest D σ H1) E0 := by
  obtain ⟨v, e, v2, e2, q⟩ := h
  rw [hx] at e
  rw [hy] at e2
  cases e
  cases e2
  exact q
theorem un_call4 {sp : Sp} {rest : TS} {D : Ends} {σ : L2.St} {i j k l : Nat} {x y z u : V} (hx : σ[i]? = some (some x)) (hy : σ[j]? = some (some y)) (hz : σ[k]? = some (some z)) (hu : σ[l]? = some (some u)) (h : tSeq (tDrop (tCall sp [] E0 (tCons (tVar i) (tCons (tVar j) (tCons (tVar k) (tCons (tVar l) tNil)))))) rest D σ H) : sp [x, y, z, u] H (fun _ H1 => rest D σ H1) E0 := by
  obtain ⟨v, e, v2, e2, v3, e3, v4, e4, q⟩ := h
  rw [hx] at e
  rw [hy] at e2
  rw [hz] at e3
  rw [hu] at e4
  cases e
  cases e2
  cases e3
  cases e4
  exact q
def spHandingX (K : PySem.W.Frag) : Sp := fun vs H Q E => ∃ (G : Hp) (n : Int) (h ti tk la ll : Addr) (ins kept args alive : List Int) (out goal : Int), vs = [.int n, .ref h, .ref la, .int goal, .ref ll] ∧ Same G H ∧ HouseAt K G h ins out kept ti tk ∧ ins.length ≤ 60 ∧ kept.length ≤ 300 ∧
  SqL K G la (args.map V.int) ∧ SqL K G ll (alive.map V.int) ∧ args.length ≤ 300 ∧ alive.length ≤ 300 ∧
  (¬ HouseP n ins out kept → ∀ H1, Ext [] G H G H1 → E (.ref (He.ga K "BadHouse")) none H1) ∧ (HouseP n ins out kept → ¬ CallP n args goal alive → ∀ H1, Ext [] G H G H1 → E (.ref (He.ga K "BadCall")) none H1) ∧
  (HouseP n ins out kept → CallP n args goal alive → kept.length ≤ 100 ∧ alive.length ≤ 100 ∧ ∀ (p : Addr) (ts : List Addr) (G1 H1 : Hp), Ext [] G H G1 H1 → H p = none → G1 p = none → H1 p = some (.lst (ts.map V.ref)) → TsAt K G1 ts (handF ins args kept alive ++ bySwaps n.toNat (ins.zip args) ++ handL ins args kept alive goal out) → Q (.ref p) H1)
theorem pure_handingX (vs : List V) (Q : VK) (E : XK) (h : spHandingX K vs H Q E) : t_handingX K w (spCheckHouseX K) (spCheckCallX K) (spSaved K) (spBySwaps K) E { nx := fun _ H1 => Q .non H1, rt := Q } (start ["boxes", "house", "args", "goal", "alive", "ins", "out", "kept", "lead", "saved", "beyond", "steps", "box"] vs) H := by
  obtain ⟨G, n, h, ti, tk, la, ll, ins, kept, args, alive, out, goal, rfl, s, ha, l1, l2, aa, al, l3, l4, q1, q2, q3⟩ := h
  unfold t_handingX
  walk_at "go"
  refine ⟨G, n, h, ti, tk, ins, kept, out, rfl, s, ha, l1, l2, fun H1 e1 => ⟨fun hp => ?_, fun hn => q1 hn H1 e1⟩⟩
  walk_at "go"
  refine ⟨G, n, la, ll, args, alive, goal, rfl, e1.s, aa, al, l3, l4, fun H2 e2 => ⟨fun cp => ?_, fun hn => q2 hp hn H2 (e1.trans e2)⟩⟩
  have hd : Hand K G n h ti tk la ll ins kept args alive out goal := ⟨hp.1.1, hp.1.2, ha, hp.ok (q3 hp cp).1, aa, al, cp.ok (q3 hp cp).2.1⟩
  have r := pure_handing (K := K) (w := w) (H := H) [.int n, .ref h, .ref la, .int goal, .ref ll] Q E ⟨G, n, h, ti, tk, la, ll, ins, kept, args, alive, out, goal, rfl, s, hd, (q3 hp cp).2.2⟩
  have r1 := un_call2 (i := 0) (j := 1) rfl rfl r
  obtain ⟨G', _, _, _, _, _, _, _, _, s', _, _, _, _, r2⟩ := r1
  have r3 := un_call4 (i := 0) (j := 2) (k := 3) (l := 4) rfl rfl rfl rfl (r2 H1 (Ext.swap e1 s'))
  obtain ⟨G'', _, _, _, _, _, _, _, s'', _, _, _, r4⟩ := r3
  exact r4 H2 (Ext.swap e2 s'')
/-! ### called, by no house -/
def t_calledX (K : PySem.W.Frag) (w : World) (s_check_house : Sp) (E : XK) : TS :=
  (tSeq (tDrop (tCallS s_check_house (WE (fun cls d _ H => E cls d H)) (tCons (tCB (vLen K) (tCons (tVar 0) tNil)) (tCons (tVar 3) tNil))))
    (tSeq tNever
    (tSeq tNever
    (tSeq tNever
    (tSeq tNever
    (tSeq tNever
    tNever))))))
def spCalledX (K : PySem.W.Frag) : Sp := fun vs H Q E => ∃ (G : Hp) (lw h ti tk : Addr) (ws : List V) (ins kept : List Int) (out : Int) (v1 v2 v4 v5 v6 : V), vs = [.ref lw, v1, v2, .ref h, v4, v5, v6] ∧ Same G H ∧ SqL K G lw ws ∧ HouseAt K G h ins out kept ti tk ∧ ins.length ≤ 60 ∧ kept.length ≤ 300 ∧
  ¬ HouseP (ws.length : Nat) ins out kept ∧ ∀ H1, Ext [] G H G H1 → E (.ref (He.ga K "BadHouse")) none H1
theorem pure_calledX (vs : List V) (Q : VK) (E : XK) (h : spCalledX K vs H Q E) : t_calledX K w (spCheckHouseX K) E { nx := fun _ H1 => Q .non H1, rt := Q }
    (start ["worths", "pile", "steps", "house", "given", "lost", "over", "held", "laid", "seen", "calls", "number", "step", "below", "taken", "box"] vs) H := by
  obtain ⟨G, lw, h, ti, tk, ws, ins, kept, out, v1, v2, v4, v5, v6, rfl, s, hw, ha, l1, l2, nh, q⟩ := h
  unfold t_calledX
  walk_at "go"
  refine k_len (.inl (s.seq hw)) ?_
  walk_at "go"
  exact ⟨G, _, h, ti, tk, ins, kept, out, rfl, s, ha, l1, l2, fun H1 e1 => ⟨fun hp => absurd hp nh, fun _ => q H1 e1⟩⟩
end
end CH
namespace XS
open PySem PySem.Spec PyProof.Rows L2
section
variable {X : Cx}
def rSplit : V → List V → Hp → VK → Prop := fun x xs H Q => ∃ a b, x = .str a ∧ xs = [.str b] ∧ (b.length == 0) = false ∧ a.length + 2 ≤ sizeLine ∧ rNewStrs (Txt.split a b) H Q
def rPart : V → List V → Hp → VK → Prop := fun x xs H Q => ∃ a b, x = .str a ∧ xs = [.str b] ∧ (b.length == 0) = false ∧ a.length ≤ sizeLine ∧ ∀ p, H p = none → Q (.ref p) (upd H p (.tup [.str (Txt.partition a b).1, .str (Txt.partition a b).2.1, .str (Txt.partition a b).2.2]))
def rJoin (K : PySem.W.Frag) : V → List V → Hp → VK → Prop := fun x xs H Q => ∃ a p, ∃ ys : List Str, x = .str a ∧ xs = [.ref p] ∧ (SqL K H p (ys.map V.str) ∨ SqT K H p (ys.map V.str)) ∧ (ys.map (·.length)).sum + ys.length * a.length ≤ 16777216 ∧ Q (.str (Txt.join a ys)) H
def rAsc : V → List V → Hp → VK → Prop := fun x xs H Q => ∃ a, x = .str a ∧ xs = [] ∧ True ∧ Q (.bl (Txt.isascii a)) H
def rDig : V → List V → Hp → VK → Prop := fun x xs H Q => ∃ a, x = .str a ∧ xs = [] ∧ True ∧ Q (.bl (Txt.isdigit a)) H
def rSw : V → List V → Hp → VK → Prop := fun x xs H Q => ∃ a b, x = .str a ∧ xs = [.str b] ∧ Q (.bl (Txt.startswith a b)) H
theorem pe_split {o e : Expr} {to te : TE} {apos pos : Pos} (ho : PE X o to) (he : PE X e te) (hs : starEach [e] X.env = [(false, eval e X.env)] := by rfl) (hbase : attributeBase o "split" X.env (eval o X.env) = eval o X.env := by rfl) (hline : (apos.endLine == pos.line) = true := by rfl) :
    PE X (.Call (.Attribute o "split" apos) [e] [] pos) (tM1 rSplit to te) := L2.pe_split ho he hs hbase hline
theorem pe_part {o e : Expr} {to te : TE} {apos pos : Pos} (ho : PE X o to) (he : PE X e te) (hs : starEach [e] X.env = [(false, eval e X.env)] := by rfl) (hbase : attributeBase o "partition" X.env (eval o X.env) = eval o X.env := by rfl) (hline : (apos.endLine == pos.line) = true := by rfl) :
    PE X (.Call (.Attribute o "partition" apos) [e] [] pos) (tM1 rPart to te) := L2.pe_partition ho he hs hbase hline
theorem pe_join {o e : Expr} {to te : TE} {apos pos : Pos} (ho : PE X o to) (he : PE X e te) (hs : starEach [e] X.env = [(false, eval e X.env)] := by rfl) (hbase : attributeBase o "join" X.env (eval o X.env) = eval o X.env := by rfl) (hline : (apos.endLine == pos.line) = true := by rfl) :
    PE X (.Call (.Attribute o "join" apos) [e] [] pos) (tM1 (rJoin X.K) to te) := L2.pe_join ho he hs hbase hline
theorem pe_asc {o : Expr} {to : TE} {apos pos : Pos} (ho : PE X o to) (hbase : attributeBase o "isascii" X.env (eval o X.env) = eval o X.env := by rfl) (hline : (apos.endLine == pos.line) = true := by rfl) :
    PE X (.Call (.Attribute o "isascii" apos) [] [] pos) (tM0 rAsc to) := pe_m0 F.slot_str_isascii F.type_str_isascii mt_isascii ho hbase hline
theorem pe_dig {o : Expr} {to : TE} {apos pos : Pos} (ho : PE X o to) (hbase : attributeBase o "isdigit" X.env (eval o X.env) = eval o X.env := by rfl) (hline : (apos.endLine == pos.line) = true := by rfl) :
    PE X (.Call (.Attribute o "isdigit" apos) [] [] pos) (tM0 rDig to) := pe_m0 F.slot_str_isdigit F.type_str_isdigit mt_isdigit ho hbase hline
theorem pe_sw {o e : Expr} {to te : TE} {apos pos : Pos} (ho : PE X o to) (he : PE X e te) (hs : starEach [e] X.env = [(false, eval e X.env)] := by rfl) (hbase : attributeBase o "startswith" X.env (eval o X.env) = eval o X.env := by rfl) (hline : (apos.endLine == pos.line) = true := by rfl) :
    PE X (.Call (.Attribute o "startswith" apos) [e] [] pos) (tM1 rSw to te) := pe_m1 F.slot_str_startswith F.type_str_startswith mt_startswith ho he hs hbase hline
def rLenS : List V → Hp → VK → Prop := fun xs H Q => ∃ z, xs = [.str z] ∧ z.length ≤ sizeLine ∧ Q (.int z.length) H
def rNinSign : R2 := fun x y H Q => ∃ (c : Nat) (z : Str), x = .str ⟨#[c]⟩ ∧ y = .str z ∧ Q (.bl (!decide (c ∈ z.cps.toList))) H
theorem op_ninSign : OpR X (compareOp .NotIn) rNinSign := op_notIn_sign
def rStrI : List V → Hp → VK → Prop := fun xs H Q => ∃ i : Int, xs = [.int i] ∧ i.natAbs.log2 < 1920 ∧ Q (.str (toString i)) H
theorem call_strI : CallR X (.type "str") rStrI := call_str_int
def rIntS : List V → Hp → VK → Prop := fun xs H Q => ∃ a n, xs = [.str a] ∧ PySem.intText? a = some n ∧ a.length ≤ 640 ∧ Q (.int n) H
theorem call_intS : CallR X (.type "int") rIntS := call_int_str
/-- f'..' -/
def tF (ts : List TE) : TE := fun σ H Q => tJs ts Str.empty σ H fun out H1 => Q (.str out) H1
theorem pe_f {v1 v2 : Expr} {rest : List Expr} {ts : List TE} {pos : Pos} (h : PJ X (v1 :: v2 :: rest) ts) : PE X (.JoinedStr (v1 :: v2 :: rest) pos) (tF ts) := pe_joined h
end
end XS
namespace CT
open PySem PySem.Spec PyProof.Rows L2 MV CX
section
variable {K : PySem.W.Frag} {w : World} {H : Hp}
/-! ### the table of the law's lambdas -/
structure Tb (Pt : Addr) (G H : Hp) : Prop where
  g : G Pt = none
  t : LamX.TabS H Pt EX.qlaw
theorem Tb.ext {M : List Addr} {Pt c a : Addr} {G H G1 H1 : Hp} (b : Tb Pt G H) (e : Ext M G H G1 H1) (st : Stt c a H) (hM : ∀ m, m ∈ M → m = a) : Tb Pt G1 H1 := by
  obtain ⟨i, m, r, ha, _⟩ := st
  obtain ⟨ps, h1, h2, h3⟩ := b.t
  have nPa : Pt ≠ a := fun z => by rw [z, ha] at h1; cases h1
  have k1 : H1 Pt = some (.tbl ps) := e.keep h1 fun z => nPa (hM _ z)
  refine ⟨e.un b.g h1, ps, k1, h2, fun pos cv hc => ?_⟩
  obtain ⟨cc, e1, e2⟩ := h3 pos cv hc
  refine ⟨cc, e1, e.keep e2 fun z => ?_⟩
  rw [hM _ z, ha] at e2
  exact absurd (Option.some.inj e2) (fun z => by unfold LamX.CodeO at z; cases z)
theorem Ext.lam {M : List Addr} {Pt : Addr} {G H H1 : Hp} (s : Same G H) (m : Pt ∈ M) (b : Tb Pt G H) (but : EX.ButP Pt H H1) (t1 : LamX.TabS H1 Pt EX.qlaw) : Ext M G H G H1 ∧ Tb Pt G H1 :=
  ⟨⟨Same.refl _, fun x o e => but.st x o (fun z => by rw [z, b.g] at e; cases e) (s x o e), fun x o nm e => but.st x o (fun z => nm (by rw [z]; exact m)) e, but.no, fun x => .inl rfl⟩, b.g, t1⟩
theorem Dr.lam {Pt c a : Addr} {ns : List Int} {G H H1 : Hp} (d : Dr K c a ns G H) (b : Tb Pt G H) (but : EX.ButP Pt H H1) (s : Same G H1) : Dr K c a ns G H1 := by
  obtain ⟨i, m, r, ha, z⟩ := d.st
  obtain ⟨ps, h1, _⟩ := b.t
  exact ⟨s, d.g, ⟨i, m, r, but.st a _ (fun z => by rw [z, h1] at ha; cases ha) ha, z⟩, d.sc⟩
theorem push {c a Pt p : Addr} {ns : List Int} {G H : Hp} (d : Dr K c a ns G H) (b : Tb Pt G H) (o : HO) (n : H p = none) : ∃ G1 H1, G1 = upd G p o ∧ H1 = upd H p o ∧ Ext [] G H G1 H1 ∧ Dr K c a ns G1 H1 ∧ Tb Pt G1 H1 ∧ G1 p = some o :=
  ⟨_, _, rfl, rfl, (Ext.refl d.s).new n, d.new n, b.ext ((Ext.refl (M := []) d.s).new n) d.st (fun m h => nomatch h), upd_same⟩
theorem same_ext {M : List Addr} {G H H1 : Hp} (s : Same G H) (k : Same H H1) : Ext M G H G H1 := by
  refine ⟨Same.refl _, s.trans k, fun b o _ e => k b o e, fun b e => ?_, fun b => .inl rfl⟩
  cases z : H b with
  | none => rfl
  | some o => rw [k b o z] at e; cases e
theorem TBad {k : Nat} {dd c a Pt : Addr} {ns : List Int} {G H0 G1 H1 H2 : Hp} {R : VK} (e1 : Ext [Pt] G H0 G1 H1) (d1 : Dr K c a ns G1 H1) (b1 : Tb Pt G1 H1) (e2 : Ext [] G1 H1 G1 H2) (ndd : H2 dd = none)
    (q : ∀ p H3, Ext [Pt] G H0 G1 H3 → Tb Pt G1 H3 → Dr K c a ns G1 H3 → H3 p = some (.tup [.str "BadMove", .int (k : Nat)]) → R (.ref p) H3) : EX.KindE K (.ref (He.ga K "BadMove")) (some dd) (upd H2 dd (.xd [("number", .int (k : Nat))])) R := by
  refine ⟨"BadMove", by decide, rfl, .inr ⟨"number", dd, (k : Nat), .inl ⟨rfl, rfl⟩, rfl, upd_same, fun H3 p s3 hp => ?_⟩⟩
  have b2 := b1.ext e2 d1.st (fun m h => nomatch h)
  have d2 := d1.pure e2 (by simp)
  have e3 := (Ext.refl (M := []) d2.s).tmp (o := .xd [("number", .int (k : Nat))]) ndd
  have b3 := b2.ext e3 d2.st (fun m h => nomatch h)
  have d3 := d2.tmp (o := .xd [("number", .int (k : Nat))]) ndd
  have e4 := same_ext (M := []) d3.s s3
  exact q p H3 (((e1.trans e2.to).trans e3.to).trans e4.to) (b3.ext e4 d3.st (fun m h => nomatch h)) (d3.pure e4 (by simp)) hp
/-- a plain refusal, told by the law's reader -/
theorem TPlain {x : Str} {c a Pt : Addr} {ns : List Int} {G H0 G1 H1 H2 : Hp} {R : VK} (hx : x ∈ EX.kinds8) (n1 : x ≠ "BadMove") (n2 : x ≠ "BadText") (e1 : Ext [Pt] G H0 G1 H1) (d1 : Dr K c a ns G1 H1) (b1 : Tb Pt G1 H1) (e2 : Ext [] G1 H1 G1 H2)
    (q : ∀ H3, Ext [Pt] G H0 G1 H3 → Tb Pt G1 H3 → Dr K c a ns G1 H3 → R (.str x) H3) : EX.KindE K (.ref (He.ga K x)) none H2 R := by
  refine ⟨x, hx, rfl, .inl ⟨n1, n2, rfl, fun H3 s3 => ?_⟩⟩
  have b2 := b1.ext e2 d1.st (fun m h => nomatch h)
  have d2 := d1.pure e2 (by simp)
  have e4 := same_ext (M := []) d2.s s3
  exact q H3 ((e1.trans e2.to).trans e4.to) (b2.ext e4 d2.st (fun m h => nomatch h)) (d2.pure e4 (by simp))
theorem law_start {c a Pt : Addr} {ns : List Int} {H1 : Hp} (hx : SqL K H c (ns.map V.int)) (h63 : ns.length ≤ 63) (hP : H Pt = some (.tbl #[])) (na : H a = none) (sa : Same H H1) (st : Stt c a H1) : ∃ G0, Dr K c a ns G0 H1 ∧ Tb Pt G0 H1 := by
  have nPa : Pt ≠ a := fun z => by rw [z, na] at hP; cases hP
  have hx0 : SqL K (fun b => if b = Pt then none else H b) c (ns.map V.int) := by
    rcases hx with (h | ⟨o, h⟩) | h
    · have n : c ≠ Pt := fun z => by rw [z, hP] at h; cases h
      exact .inl (.inl (by show (if c = Pt then none else H c) = _; rw [if_neg n]; exact h))
    · have n : c ≠ Pt := fun z => by rw [z, hP] at h; cases h
      exact .inl (.inr ⟨o, by show (if c = Pt then none else H c) = _; rw [if_neg n]; exact h⟩)
    · exact .inr h
  have s0 : Same (fun b => if b = Pt then none else H b) H1 := fun b o e => by
    have e' : (if b = Pt then none else H b) = some o := e
    by_cases z : b = Pt
    · rw [if_pos z] at e'; cases e'
    · rw [if_neg z] at e'; exact sa b o e'
  exact ⟨_, ⟨s0, by show (if a = Pt then none else H a) = none; rw [if_neg nPa.symm]; exact na, st, ⟨hx0, h63⟩⟩, ⟨if_pos rfl, LamX.TabS.nil (sa _ _ hP)⟩⟩
/-- steps that write the state alone, and the table -/
theorem Ext.wa {a Pt : Addr} {G H G1 H1 : Hp} (e : Ext [a] G H G1 H1) : Ext [a, Pt] G H G1 H1 := e.wide fun x hx => by rw [List.mem_singleton.mp hx]; exact List.mem_cons_self ..
theorem Ext.wp {a Pt : Addr} {G H G1 H1 : Hp} (e : Ext [Pt] G H G1 H1) : Ext [a, Pt] G H G1 H1 := e.wide fun x hx => by rw [List.mem_singleton.mp hx]; exact List.mem_cons_of_mem _ (List.mem_cons_self ..)
theorem Tb.step {Pt c a : Addr} {ns : List Int} {G H G1 H1 : Hp} (b : Tb Pt G H) (d : Dr K c a ns G H) (e : Ext [a] G H G1 H1) : Tb Pt G1 H1 := b.ext e d.st fun m h => List.mem_singleton.mp h
theorem Tb.step0 {Pt c a : Addr} {ns : List Int} {G H G1 H1 : Hp} (b : Tb Pt G H) (d : Dr K c a ns G H) (e : Ext [] G H G1 H1) : Tb Pt G1 H1 := b.ext e d.st fun m h => nomatch h
theorem Tb.lam {Pt : Addr} {G H H1 : Hp} (s : Same G H) (b : Tb Pt G H) (but : EX.ButP Pt H H1) (t1 : LamX.TabS H1 Pt EX.qlaw) : Ext [Pt] G H G H1 ∧ Tb Pt G H1 := Ext.lam s (List.mem_singleton.mpr rfl) b but t1
theorem Tb.ne {Pt p : Addr} {G H : Hp} (b : Tb Pt G H) (n : H p = none) : Pt ≠ p := fun z => by
  obtain ⟨ps, h, _⟩ := b.t
  rw [z, n] at h
  cases h
end
end CT
namespace CW
open PySem PySem.Spec PyProof.Rows L2 MV CX CP CD
local macro_rules | `(tactic| walk_at "go") => `(tactic| repeat (first
  | with_reducible refine MV.k_seq ?_ | with_reducible refine MV.k_asg ?_ | with_reducible refine MV.k_name ?_ | with_reducible refine MV.k_op ?_ | ((with_reducible apply MV.k_var); exact rfl) | with_reducible refine MV.k_c ?_
  | with_reducible refine MV.k_add ?_ | with_reducible refine MV.k_sub ?_ | with_reducible refine MV.k_lt ?_ | with_reducible refine MV.k_le ?_ | with_reducible refine MV.k_gt ?_ | with_reducible refine MV.k_ge ?_ | with_reducible refine MV.k_eqI ?_ | with_reducible refine MV.k_neI ?_
  | with_reducible refine MV.k_test ?_ | with_reducible refine MV.k_B ?_ | with_reducible refine MV.k_bl ?_ | with_reducible refine MV.k_blV ?_ | with_reducible refine MV.k_and ?_ | with_reducible refine MV.k_or ?_ | with_reducible refine MV.k_not ?_ | with_reducible refine MV.k_andV ?_ | with_reducible refine MV.k_orV ?_ | with_reducible refine MV.k_notV ?_
  | with_reducible refine MV.k_if ?_ | with_reducible refine MV.k_tru ?_ | with_reducible refine MV.k_chain ?_ | with_reducible refine MV.k_next ?_ | with_reducible refine MV.k_drop ?_ | with_reducible refine MV.k_ret ?_ | with_reducible refine MV.k_retN ?_ | with_reducible refine MV.k_ifS ?_ | with_reducible refine MV.k_brk ?_ | with_reducible refine MV.k_cont ?_
  | with_reducible refine MV.k_nil ?_ | with_reducible refine MV.k_cons ?_ | with_reducible refine MV.k_tup ?_ | with_reducible refine MV.k_lst ?_ | with_reducible refine MV.k_cb ?_ | with_reducible refine MV.k_call ?_ | with_reducible refine MV.k_gnil ?_ | with_reducible refine MV.k_gcons ?_ | with_reducible refine MV.k_gsub ?_
  | with_reducible refine MV.k_bm ?_ | with_reducible refine MV.k_bm0 ?_ | with_reducible refine MV.k_un ?_ | with_reducible refine MV.k_neg ?_ | with_reducible refine MV.k_isN ?_ | with_reducible refine MV.k_notN ?_ | with_reducible refine L2.iteT ?_ | with_reducible refine L2.iteF ?_
  | with_reducible refine MV.k_iList ?_ | with_reducible refine MV.k_iTup ?_ | with_reducible refine MV.k_iRng1 ?_ | with_reducible refine MV.k_lc ?_ | with_reducible refine MV.k_for ?_
  | with_reducible refine MV.k_yes ?_ | with_reducible refine MV.k_dput ?_ | with_reducible refine MV.k_dget ?_ | with_reducible refine MV.k_dget1 ?_ | with_reducible refine MV.k_sl ?_ | with_reducible refine MV.k_nopart ?_ | with_reducible refine MV.k_part ?_ | with_reducible refine MV.k_pint ?_ | with_reducible refine MV.k_dnew ?_ | with_reducible refine MV.k_lstRg ?_ | with_reducible refine MV.k_rg1 ?_
  | with_reducible refine CX.k_callS ?_ | with_reducible refine CX.k_iEnum ?_))
open PySem.NumText TL
/-! ### texts as rows of signs -/
theorem lt_tl (t : Str) : t.length = (tl t).length := len_tl t
theorem spl_sum (s : Nat) : ∀ (l acc : List Nat), ((spl [s] 0 acc l).map fun p => p.length + 1).sum = acc.length + l.length + 1
  | [], acc => by rw [spl_nil]; simp
  | c :: r, acc => by
    cases h : pre [s] (c :: r) with
    | true =>
      rw [spl_hit h]
      show ((acc.length + 1) + ((spl [s] 0 [] r).map fun p => p.length + 1).sum) = _
      rw [spl_sum s r []]
      simp; omega
    | false =>
      rw [spl_miss h, spl_sum s r]
      simp; omega
theorem spl_mem (s : Nat) : ∀ (l acc : List Nat) (p : List Nat), p ∈ spl [s] 0 acc l → ∀ c, c ∈ p → c ∈ acc ∨ c ∈ l
  | [], acc, p, hp, c, hc => by rw [spl_nil, List.mem_singleton] at hp; subst hp; exact .inl hc
  | d :: r, acc, p, hp, c, hc => by
    cases h : pre [s] (d :: r) with
    | true =>
      rw [spl_hit h] at hp
      rcases List.mem_cons.mp hp with rfl | hp
      · exact .inl hc
      · rcases spl_mem s r [] p hp c hc with z | z
        · cases z
        · exact .inr (List.mem_cons_of_mem _ z)
    | false =>
      rw [spl_miss h] at hp
      rcases spl_mem s r _ p hp c hc with z | z
      · rcases List.mem_append.mp z with z | z
        · exact .inl z
        · rw [List.mem_singleton] at z; subst z; exact .inr (List.mem_cons_self ..)
      · exact .inr (List.mem_cons_of_mem _ z)
theorem spl_ne (s : Nat) (l acc : List Nat) : spl [s] 0 acc l ≠ [] := fun z => by
  have := spl_sum s l acc
  rw [z] at this
  simp at this
theorem sum_ge {α : Type} (f : α → Nat) : ∀ (l : List α) (x : α), x ∈ l → f x ≤ (l.map f).sum
  | y :: r, x, h => by
    rw [List.map_cons, List.sum_cons]
    rcases List.mem_cons.mp h with rfl | h
    · omega
    · have := sum_ge f r x h; omega
theorem sum_cut {α : Type} (f : α → Nat) (l : List α) (k : Nat) (h : k < l.length) : ((l.take k).map f).sum + f l[k] + ((l.drop (k + 1)).map f).sum = (l.map f).sum := by
  have e : l = l.take k ++ l[k] :: l.drop (k + 1) := by rw [← List.drop_eq_getElem_cons h, List.take_append_drop]
  have e2 := congrArg (fun z => (z.map f).sum) e
  rw [e2, List.map_append, List.sum_append, List.map_cons, List.sum_cons]
  omega
def tBl : Str := " "
def tLt : Str := "<"
theorem tl_bl : tl (" " : Str) = [32] := by rw [tl_ofString]; rfl
theorem tl_lt : tl ("<" : Str) = [60] := by rw [tl_ofString]; rfl
theorem tl_zero : tl ("0" : Str) = [48] := by rw [tl_ofString]; rfl
theorem split_bl (t : Str) : (Txt.split t " ").map tl = spl [32] 0 [] (tl t) := by
  have := split_spl t " " (by rw [tl_bl]; simp) (kind_ok (by decide +kernel))
  rw [tl_bl] at this
  exact this
theorem split_lt (t : Str) : (Txt.split t "<").map tl = spl [60] 0 [] (tl t) := by
  have := split_spl t "<" (by rw [tl_lt]; simp) (kind_ok (by decide +kernel))
  rw [tl_lt] at this
  exact this
/-! ### numbers -/
def digB (c : Nat) : Bool := decide (48 ≤ c) && decide (c ≤ 57)
def noZero (l : List Nat) : Bool := decide (l = [48]) || !decide (l.head? = some 48)
def numL3 (l : List Nat) : Bool := l.all digB && (decide (l ≠ []) && (decide (l.length ≤ 3) && noZero l))
def valT (w : Str) : Int := ((digitsVal (tl w) : Nat) : Int)
def numB (w : Str) : Bool := numL3 (tl w)
theorem all_dig {l : List Nat} (h : l.all digB = true) : AllDigits l := fun c hc => by
  have := List.all_eq_true.mp h c hc
  obtain ⟨a, b⟩ := Bool.and_eq_true_iff.mp this
  exact ⟨of_decide_eq_true a, of_decide_eq_true b⟩
theorem dig_all {l : List Nat} (h : AllDigits l) : l.all digB = true := List.all_eq_true.mpr fun c hc => by
  unfold digB
  rw [decide_eq_true (h c hc).1, decide_eq_true (h c hc).2]; rfl
theorem ascii_dig : ∀ c, c < 128 → Unicode.isDigit c = digB c := by decide +kernel
theorem num_back {l : List Nat} (h : AllDigits l) (hne : l ≠ []) (h3 : l.length ≤ 3) : numL (digitsVal l) = l ↔ noZero l = true := by
  unfold noZero
  rcases l with _ | ⟨a, _ | ⟨b, _ | ⟨c, _ | ⟨d, r⟩⟩⟩⟩
  · exact absurd rfl hne
  · have ha := h a (by simp)
    have v : digitsVal [a] = a - 48 := by show 0 * 10 + (a - 48) = _; omega
    rw [v, numL_lt (by omega)]
    constructor
    · intro _
      by_cases z : a = 48
      · subst z; rfl
      · simp [z]
    · intro _
      rw [show 48 + (a - 48) = a by omega]
  · have ha := h a (by simp)
    have hb := h b (by simp)
    have v : digitsVal [a, b] = (a - 48) * 10 + (b - 48) := by show (0 * 10 + (a - 48)) * 10 + (b - 48) = _; omega
    by_cases z : a = 48
    · subst z
      rw [v, show (48 - 48) * 10 + (b - 48) = b - 48 by omega, numL_lt (by omega)]
      constructor
      · intro e; have := congrArg List.length e; simp at this
      · intro e; simp at e
    · rw [v, numL_step (by omega), show ((a - 48) * 10 + (b - 48)) / 10 = a - 48 by omega, numL_lt (by omega), show ((a - 48) * 10 + (b - 48)) % 10 = b - 48 by omega, show 48 + (a - 48) = a by omega, show 48 + (b - 48) = b by omega]
      simp [z]
  · have ha := h a (by simp)
    have hb := h b (by simp)
    have hc := h c (by simp)
    have v : digitsVal [a, b, c] = (a - 48) * 100 + (b - 48) * 10 + (c - 48) := by show ((0 * 10 + (a - 48)) * 10 + (b - 48)) * 10 + (c - 48) = _; omega
    by_cases z : a = 48
    · subst z
      rw [v]
      have len : (numL ((48 - 48) * 100 + (b - 48) * 10 + (c - 48))).length ≤ 2 := numL_len (by decide) (by omega)
      constructor
      · intro e; rw [e] at len; simp at len
      · intro e; simp at e
    · rw [v, numL_step (by omega), show ((a - 48) * 100 + (b - 48) * 10 + (c - 48)) / 10 = (a - 48) * 10 + (b - 48) by omega, numL_step (by omega), show ((a - 48) * 10 + (b - 48)) / 10 = a - 48 by omega, numL_lt (by omega),
        show ((a - 48) * 10 + (b - 48)) % 10 = b - 48 by omega, show ((a - 48) * 100 + (b - 48) * 10 + (c - 48)) % 10 = c - 48 by omega, show 48 + (a - 48) = a by omega, show 48 + (b - 48) = b by omega, show 48 + (c - 48) = c by omega]
      simp [z]
  · rw [List.length_cons, List.length_cons, List.length_cons, List.length_cons] at h3; omega
theorem str_val (w : Str) : (toString (valT w) : Str) = w ↔ numL (digitsVal (tl w)) = tl w := by
  have e : tl (toString (valT w) : Str) = numL (digitsVal (tl w)) := tl_num _
  constructor
  · intro h; rw [← e, h]
  · intro h; exact ext_tl (e.trans h)
/-- the law's number: by signs, and written again -/
theorem law_num {w : Str} (hd : (tl w).all digB = true) (hne : tl w ≠ []) (h3 : (tl w).length ≤ 3) : decide ((toString (valT w) : Str) = w) = numB w := by
  have a := num_back (all_dig hd) hne h3
  unfold numB numL3
  rw [hd, decide_eq_true hne, decide_eq_true h3, Bool.true_and, Bool.true_and, Bool.true_and]
  cases hz : noZero (tl w) with
  | true => exact decide_eq_true ((str_val w).mpr (a.mpr hz))
  | false =>
    refine decide_eq_false fun z => ?_
    have := a.mp ((str_val w).mp z)
    rw [hz] at this
    cases this
theorem int_val {w : Str} (h : numB w = true) : intText? w = some (valT w) := by
  obtain ⟨a, b⟩ := Bool.and_eq_true_iff.mp h
  obtain ⟨b, c⟩ := Bool.and_eq_true_iff.mp b
  obtain ⟨c, _⟩ := Bool.and_eq_true_iff.mp c
  have h3 := of_decide_eq_true c
  exact intText_digits (all_dig a) (of_decide_eq_true b) (by rw [lt_tl]; omega)
theorem int_digs {w : Str} (hd : (tl w).all digB = true) (hne : tl w ≠ []) (h3 : (tl w).length ≤ 3) : intText? w = some (valT w) :=
  intText_digits (all_dig hd) hne (by rw [lt_tl]; omega)
/-- the program's test of a number -/
theorem prog_num (w : Str) : numB w = (Txt.isascii w && (Txt.isdigit w && (decide (w.length ≤ 3) && (decide (w = "0") || !Txt.startswith w "0")))) := by
  have ea : Txt.isascii w = (tl w).all fun c => decide (c < 128) := by
    show w.cps.all _ = _
    rw [← Array.all_toList]
  have ed : Txt.isdigit w = (decide (tl w ≠ []) && (tl w).all Unicode.isDigit) := by
    show (decide (w.length > 0) && w.cps.all Unicode.isDigit) = _
    rw [← Array.all_toList, lt_tl]
    congr 1
    cases tl w with
    | nil => rfl
    | cons c r => simp
  have es : Txt.startswith w "0" = decide ((tl w).head? = some 48) := by
    show (decide (0 + ("0" : Str).length ≤ w.length) && PySem.Builtin.Str.subAt w "0" 0) = _
    rw [PySem.StrLaws.subAt_eq, show ("0" : Str).length = 1 by rw [lt_tl, tl_zero]; rfl, lt_tl]
    show (decide (0 + 1 ≤ (tl w).length) && (((tl w).drop 0).take 1 == tl ("0" : Str))) = _
    rw [tl_zero]
    cases tl w with
    | nil => rfl
    | cons c r =>
      show (decide (0 + 1 ≤ r.length + 1) && ([c] == [48])) = decide (some c = some 48)
      rw [decide_eq_true (by omega), Bool.true_and]
      by_cases z : c = 48
      · subst z; rfl
      · rw [beq_eq_false_iff_ne.mpr (by simp; exact z), decide_eq_false (by simp; exact z)]
  have e0 : decide (w = "0") = decide (tl w = [48]) := by
    by_cases z : w = "0"
    · rw [decide_eq_true z, z, tl_zero]; rfl
    · rw [decide_eq_false z, decide_eq_false fun y => z (ext_tl (y.trans tl_zero.symm))]
  rw [ea, ed, es, e0, lt_tl]
  unfold numB numL3 noZero
  by_cases hasc : (tl w).all (fun c => decide (c < 128)) = true
  · have e : (tl w).all Unicode.isDigit = (tl w).all digB := by
      have all : ∀ c ∈ tl w, c < 128 := fun c hc => of_decide_eq_true (List.all_eq_true.mp hasc c hc)
      revert all
      generalize tl w = l
      intro all
      induction l with
      | nil => rfl
      | cons c r ih =>
        rw [List.all_cons, List.all_cons, ascii_dig c (all c (by simp)), ih fun d hd => all d (List.mem_cons_of_mem _ hd)]
    rw [hasc, e, Bool.true_and]
    cases (tl w).all digB <;> cases decide (tl w ≠ []) <;> rfl
  · have hd : (tl w).all digB = false := by
      cases h : (tl w).all digB with
      | false => rfl
      | true => exact absurd (List.all_eq_true.mpr fun c hc => decide_eq_true (by have := all_dig h c hc; omega)) hasc
    rw [hd, Bool.eq_false_iff.mpr hasc, Bool.false_and, Bool.false_and]
/-! ### words -/
def wordP (w : Str) : Option (Int × Int) := if (numB (Txt.partition w "<").1 && numB (Txt.partition w "<").2.2) = true then some (valT (Txt.partition w "<").1, valT (Txt.partition w "<").2.2) else none
theorem cut_at {l : List Nat} (h : 60 ∈ l) : ∃ p r, l = p ++ 60 :: r ∧ 60 ∉ p := by
  induction l with
  | nil => cases h
  | cons c l ih =>
    by_cases z : c = 60
    · subst z; exact ⟨[], l, rfl, by simp⟩
    · obtain ⟨p, r, e, hp⟩ := ih ((List.mem_cons.mp h).resolve_left (fun y => z y.symm))
      exact ⟨c :: p, r, by rw [e]; rfl, fun y => (List.mem_cons.mp y).elim (fun q => z q.symm) hp⟩
theorem no_dig {l : List Nat} (h : 60 ∈ l) : numL3 l = false := by
  unfold numL3
  have : l.all digB = false := by
    cases e : l.all digB with
    | false => rfl
    | true => have := all_dig e 60 h; omega
  rw [this]; rfl
/-- a word by its parts -/
theorem word_parts (w : Str) : (∃ a b, Txt.split w "<" = [a, b] ∧ wordP w = if (numB a && numB b) = true then some (valT a, valT b) else none) ∨ ((Txt.split w "<").length ≠ 2 ∧ wordP w = none) := by
  have sp := split_lt w
  have pp := partition_par w "<" (by rw [tl_lt]; simp)
  rw [tl_lt] at pp
  by_cases h : 60 ∈ tl w
  · obtain ⟨p, r, e, hp⟩ := cut_at h
    have ep : par [60] [] (tl w) = some (p, r) := by
      rw [e]
      have := par_part1 (S := []) (rest := r) (acc := []) hp
      exact this
    have es : spl [60] 0 [] (tl w) = p :: spl [60] 0 [] r := by
      rw [e]
      have := spl_part1 (S := []) (rest := r) (acc := []) hp
      exact this
    rw [ep] at pp
    have pp' : Txt.partition w "<" = ((⟨p.toArray⟩ : Str), ("<" : Str), (⟨r.toArray⟩ : Str)) := pp
    rw [es] at sp
    by_cases hr : 60 ∈ r
    · refine .inr ⟨fun z => ?_, ?_⟩
      · have l := congrArg List.length sp
        rw [List.length_map, z, List.length_cons] at l
        obtain ⟨p2, r2, e2, hp2⟩ := cut_at hr
        have es2 : spl [60] 0 [] r = p2 :: spl [60] 0 [] r2 := by
          rw [e2]
          exact spl_part1 (S := []) (rest := r2) (acc := []) hp2
        rw [es2, List.length_cons] at l
        have := List.length_pos_iff.mpr (spl_ne 60 r2 [])
        omega
      · unfold wordP
        rw [pp']
        have : numB (⟨r.toArray⟩ : Str) = false := no_dig hr
        rw [if_neg (by dsimp only; rw [this, Bool.and_false]; exact Bool.false_ne_true)]
    · have es2 : spl [60] 0 [] r = [r] := by
        have := spl_last1 (s := 60) (S := []) (acc := []) hr
        exact this
      rw [es2] at sp
      have e3 : Txt.split w "<" = [⟨p.toArray⟩, ⟨r.toArray⟩] := map_tl_inj sp
      refine .inl ⟨_, _, e3, ?_⟩
      unfold wordP
      rw [pp']
  · have ep : par [60] [] (tl w) = none := par_none1 (S := []) h
    have es : spl [60] 0 [] (tl w) = [tl w] := by
      have := spl_last1 (s := 60) (S := []) (acc := []) h
      exact this
    rw [ep] at pp
    have pp' : Txt.partition w "<" = (w, Str.empty, Str.empty) := pp
    rw [es] at sp
    refine .inr ⟨fun z => ?_, ?_⟩
    · have l := congrArg List.length sp
      rw [List.length_map, z] at l
      cases l
    · unfold wordP
      rw [pp']
      have : numB Str.empty = false := rfl
      rw [if_neg (by dsimp only; rw [this, Bool.and_false]; exact Bool.false_ne_true)]
end CW
namespace CW
open PySem PySem.Spec PyProof.Rows L2 MV CX CP CD
local macro_rules | `(tactic| walk_at "go") => `(tactic| repeat (first
  | with_reducible refine MV.k_seq ?_ | with_reducible refine MV.k_asg ?_ | with_reducible refine MV.k_name ?_ | with_reducible refine MV.k_op ?_ | ((with_reducible apply MV.k_var); exact rfl) | with_reducible refine MV.k_c ?_
  | with_reducible refine MV.k_add ?_ | with_reducible refine MV.k_sub ?_ | with_reducible refine MV.k_lt ?_ | with_reducible refine MV.k_le ?_ | with_reducible refine MV.k_gt ?_ | with_reducible refine MV.k_ge ?_ | with_reducible refine MV.k_eqI ?_ | with_reducible refine MV.k_neI ?_
  | with_reducible refine MV.k_test ?_ | with_reducible refine MV.k_B ?_ | with_reducible refine MV.k_bl ?_ | with_reducible refine MV.k_blV ?_ | with_reducible refine MV.k_and ?_ | with_reducible refine MV.k_or ?_ | with_reducible refine MV.k_not ?_ | with_reducible refine MV.k_andV ?_ | with_reducible refine MV.k_orV ?_ | with_reducible refine MV.k_notV ?_
  | with_reducible refine MV.k_if ?_ | with_reducible refine MV.k_tru ?_ | with_reducible refine MV.k_chain ?_ | with_reducible refine MV.k_next ?_ | with_reducible refine MV.k_drop ?_ | with_reducible refine MV.k_ret ?_ | with_reducible refine MV.k_retN ?_ | with_reducible refine MV.k_ifS ?_ | with_reducible refine MV.k_brk ?_ | with_reducible refine MV.k_cont ?_
  | with_reducible refine MV.k_nil ?_ | with_reducible refine MV.k_cons ?_ | with_reducible refine MV.k_tup ?_ | with_reducible refine MV.k_lst ?_ | with_reducible refine MV.k_cb ?_ | with_reducible refine MV.k_call ?_ | with_reducible refine MV.k_gnil ?_ | with_reducible refine MV.k_gcons ?_ | with_reducible refine MV.k_gsub ?_
  | with_reducible refine MV.k_bm ?_ | with_reducible refine MV.k_bm0 ?_ | with_reducible refine MV.k_un ?_ | with_reducible refine MV.k_neg ?_ | with_reducible refine MV.k_isN ?_ | with_reducible refine MV.k_notN ?_ | with_reducible refine L2.iteT ?_ | with_reducible refine L2.iteF ?_
  | with_reducible refine MV.k_iList ?_ | with_reducible refine MV.k_iTup ?_ | with_reducible refine MV.k_iRng1 ?_ | with_reducible refine MV.k_lc ?_ | with_reducible refine MV.k_for ?_
  | with_reducible refine MV.k_yes ?_ | with_reducible refine MV.k_dput ?_ | with_reducible refine MV.k_dget ?_ | with_reducible refine MV.k_dget1 ?_ | with_reducible refine MV.k_sl ?_ | with_reducible refine MV.k_nopart ?_ | with_reducible refine MV.k_part ?_ | with_reducible refine MV.k_pint ?_ | with_reducible refine MV.k_dnew ?_ | with_reducible refine MV.k_lstRg ?_ | with_reducible refine MV.k_rg1 ?_
  | with_reducible refine CX.k_callS ?_ | with_reducible refine CX.k_iEnum ?_))
open TL PySem.NumText
def t_is_number (K : PySem.W.Frag) (w : World) : TS :=
  (tSeq (tIfS (tOr (tNot (tB (tM0 XS.rAsc (tVar 0)))) (tOr (tNot (tB (tM0 XS.rDig (tVar 0)))) (tTest (tOp vGt (tCB XS.rLenS (tCons (tVar 0) tNil)) (tC (.int 3)))))) (tRet (tC (.bl false))) tNext)
    (tRet (tOrV (tOp rEq (tVar 0) (tC (.str "0"))) (tNotV (tM1 XS.rSw (tVar 0) (tC (.str "0")))))))
def t_written (K : PySem.W.Frag) (w : World) : TS :=
  (tRet (tM1 (XS.rJoin K) (tC (.str " ")) (tLc (iList K (tVar 0)) (gTup K 2 (gCons (gName 1) (gCons (gName 2) gNil))) tYes (XS.tF [(tFmt (tVar 1)), (tC (.str "<")), (tFmt (tVar 2))]) [1, 2])))
def t__law_number (K : PySem.W.Frag) (w : World) : TS :=
  (tSeq (tIfS (tOr (tNot (tTest (tChain vLe vLe (tC (.int 1)) (tCB XS.rLenS (tCons (tVar 0) tNil)) (tC (.int 3))))) (tTest (tOp (rNeD K) (tLc (iStr (tVar 0)) (gName 1) (tTest (tOp XS.rNinSign (tVar 1) (tC (.str "0123456789")))) (tVar 1) [1]) (tLst tNil)))) (tRet (tC .non)) tNext)
    (tRet (tIf (tTest (tOp rEq (tCB XS.rStrI (tCons (tCB XS.rIntS (tCons (tVar 0) tNil)) tNil)) (tVar 0))) (tCB XS.rIntS (tCons (tVar 0) tNil)) (tC .non))))
def t_read_lead (K : PySem.W.Frag) (w : World) (s_is_number : Sp) (E : XK) : TS :=
  (tSeq (tAsg (tLst tNil) (gName 1))
    (tSeq (tIfS (tTest (tOp rEq (tVar 0) (tC (.str "")))) (tRet (tVar 1)) tNext)
    (tSeq (tFor (iEnum K (tCons (tM1 XS.rSplit (tVar 0) (tC (.str " "))) tNil)) (gTup K 2 (gCons (gName 2) (gCons (gName 3) gNil))) (tSeq (tAsg (tM1 XS.rPart (tVar 3) (tC (.str "<"))) (gTup K 3 (gCons (gName 4) (gCons (gName 5) (gCons (gName 6) gNil)))))
    (tSeq (tIfS (tOr (tNot (tB (tCall s_is_number [] E0 (tCons (tVar 4) tNil)))) (tNot (tB (tCall s_is_number [] E0 (tCons (tVar 6) tNil))))) (tRaiseBad (He.ga K "BadText") "place" (fun cls d _ H => E cls d H) (tCons (tVar 2) tNil)) tNext)
    (tDrop (tBM K "list" rAppend (tVar 1) (tCons (tTup (tCons (tCB XS.rIntS (tCons (tVar 4) tNil)) (tCons (tCB XS.rIntS (tCons (tVar 6) tNil)) tNil))) tNil))))))
    (tRet (tVar 1)))))
def t__law_read (K : PySem.W.Frag) (w : World) (s__law_number : Sp) : TS :=
  (tSeq (tAsg (tLst tNil) (gName 1))
    (tSeq (tAsg (tIf (tTest (tOp rNe (tVar 0) (tC (.str "")))) (tM1 XS.rSplit (tVar 0) (tC (.str " "))) (tLst tNil)) (gName 2))
    (tSeq (tFor (iRng1 (tCons (tCB (vLen K) (tCons (tVar 2) tNil)) tNil)) (gName 3) (tSeq (tAsg (tM1 XS.rSplit (tOp (rIxL K) (tVar 2) (tVar 3)) (tC (.str "<"))) (gName 4))
    (tSeq (tAsg (tLc (iList K (tVar 4)) (gName 6) tYes (tCall s__law_number [] E0 (tCons (tVar 6) tNil)) [6]) (gName 5))
    (tSeq (tIfS (tOr (tTest (tOp rNe (tCB (vLen K) (tCons (tVar 4) tNil)) (tC (.int 2)))) (tTest (tOp (rIn K false) (tC .non) (tVar 5)))) (tRet (tTup (tCons (tC (.str "BadText")) (tCons (tVar 3) tNil)))) tNext)
    (tDrop (tBM K "list" rAppend (tVar 1) (tCons (tTup (tCons (tOp (rIxL K) (tVar 5) (tC (.int 0))) (tCons (tOp (rIxL K) (tVar 5) (tC (.int 1))) tNil))) tNil)))))))
    (tRet (tVar 1)))))
section
variable {K : PySem.W.Frag} {w : World} {H : Hp}
theorem k_m0 {r : V → List V → Hp → VK → Prop} {to : TE} {σ : L2.St} {Q : VK} (q : to σ H fun x H1 => (∃ a, x = .str a) ∧ r x [] H1 Q) : tM0 r to σ H Q := q
theorem k_m1 {r : V → List V → Hp → VK → Prop} {to te : TE} {σ : L2.St} {Q : VK} (q : to σ H fun x H1 => (∃ a, x = .str a) ∧ te σ H1 fun y H2 => r x [y] H2 Q) : tM1 r to te σ H Q := q
theorem str_eq (u v : Str) {Q : VK} (q : Q (.bl (decide (u = v))) H) : rEq (.str u) (.str v) H Q := k_eq rfl (by rw [CX.dec_str]; exact q)
/-! ### is_number -/
def spIsNumber : Sp := fun vs H Q _ => ∃ w : Str, vs = [.str w] ∧ w.length ≤ 10000 ∧ Q (.bl (numB w)) H
theorem pure_is_number (vs : List V) (Q : VK) (E : XK) (h : spIsNumber vs H Q E) : t_is_number K w { nx := fun _ H1 => Q .non H1, rt := Q } (start ["word"] vs) H := by
  obtain ⟨x, rfl, lx, q⟩ := h
  rw [prog_num] at q
  unfold t_is_number
  walk_at "go"
  refine k_m0 ?_
  walk_at "go"
  refine ⟨⟨_, rfl⟩, x, rfl, rfl, trivial, ?_⟩
  walk_at "go"
  cases ha : Txt.isascii x with
  | false =>
    rw [ha, Bool.false_and] at q
    refine L2.iteT ?_
    walk_at "go"
    exact q
  | true =>
    rw [ha, Bool.true_and] at q
    refine L2.iteF ?_
    walk_at "go"
    refine k_m0 ?_
    walk_at "go"
    refine ⟨⟨_, rfl⟩, x, rfl, rfl, trivial, ?_⟩
    walk_at "go"
    cases hd : Txt.isdigit x with
    | false =>
      rw [hd, Bool.false_and] at q
      refine L2.iteT ?_
      walk_at "go"
      exact q
    | true =>
      rw [hd, Bool.true_and] at q
      refine L2.iteF ?_
      walk_at "go"
      refine ⟨x, rfl, sz1 (by omega), ?_⟩
      walk_at "go"
      refine k_both (fun h3 => ?_) (fun h3 => ?_)
      · rw [decide_eq_false (show ¬ x.length ≤ 3 by omega), Bool.false_and] at q
        walk_at "go"
        exact q
      · rw [decide_eq_true (show x.length ≤ 3 by omega), Bool.true_and] at q
        walk_at "go"
        refine str_eq _ _ ?_
        walk_at "go"
        refine k_both (fun h0 => ?_) (fun h0 => ?_)
        · rw [decide_eq_true h0, Bool.true_or] at q
          exact q
        · rw [decide_eq_false h0, Bool.false_or] at q
          walk_at "go"
          refine k_m1 ?_
          walk_at "go"
          refine ⟨⟨_, rfl⟩, ?_⟩
          walk_at "go"
          refine ⟨x, "0", rfl, rfl, ?_⟩
          walk_at "go"
          exact q
/-! ### the law's number -/
theorem dig_in (c : Nat) : decide (c ∈ ("0123456789" : Str).cps.toList) = digB c := by
  have e : ("0123456789" : Str).cps.toList = [48, 49, 50, 51, 52, 53, 54, 55, 56, 57] := by
    have := tl_ofString "0123456789"
    exact this.trans rfl
  rw [e]
  unfold digB
  by_cases h : 48 ≤ c ∧ c ≤ 57
  · rw [decide_eq_true h.1, decide_eq_true h.2]
    refine decide_eq_true ?_
    have : c = 48 ∨ c = 49 ∨ c = 50 ∨ c = 51 ∨ c = 52 ∨ c = 53 ∨ c = 54 ∨ c = 55 ∨ c = 56 ∨ c = 57 := by omega
    simpa using this
  · have : (decide (48 ≤ c) && decide (c ≤ 57)) = false := by
      rcases Nat.lt_or_ge c 48 with z | z
      · rw [decide_eq_false (show ¬ 48 ≤ c by omega)]; rfl
      · rw [decide_eq_false (show ¬ c ≤ 57 by omega), Bool.and_false]
    refine (decide_eq_false fun z => ?_).trans this.symm
    have : c = 48 ∨ c = 49 ∨ c = 50 ∨ c = 51 ∨ c = 52 ∨ c = 53 ∨ c = 54 ∨ c = 55 ∨ c = 56 ∨ c = 57 := by simpa using z
    omega
theorem k_iStr {tl : TE} {σ : L2.St} {R : It → Hp → Prop} (q : tl σ H fun v H1 => ∃ x, v = .str x ∧ R (Its x) H1) : iStr tl σ H R := q
/-- texts of one sign, against none -/
theorem dp_strs {G : Hp} : ∀ xs : List Str, DpAll K G (xs.map V.str) (xs.map PyData.str)
  | [] => .nil
  | x :: r => .cons (.str x) (dp_strs r)
theorem lay_strs : ∀ {xs : List Str}, (∀ x, x ∈ xs → PyData.strOk x = true) → PyData.canLayAll0 (xs.map PyData.str) = true ∧ PyData.depthAll (xs.map PyData.str) = 0
  | [], _ => ⟨rfl, rfl⟩
  | x :: r, h => by
    obtain ⟨a, b⟩ := lay_strs (xs := r) fun y hy => h y (List.mem_cons_of_mem _ hy)
    refine ⟨?_, ?_⟩
    · show (PyData.strOk x && PyData.canLayAll0 (r.map PyData.str)) = true
      rw [h x (by simp), a]; rfl
    · show max 0 (PyData.depthAll (r.map PyData.str)) = 0
      rw [b]; rfl
theorem k_neNilS {l e : Addr} {Q : VK} {xs : List Str} (h : SqL K H l (xs.map V.str)) (he : SqL K H e []) (ok : ∀ x, x ∈ xs → PyData.strOk x = true) (q : Q (.bl (!xs.isEmpty)) H) : rNeD K (.ref l) (.ref e) H Q := by
  obtain ⟨a, b⟩ := lay_strs ok
  refine ⟨.list (xs.map PyData.str), .list [], .lst h (dp_strs xs), .lst he .nil, ?_, shaped_nil, ?_⟩
  · unfold SeqAt.shaped
    show (PyData.canLayAll0 (xs.map PyData.str) && decide (PyData.depthAll (xs.map PyData.str) + 1 ≤ 64)) = true
    rw [a, b]; rfl
  · rw [eqv_nil]
    have : (xs.map PyData.str).isEmpty = xs.isEmpty := by cases xs <;> rfl
    rw [this]; exact q
def Sane (t : Str) : Prop := ∀ c, c ∈ tl t → c < 1114112
theorem val_lt {l : List Nat} (hh : AllDigits l) (hne : l ≠ []) (l3 : l.length ≤ 3) : digitsVal l < 1000 := by
  rcases l with _ | ⟨a, _ | ⟨b, _ | ⟨c, _ | ⟨d, r⟩⟩⟩⟩
  · exact absurd rfl hne
  · have ha := hh a (by simp)
    show 0 * 10 + (a - 48) < 1000
    omega
  · have ha := hh a (by simp)
    have hb := hh b (by simp)
    show (0 * 10 + (a - 48)) * 10 + (b - 48) < 1000
    omega
  · have ha := hh a (by simp)
    have hb := hh b (by simp)
    have hc := hh c (by simp)
    show ((0 * 10 + (a - 48)) * 10 + (b - 48)) * 10 + (c - 48) < 1000
    omega
  · rw [List.length_cons, List.length_cons, List.length_cons, List.length_cons] at l3; omega
def spLawNumber : Sp := fun vs H Q _ => ∃ (G : Hp) (x : Str), vs = [.str x] ∧ Same G H ∧ x.length ≤ 10000 ∧ Sane x ∧ ∀ H1, Ext [] G H G H1 → Q (if numB x = true then .int (valT x) else .non) H1
theorem pure_law_number (vs : List V) (Q : VK) (E : XK) (h : spLawNumber vs H Q E) : t__law_number K w { nx := fun _ H1 => Q .non H1, rt := Q } (start ["_law_word", "_law_sign"] vs) H := by
  obtain ⟨G, x, rfl, s, lx, san, q⟩ := h
  have no : ∀ H1, Ext [] G H G H1 → numB x = false → Q .non H1 := fun H1 e z => by have := q H1 e; rw [z, if_neg Bool.false_ne_true] at this; exact this
  unfold t__law_number
  walk_at "go"
  refine ⟨x, rfl, sz1 (by omega), ?_⟩
  walk_at "go"
  have lt := lt_tl x
  refine k_both (fun h1 => ?_) (fun h1 => ?_)
  rotate_left
  · walk_at "go"
    refine L2.iteT ?_
    walk_at "go"
    refine no _ (Ext.refl s) ?_
    have : tl x = [] := List.length_eq_zero_iff.mp (by omega)
    unfold numB numL3
    rw [this]; rfl
  walk_at "go"
  refine k_nboth (fun h3 => ?_) (fun h3 => ?_)
  · walk_at "go"
    refine no _ (Ext.refl s) ?_
    unfold numB numL3
    rw [decide_eq_false (show ¬ (tl x).length ≤ 3 by omega), Bool.false_and, Bool.and_false, Bool.and_false]
  walk_at "go"
  refine k_iStr ?_
  walk_at "go"
  refine ⟨x, rfl, ?_⟩
  have nx : x.cps.size = (tl x).length := by rw [Array.length_toList]
  refine lcX (M := []) (G := G) (H := H) (σ := [some (.str x), none]) (vs := [1]) (g := gName 1) (tt := tTest (tOp XS.rNinSign (tVar 1) (tC (.str "0123456789")))) (te := tVar 1) (J := Its x) (n := x.cps.size) (Y := fun i v => ∃ c, (tl x)[i]? = some c ∧ v = .str ⟨#[c]⟩) (fun H1 _ => Nat.le_refl x.cps.size) (fun i H1 hi _ => hi) (fun i H1 v H2 _ _ y => ⟨y.1, by obtain ⟨c, e, e2⟩ := y.2; exact ⟨c, by rw [Array.getElem?_toList]; exact e, e2⟩⟩) s (fun _ h => nomatch h) (by omega)
    (fun i acc G1 H1 => acc = ((((tl x).take i).filter fun c => !digB c).map fun c => (⟨#[c]⟩ : Str)).map V.str) (fun _ _ _ _ _ _ h => h) rfl
    (fun i v acc G1 H1 Ry Rn hi ⟨c, ec, ev⟩ e iv hy hn => ?_) (fun r acc G1 H1 e nr gr hr hl iv => ?_)
  · subst ev
    have sn : ((tl x).take (i + 1)).filter (fun c => !digB c) = ((tl x).take i).filter (fun c => !digB c) ++ if (!digB c) = true then [c] else [] := by
      rw [List.take_add_one, ec, List.filter_append]
      congr 1
      show List.filter _ [c] = _
      rw [List.filter_cons]
      rfl
    walk_at "go"
    refine ⟨rfl, ?_⟩
    walk_at "go"
    refine ⟨c, "0123456789", rfl, rfl, ?_⟩
    rw [dig_in]
    walk_at "go"
    cases hb : digB c with
    | true =>
      refine L2.iteF ?_
      refine hn _ _ (Ext.refl e.s) ?_
      rw [sn, hb, if_neg (show ¬ (!true) = true by decide), List.append_nil]
      exact iv
    | false =>
      refine L2.iteT ?_
      walk_at "go"
      refine hy _ _ _ (Ext.refl e.s) ?_
      rw [sn, hb, if_pos (show (!false) = true from rfl), List.map_append, List.map_append, iv]
      rfl
  · subst iv
    rw [nx, List.take_length] at hr
    walk_at "go"
    refine ⟨sz1 (by simp), fun p2 np2 => ?_⟩
    have e2 := e.tmp (o := .lst []) np2
    have hr2 : upd H1 p2 (.lst []) r = some (.lst ((((tl x).filter fun c => !digB c).map fun c => (⟨#[c]⟩ : Str)).map V.str)) := by rw [upd_ne (fun z => by rw [z, np2] at hr; cases hr)]; exact hr
    have hp2 : upd H1 p2 (.lst []) p2 = some (.lst []) := upd_same
    generalize upd H1 p2 (.lst []) = H2 at *
    have E2 := e2.back s
    refine k_neNilS (SqL.of hr2) (SqL.of hp2) (fun y hy => ?_) ?_
    · obtain ⟨c, hc, rfl⟩ := List.mem_map.mp hy
      have := san c (List.mem_filter.mp hc).1
      show (#[c] : Array Nat).all (fun z => decide (z < 1114112)) = true
      simp [this]
    have ee : (!(((tl x).filter fun c => !digB c).map fun c => (⟨#[c]⟩ : Str)).isEmpty) = !(tl x).all digB := by
      congr 1
      generalize tl x = l
      induction l with
      | nil => rfl
      | cons c r ih =>
        rw [List.filter_cons, List.all_cons]
        cases digB c with
        | true => exact ih
        | false => rfl
    rw [ee]
    walk_at "go"
    cases hd : (tl x).all digB with
    | false =>
      refine L2.iteT ?_
      walk_at "go"
      refine no _ E2 ?_
      unfold numB numL3
      rw [hd]; rfl
    | true =>
      refine L2.iteF ?_
      have hne : tl x ≠ [] := fun z => by rw [z] at lt; simp at lt; omega
      have l3 : (tl x).length ≤ 3 := by omega
      have iv := int_digs hd hne l3
      have vb : valT x < 1000 ∧ 0 ≤ valT x := by
        have := val_lt (all_dig hd) hne l3
        unfold valT
        omega
      walk_at "go"
      refine ⟨x, valT x, rfl, iv, by omega, ?_⟩
      walk_at "go"
      refine ⟨valT x, rfl, ?_, ?_⟩
      · exact Nat.lt_of_le_of_lt (Nat.log2_le_self _) (by omega)
      walk_at "go"
      refine str_eq _ _ ?_
      rw [law_num hd hne l3]
      walk_at "go"
      have qq := q _ E2
      cases hb : numB x with
      | true =>
        rw [hb, if_pos rfl] at qq
        refine L2.iteT ?_
        walk_at "go"
        exact ⟨x, valT x, rfl, iv, by omega, qq⟩
      | false =>
        rw [hb, if_neg Bool.false_ne_true] at qq
        refine L2.iteF ?_
        walk_at "go"
        exact qq
end
end CW
namespace CW
open PySem PySem.Spec PyProof.Rows L2 MV CX CP CD
local macro_rules | `(tactic| walk_at "go") => `(tactic| repeat (first
  | with_reducible refine MV.k_seq ?_ | with_reducible refine MV.k_asg ?_ | with_reducible refine MV.k_name ?_ | with_reducible refine MV.k_op ?_ | ((with_reducible apply MV.k_var); exact rfl) | with_reducible refine MV.k_c ?_
  | with_reducible refine MV.k_add ?_ | with_reducible refine MV.k_sub ?_ | with_reducible refine MV.k_lt ?_ | with_reducible refine MV.k_le ?_ | with_reducible refine MV.k_gt ?_ | with_reducible refine MV.k_ge ?_ | with_reducible refine MV.k_eqI ?_ | with_reducible refine MV.k_neI ?_
  | with_reducible refine MV.k_test ?_ | with_reducible refine MV.k_B ?_ | with_reducible refine MV.k_bl ?_ | with_reducible refine MV.k_blV ?_ | with_reducible refine MV.k_and ?_ | with_reducible refine MV.k_or ?_ | with_reducible refine MV.k_not ?_ | with_reducible refine MV.k_andV ?_ | with_reducible refine MV.k_orV ?_ | with_reducible refine MV.k_notV ?_
  | with_reducible refine MV.k_if ?_ | with_reducible refine MV.k_tru ?_ | with_reducible refine MV.k_chain ?_ | with_reducible refine MV.k_next ?_ | with_reducible refine MV.k_drop ?_ | with_reducible refine MV.k_ret ?_ | with_reducible refine MV.k_retN ?_ | with_reducible refine MV.k_ifS ?_ | with_reducible refine MV.k_brk ?_ | with_reducible refine MV.k_cont ?_
  | with_reducible refine MV.k_nil ?_ | with_reducible refine MV.k_cons ?_ | with_reducible refine MV.k_tup ?_ | with_reducible refine MV.k_lst ?_ | with_reducible refine MV.k_cb ?_ | with_reducible refine MV.k_call ?_ | with_reducible refine MV.k_gnil ?_ | with_reducible refine MV.k_gcons ?_ | with_reducible refine MV.k_gsub ?_
  | with_reducible refine MV.k_bm ?_ | with_reducible refine MV.k_bm0 ?_ | with_reducible refine MV.k_un ?_ | with_reducible refine MV.k_neg ?_ | with_reducible refine MV.k_isN ?_ | with_reducible refine MV.k_notN ?_ | with_reducible refine L2.iteT ?_ | with_reducible refine L2.iteF ?_
  | with_reducible refine MV.k_iList ?_ | with_reducible refine MV.k_iTup ?_ | with_reducible refine MV.k_iRng1 ?_ | with_reducible refine MV.k_lc ?_ | with_reducible refine MV.k_for ?_
  | with_reducible refine MV.k_yes ?_ | with_reducible refine MV.k_dput ?_ | with_reducible refine MV.k_dget ?_ | with_reducible refine MV.k_dget1 ?_ | with_reducible refine MV.k_sl ?_ | with_reducible refine MV.k_nopart ?_ | with_reducible refine MV.k_part ?_ | with_reducible refine MV.k_pint ?_ | with_reducible refine MV.k_dnew ?_ | with_reducible refine MV.k_lstRg ?_ | with_reducible refine MV.k_rg1 ?_
  | with_reducible refine CX.k_callS ?_ | with_reducible refine CX.k_iEnum ?_))
open TL PySem.NumText
/-! ### what is written -/
def numT (n : Int) : Str := Str.ofString (toString n)
def pairT (p : Int × Int) : Str := numT p.1 ++ ("<" : Str) ++ numT p.2
def textOf (ld : Lead) : Str := Txt.join " " (ld.map pairT)
def Small (ld : Lead) : Prop := ∀ p, p ∈ ld → 0 ≤ p.1 ∧ p.1 < 1000 ∧ 0 ≤ p.2 ∧ p.2 < 1000
theorem numT_tl {n : Int} (h : 0 ≤ n) : tl (numT n) = numL n.toNat := by
  obtain ⟨k, rfl⟩ := Int.eq_ofNat_of_zero_le h
  exact tl_num k
theorem numT_len {n : Int} (h : 0 ≤ n) (h2 : n < 1000) : (numT n).length ≤ 3 := by
  rw [lt_tl, numT_tl h]
  exact numL_len (by decide) (by omega)
theorem num3 {n : Int} (h : 0 ≤ n) (h2 : n < 1000) : numB (numT n) = true ∧ valT (numT n) = n := by
  have l3 := numL_len (n := n.toNat) (k := 3) (by decide) (by omega)
  refine ⟨?_, ?_⟩
  · unfold numB numL3
    rw [numT_tl h, dig_all (numL_digits _), decide_eq_true (numL_ne _), decide_eq_true l3, (num_back (numL_digits _) (numL_ne _) l3).mp (by rw [numL_val])]
    rfl
  · unfold valT
    rw [numT_tl h, numL_val]
    omega
theorem pairT_tl (p : Int × Int) : tl (pairT p) = tl (numT p.1) ++ 60 :: tl (numT p.2) := by
  unfold pairT
  rw [tl_append, tl_append, tl_lt, List.append_assoc]
  rfl
theorem pairT_word {p : Int × Int} (h : 0 ≤ p.1 ∧ p.1 < 1000 ∧ 0 ≤ p.2 ∧ p.2 < 1000) : wordP (pairT p) = some p := by
  have e : Txt.partition (pairT p) "<" = (numT p.1, ("<" : Str), numT p.2) := partition_app (s := 60) (S := []) tl_lt (by rw [numT_tl h.1]; exact numL_free (by omega))
  unfold wordP
  rw [e]
  dsimp only
  rw [(num3 h.1 h.2.1).1, (num3 h.2.2.1 h.2.2.2).1, (num3 h.1 h.2.1).2, (num3 h.2.2.1 h.2.2.2).2]
  rfl
theorem pairT_len {p : Int × Int} (h : 0 ≤ p.1 ∧ p.1 < 1000 ∧ 0 ≤ p.2 ∧ p.2 < 1000) : (pairT p).length ≤ 7 := by
  have a := numT_len h.1 h.2.1
  have b := numT_len h.2.2.1 h.2.2.2
  rw [lt_tl] at a b ⊢
  rw [pairT_tl, List.length_append, List.length_cons]
  omega
theorem pairT_sane {p : Int × Int} (h : 0 ≤ p.1 ∧ p.1 < 1000 ∧ 0 ≤ p.2 ∧ p.2 < 1000) : (∀ c, c ∈ tl (pairT p) → c < 1114112 ∧ c ≠ 32) ∧ tl (pairT p) ≠ [] := by
  rw [pairT_tl]
  refine ⟨fun c hc => ?_, by simp⟩
  rcases List.mem_append.mp hc with hc | hc
  · rw [numT_tl h.1] at hc
    have := numL_digits _ c hc
    omega
  · rcases List.mem_cons.mp hc with rfl | hc
    · exact ⟨by decide, by decide⟩
    · rw [numT_tl h.2.2.1] at hc
      have := numL_digits _ c hc
      omega
def wordsT (t : Str) : List Str := if t = "" then [] else Txt.split t " "
theorem textOf_words {ld : Lead} (h : Small ld) : wordsT (textOf ld) = ld.map pairT := by
  cases ld with
  | nil => unfold wordsT; rw [if_pos (show textOf [] = "" from rfl)]; rfl
  | cons p r =>
    have sp : Txt.split (textOf (p :: r)) " " = (p :: r).map pairT := split_join (s := 32) (S := []) tl_bl (by decide +kernel) (by simp) (fun w hw => by
      obtain ⟨x, hx, rfl⟩ := List.mem_map.mp hw
      exact fun z => ((pairT_sane (h x hx)).1 32 z).2 rfl)
    have ne : textOf (p :: r) ≠ "" := fun z => by
      rw [z] at sp
      have e0 : Txt.split ("" : Str) " " = [("" : Str)] := by
        refine map_tl_inj ?_
        rw [split_bl]
        rfl
      rw [e0, List.map_cons] at sp
      have e1 := (List.cons.inj sp).1
      have := (pairT_sane (h p (by simp))).2
      rw [← e1] at this
      exact this rfl
    unfold wordsT
    rw [if_neg ne]
    exact sp
theorem words_read {ld : Lead} (h : Small ld) : (wordsT (textOf ld)).map wordP = ld.map some := by
  rw [textOf_words h, List.map_map]
  apply List.map_congr_left
  intro p hp
  exact pairT_word (h p hp)
theorem joinL_len (s : Nat) : ∀ ps : List (List Nat), (joinL [s] ps).length ≤ (ps.map fun p => p.length + 1).sum
  | [] => Nat.zero_le _
  | [p] => by show p.length ≤ _; simp
  | p :: q :: r => by
    show (p ++ ([s] ++ joinL [s] (q :: r))).length ≤ _
    have := joinL_len s (q :: r)
    rw [List.map_cons, List.sum_cons, List.length_append, List.length_append]
    simp only [List.length_singleton]
    omega
theorem joinL_mem (s : Nat) : ∀ (ps : List (List Nat)) (c : Nat), c ∈ joinL [s] ps → c = s ∨ ∃ p, p ∈ ps ∧ c ∈ p
  | [p], c, h => .inr ⟨p, by simp, h⟩
  | p :: q :: r, c, h => by
    have h' : c ∈ p ++ ([s] ++ joinL [s] (q :: r)) := h
    rcases List.mem_append.mp h' with h | h
    · exact .inr ⟨p, by simp, h⟩
    · rcases List.mem_append.mp h with h | h
      · exact .inl (List.mem_singleton.mp h)
      · rcases joinL_mem s (q :: r) c h with z | ⟨x, hx, hc⟩
        · exact .inl z
        · exact .inr ⟨x, List.mem_cons_of_mem _ hx, hc⟩
theorem join_tl (ws : List Str) : tl (Txt.join " " ws) = joinL [32] (ws.map tl) := by
  rw [join_eq, tl_join, tl_bl]
theorem join_len (ws : List Str) : (Txt.join " " ws).length ≤ (ws.map fun w => w.length + 1).sum := by
  rw [lt_tl, join_tl]
  have := joinL_len 32 (ws.map tl)
  rw [List.map_map] at this
  refine Nat.le_trans this ?_
  have e : (ws.map ((fun p => p.length + 1) ∘ tl)) = ws.map fun w => w.length + 1 := List.map_congr_left fun w _ => by show (tl w).length + 1 = _; rw [lt_tl]
  rw [e]
  exact Nat.le_refl _
theorem join_sane {ws : List Str} (h : ∀ w, w ∈ ws → Sane w) : Sane (Txt.join " " ws) := fun c hc => by
  rw [join_tl] at hc
  rcases joinL_mem 32 _ c hc with rfl | ⟨p, hp, hc⟩
  · decide
  · obtain ⟨w, hw, rfl⟩ := List.mem_map.mp hp
    exact h w hw c hc
theorem sum_le {α : Type} (f : α → Nat) (b : Nat) : ∀ (l : List α), (∀ x, x ∈ l → f x ≤ b) → (l.map f).sum ≤ l.length * b
  | [], _ => by simp
  | x :: r, h => by
    have := sum_le f b r fun y hy => h y (List.mem_cons_of_mem _ hy)
    have := h x (by simp)
    rw [List.map_cons, List.sum_cons, List.length_cons, Nat.add_mul]
    omega
theorem textOf_ok {ld : Lead} (h : Small ld) : (textOf ld).length ≤ ld.length * 8 ∧ Sane (textOf ld) := by
  refine ⟨?_, join_sane fun w hw => ?_⟩
  · unfold textOf
    refine Nat.le_trans (join_len _) ?_
    have := sum_le (fun w : Str => w.length + 1) 8 (ld.map pairT) fun w hw => by
      obtain ⟨p, hp, rfl⟩ := List.mem_map.mp hw
      have := pairT_len (h p hp)
      omega
    rw [List.length_map] at this
    exact this
  · obtain ⟨p, hp, rfl⟩ := List.mem_map.mp hw
    exact fun c hc => ((pairT_sane (h p hp)).1 c hc).1
/-- the words of a text: how long, how many, of which signs -/
theorem words_sum (t : Str) : ((Txt.split t " ").map fun w => w.length + 1).sum = t.length + 1 := by
  have e := spl_sum 32 (tl t) []
  rw [← split_bl, List.map_map] at e
  have e2 : ((Txt.split t " ").map ((fun p => p.length + 1) ∘ tl)) = (Txt.split t " ").map fun w => w.length + 1 := List.map_congr_left fun w _ => by show (tl w).length + 1 = _; rw [lt_tl]
  rw [e2] at e
  rw [e, lt_tl]
  simp
theorem split_len {t w : Str} (h : w ∈ Txt.split t " ") : w.length ≤ t.length := by
  have := sum_ge (fun w : Str => w.length + 1) _ w h
  rw [words_sum] at this
  have this : w.length + 1 ≤ t.length + 1 := this
  omega
theorem split_count (t : Str) : (Txt.split t " ").length ≤ t.length + 1 := by
  rw [← words_sum]
  generalize Txt.split t " " = l
  induction l with
  | nil => exact Nat.zero_le _
  | cons x r ih => rw [List.map_cons, List.sum_cons, List.length_cons]; omega
theorem split_pos (t : Str) : 1 ≤ (Txt.split t " ").length := by
  have := spl_ne 32 (tl t) []
  rw [← split_bl] at this
  rcases Nat.eq_zero_or_pos (Txt.split t " ").length with z | z
  · exact absurd (by rw [List.length_eq_zero_iff.mp z]; rfl) this
  · exact z
theorem split_sane {t w : Str} (s : Sane t) (h : w ∈ Txt.split t " ") : Sane w := fun c hc => by
  have m : tl w ∈ (Txt.split t " ").map tl := List.mem_map.mpr ⟨w, h, rfl⟩
  rw [split_bl] at m
  rcases spl_mem 32 (tl t) [] _ m c hc with z | z
  · cases z
  · exact s c z
theorem wordsT_mem {t w : Str} (h : w ∈ wordsT t) : w ∈ Txt.split t " " := by
  unfold wordsT at h
  split at h
  · cases h
  · exact h
theorem word_long {w : Str} {p : Int × Int} (h : wordP w = some p) : 3 ≤ w.length := by
  unfold wordP at h
  have pp := partition_par w "<" (by rw [tl_lt]; simp)
  rw [tl_lt] at pp
  by_cases z : 60 ∈ tl w
  · obtain ⟨a, b, e, ha⟩ := cut_at z
    have ep : par [60] [] (tl w) = some (a, b) := by
      rw [e]
      have := par_part1 (S := []) (rest := b) (acc := []) ha
      exact this
    rw [ep] at pp
    have pp' : Txt.partition w "<" = ((⟨a.toArray⟩ : Str), ("<" : Str), (⟨b.toArray⟩ : Str)) := pp
    rw [pp'] at h
    split at h
    · rename_i hh
      obtain ⟨h1, h2⟩ := Bool.and_eq_true_iff.mp hh
      have ne : ∀ l : List Nat, numL3 l = true → 1 ≤ l.length := fun l hl => by
        obtain ⟨_, x⟩ := Bool.and_eq_true_iff.mp hl
        obtain ⟨x, _⟩ := Bool.and_eq_true_iff.mp x
        exact List.length_pos_iff.mpr (of_decide_eq_true x)
      have n1 := ne a h1
      have n2 := ne b h2
      rw [lt_tl, e, List.length_append, List.length_cons]
      omega
    · cases h
  · have ep : par [60] [] (tl w) = none := par_none1 (S := []) z
    rw [ep] at pp
    have pp' : Txt.partition w "<" = (w, Str.empty, Str.empty) := pp
    rw [pp'] at h
    have : numB Str.empty = false := rfl
    rw [if_neg (by dsimp only; rw [this, Bool.and_false]; exact Bool.false_ne_true)] at h
    cases h
/-- how many pairs a text may tell -/
theorem pairs_count {t : Str} {ps : Lead} (h : (wordsT t).map wordP = ps.map some) : 4 * ps.length ≤ t.length + 1 := by
  have hl : (wordsT t).length = ps.length := by have := congrArg List.length h; rw [List.length_map, List.length_map] at this; exact this
  unfold wordsT at h hl
  split at h
  · rename_i z
    rw [if_pos z] at hl
    rw [← hl]; simp
  · rename_i z
    rw [if_neg z] at hl
    have each : ∀ w, w ∈ Txt.split t " " → 4 ≤ w.length + 1 := fun w hw => by
      have m : wordP w ∈ (Txt.split t " ").map wordP := List.mem_map.mpr ⟨w, hw, rfl⟩
      rw [h] at m
      obtain ⟨p, _, e⟩ := List.mem_map.mp m
      have := word_long e.symm
      omega
    rw [← words_sum, ← hl]
    revert each
    generalize Txt.split t " " = l
    intro each
    clear h hl z
    induction l with
    | nil => simp
    | cons x r ih =>
      have := each x (by simp)
      have := ih fun w hw => each w (List.mem_cons_of_mem _ hw)
      rw [List.map_cons, List.sum_cons, List.length_cons]
      omega
end CW
namespace CW
open PySem PySem.Spec PyProof.Rows L2 MV CX CP CD
local macro_rules | `(tactic| walk_at "go") => `(tactic| repeat (first
  | with_reducible refine MV.k_seq ?_ | with_reducible refine MV.k_asg ?_ | with_reducible refine MV.k_name ?_ | with_reducible refine MV.k_op ?_ | ((with_reducible apply MV.k_var); exact rfl) | with_reducible refine MV.k_c ?_
  | with_reducible refine MV.k_add ?_ | with_reducible refine MV.k_sub ?_ | with_reducible refine MV.k_lt ?_ | with_reducible refine MV.k_le ?_ | with_reducible refine MV.k_gt ?_ | with_reducible refine MV.k_ge ?_ | with_reducible refine MV.k_eqI ?_ | with_reducible refine MV.k_neI ?_
  | with_reducible refine MV.k_test ?_ | with_reducible refine MV.k_B ?_ | with_reducible refine MV.k_bl ?_ | with_reducible refine MV.k_blV ?_ | with_reducible refine MV.k_and ?_ | with_reducible refine MV.k_or ?_ | with_reducible refine MV.k_not ?_ | with_reducible refine MV.k_andV ?_ | with_reducible refine MV.k_orV ?_ | with_reducible refine MV.k_notV ?_
  | with_reducible refine MV.k_if ?_ | with_reducible refine MV.k_tru ?_ | with_reducible refine MV.k_chain ?_ | with_reducible refine MV.k_next ?_ | with_reducible refine MV.k_drop ?_ | with_reducible refine MV.k_ret ?_ | with_reducible refine MV.k_retN ?_ | with_reducible refine MV.k_ifS ?_ | with_reducible refine MV.k_brk ?_ | with_reducible refine MV.k_cont ?_
  | with_reducible refine MV.k_nil ?_ | with_reducible refine MV.k_cons ?_ | with_reducible refine MV.k_tup ?_ | with_reducible refine MV.k_lst ?_ | with_reducible refine MV.k_cb ?_ | with_reducible refine MV.k_call ?_ | with_reducible refine MV.k_gnil ?_ | with_reducible refine MV.k_gcons ?_ | with_reducible refine MV.k_gsub ?_
  | with_reducible refine MV.k_bm ?_ | with_reducible refine MV.k_bm0 ?_ | with_reducible refine MV.k_un ?_ | with_reducible refine MV.k_neg ?_ | with_reducible refine MV.k_isN ?_ | with_reducible refine MV.k_notN ?_ | with_reducible refine L2.iteT ?_ | with_reducible refine L2.iteF ?_
  | with_reducible refine MV.k_iList ?_ | with_reducible refine MV.k_iTup ?_ | with_reducible refine MV.k_iRng1 ?_ | with_reducible refine MV.k_lc ?_ | with_reducible refine MV.k_for ?_
  | with_reducible refine MV.k_yes ?_ | with_reducible refine MV.k_dput ?_ | with_reducible refine MV.k_dget ?_ | with_reducible refine MV.k_dget1 ?_ | with_reducible refine MV.k_sl ?_ | with_reducible refine MV.k_nopart ?_ | with_reducible refine MV.k_part ?_ | with_reducible refine MV.k_pint ?_ | with_reducible refine MV.k_dnew ?_ | with_reducible refine MV.k_lstRg ?_ | with_reducible refine MV.k_rg1 ?_
  | with_reducible refine CX.k_callS ?_ | with_reducible refine CX.k_iEnum ?_))
open TL PySem.NumText
section
variable {K : PySem.W.Frag} {w : World} {H : Hp}
theorem log_small {n : Int} (h : 0 ≤ n) (h2 : n < 1000) : n.natAbs.log2 < 1920 := Nat.lt_of_le_of_lt (Nat.log2_le_self _) (by omega)
theorem log_nat {i : Nat} (h : i < 8192) : i.log2 < 1920 := by
  by_cases z : i = 0
  · subst z; decide
  · exact Nat.lt_trans ((Nat.log2_lt z).mpr (show i < 2 ^ 13 from h)) (by decide)
theorem emp_app (x : Str) : Str.empty ++ x = x := ext_tl (by rw [tl_append]; rfl)
/-! ### written -/
def spWritten (K : PySem.W.Frag) : Sp := fun vs H Q _ => ∃ (G : Hp) (l : Addr) (ld : Lead), vs = [.ref l] ∧ Same G H ∧ LeadAt K G l ld ∧ ld.length ≤ 100 ∧ Small ld ∧ ∀ H1, Ext [] G H G H1 → Q (.str (textOf ld)) H1
theorem pairs_sum {ld : Lead} (h : Small ld) (l : ld.length ≤ 100) : ((ld.map pairT).map (·.length)).sum + (ld.map pairT).length * (" " : Str).length ≤ 16777216 := by
  have a := sum_le (fun w : Str => w.length) 8 (ld.map pairT) fun w hw => by
    obtain ⟨p, hp, rfl⟩ := List.mem_map.mp hw
    have := pairT_len (h p hp)
    omega
  rw [List.length_map] at a ⊢
  rw [show (" " : Str).length = 1 by rw [lt_tl, tl_bl]; rfl]
  have : ((ld.map pairT).map (·.length)).sum ≤ ld.length * 8 := a
  omega
theorem pure_written (vs : List V) (Q : VK) (E : XK) (h : spWritten K vs H Q E) : t_written K w { nx := fun _ H1 => Q .non H1, rt := Q } (start ["lead", "goal", "source"] vs) H := by
  obtain ⟨G, l, ld, rfl, s, ⟨xs, hx, hd⟩, l1, sm, q⟩ := h
  have ll : xs.length = ld.length := by rw [dpAll_len hd, List.length_map]
  unfold t_written
  walk_at "go"
  refine k_m1 ?_
  walk_at "go"
  refine ⟨⟨_, rfl⟩, ?_⟩
  walk_at "go"
  refine ⟨_, rfl, ⟨_, s.seq hx⟩, ?_⟩
  refine lcL (M := []) s (fun _ h => nomatch h) hx (by omega) (fun i acc G1 H1 => acc = ((ld.take i).map pairT).map V.str) (fun _ _ _ _ _ _ h => h) rfl
    (fun i x acc G1 H1 Ry Rn hi ex e iv hy hn => ?_) (fun p acc G1 H1 e np gp hp hl iv => ?_)
  · subst iv
    obtain ⟨t, pr, ep, rfl, ht⟩ := pair_at hd ex
    have hs := sm pr (List.mem_of_getElem? ep)
    have n1 := numT_len hs.1 hs.2.1
    have n2 := numT_len hs.2.2.1 hs.2.2.2
    have lz : ("<" : Str).length = 1 := by rw [lt_tl, tl_lt]; rfl
    walk_at "go"
    refine k_tupN (sqT_mono e.s (sqT_mono e.g ht)) rfl ?_
    walk_at "go"
    refine ⟨rfl, ?_⟩
    walk_at "go"
    refine ⟨_, rfl, .inr ⟨pr.1, rfl, log_small hs.1 hs.2.1, numT pr.1, rfl, ?_, ?_⟩⟩
    · rw [emp_app]; exact sz1 (by omega)
    refine ⟨("<" : Str), rfl, ?_, ?_⟩
    · rw [emp_app, lt_tl, tl_append, List.length_append, ← lt_tl, ← lt_tl]; exact sz1 (by omega)
    refine ⟨_, rfl, .inr ⟨pr.2, rfl, log_small hs.2.2.1 hs.2.2.2, numT pr.2, rfl, ?_, ?_⟩⟩
    · rw [emp_app, lt_tl, tl_append, tl_append, List.length_append, List.length_append, ← lt_tl, ← lt_tl, ← lt_tl]; exact sz1 (by omega)
    show Ry (.str (Str.empty ++ numT pr.1 ++ ("<" : Str) ++ numT pr.2)) H1
    rw [emp_app]
    refine hy _ _ _ (Ext.refl e.s) ?_
    rw [List.take_add_one, ep, List.map_append, List.map_append]
    rfl
  · subst iv
    rw [ll, List.take_length] at hp
    walk_at "go"
    exact ⟨" ", p, ld.map pairT, rfl, rfl, .inl (SqL.of hp), pairs_sum sm l1, q _ (e.back s)⟩
/-! ### a text read -/
def spReadLead (K : PySem.W.Frag) : Sp := fun vs H Q E => ∃ (G : Hp) (t : Str), vs = [.str t] ∧ Same G H ∧ t.length ≤ 3000 ∧
  ((∃ ps : Lead, (wordsT t).map wordP = ps.map some ∧ ∀ (l : Addr) (ts : List Addr) (G1 H1 : Hp), Ext [] G H G1 H1 → H l = none → G1 l = none → H1 l = some (.lst (ts.map V.ref)) → PsAt K G1 ts ps → Q (.ref l) H1) ∨
   ∃ (k : Nat) (x : Str), (wordsT t)[k]? = some x ∧ wordP x = none ∧ (∀ i y, i < k → (wordsT t)[i]? = some y → wordP y ≠ none) ∧ ∀ (H1 : Hp) (dd : Addr), Ext [] G H G H1 → H1 dd = none → E (.ref (He.ga K "BadText")) (some dd) (upd H1 dd (.xd [("place", .int (k : Nat))])))
theorem wordP_eq (x : Str) : wordP x = if (numB (Txt.partition x "<").1 && numB (Txt.partition x "<").2.2) = true then some (valT (Txt.partition x "<").1, valT (Txt.partition x "<").2.2) else none := rfl
theorem part_len (x : Str) : (Txt.partition x "<").1.length ≤ x.length ∧ (Txt.partition x "<").2.2.length ≤ x.length := by
  have pp := partition_par x "<" (by rw [tl_lt]; simp)
  rw [tl_lt] at pp
  by_cases z : 60 ∈ tl x
  · obtain ⟨a, b, e, ha⟩ := cut_at z
    have ep : par [60] [] (tl x) = some (a, b) := by
      rw [e]
      have := par_part1 (S := []) (rest := b) (acc := []) ha
      exact this
    rw [ep] at pp
    have pp' : Txt.partition x "<" = ((⟨a.toArray⟩ : Str), ("<" : Str), (⟨b.toArray⟩ : Str)) := pp
    rw [pp', lt_tl x, e, List.length_append, List.length_cons]
    constructor
    · show a.toArray.size ≤ _; rw [List.size_toArray]; omega
    · show b.toArray.size ≤ _; rw [List.size_toArray]; omega
  · have ep : par [60] [] (tl x) = none := par_none1 (S := []) z
    rw [ep] at pp
    have pp' : Txt.partition x "<" = (x, Str.empty, Str.empty) := pp
    rw [pp']
    exact ⟨Nat.le_refl _, Nat.zero_le _⟩
theorem num_len {x : Str} (h : numB x = true) : x.length ≤ 640 := by
  obtain ⟨_, b⟩ := Bool.and_eq_true_iff.mp h
  obtain ⟨_, c⟩ := Bool.and_eq_true_iff.mp b
  obtain ⟨c, _⟩ := Bool.and_eq_true_iff.mp c
  have h3 := of_decide_eq_true c
  rw [lt_tl]; omega
theorem pure_read_lead (vs : List V) (Q : VK) (E : XK) (h : spReadLead K vs H Q E) : t_read_lead K w spIsNumber E { nx := fun _ H1 => Q .non H1, rt := Q } (start ["text", "lead", "place", "word", "goal", "_", "source"] vs) H := by
  obtain ⟨G, t, rfl, s, l3000, q⟩ := h
  unfold t_read_lead
  walk_at "go"
  refine ⟨sz1 (by simp), fun l nl => ?_⟩
  have e0 := (Ext.refl (M := []) s).tmp (o := .lst []) nl
  have gl : G l = none := s.free nl
  have hl0 : upd H l (.lst []) l = some (.lst []) := upd_same
  generalize upd H l (.lst []) = H1 at *
  walk_at "go"
  refine str_eq _ _ ?_
  walk_at "go"
  refine k_both (fun hz => ?_) (fun hz => ?_)
  · walk_at "go"
    have wn : wordsT t = [] := by unfold wordsT; rw [if_pos hz]
    rcases q with ⟨ps, ep, qq⟩ | ⟨k, x, ek, _⟩
    · rw [wn] at ep
      have : ps = [] := by
        cases ps with
        | nil => rfl
        | cons p r => cases ep
      subst this
      exact qq l [] G H1 e0 nl gl hl0 .nil
    · rw [wn] at ek
      cases ek
  · have wn : wordsT t = Txt.split t " " := by unfold wordsT; rw [if_neg hz]
    rw [wn] at q
    walk_at "go"
    refine k_m1 ?_
    walk_at "go"
    refine ⟨⟨_, rfl⟩, ?_⟩
    walk_at "go"
    refine ⟨t, " ", rfl, rfl, by rw [lt_tl, tl_bl]; rfl, sz1 (by omega), fun sp nsp => ?_⟩
    have cnt := split_count t
    have lenw : ∀ x, x ∈ Txt.split t " " → x.length ≤ t.length := fun x hx => split_len hx
    generalize Txt.split t " " = W at *
    have e1 := e0.new (o := .lst (W.map V.str)) nsp
    have gW : (upd G sp (.lst (W.map V.str))) sp = some (.lst (W.map V.str)) := upd_same
    have lsp : l ≠ sp := fun z => by rw [z, nsp] at hl0; cases hl0
    have hl1 : upd H1 sp (.lst (W.map V.str)) l = some (.lst []) := by rw [upd_ne lsp]; exact hl0
    have gl1 : (upd G sp (.lst (W.map V.str))) l = none := by rw [upd_ne lsp]; exact gl
    generalize upd G sp (.lst (W.map V.str)) = G2 at *
    generalize upd H1 sp (.lst (W.map V.str)) = H2 at *
    refine ⟨sp, W.map V.str, rfl, e1.s.seq (SqL.of gW), ?_⟩
    refine forE (M := [l]) e1.s (SqL.of gW) (fun i σ1 G3 H3 => (∃ x2 x3 x4 x5 x6, σ1 = [some (.str t), some (.ref l), x2, x3, x4, x5, x6]) ∧ G3 l = none ∧ ∃ (ts : List Addr) (ps : Lead), H3 l = some (.lst (ts.map V.ref)) ∧ PsAt K G3 ts ps ∧ (W.take i).map wordP = ps.map some)
      ⟨⟨none, none, none, none, none, rfl⟩, gl1, [], [], hl1, .nil, rfl⟩ (fun i x T σ1 G3 H3 hi ex e ⟨⟨x2, x3, x4, x5, x6, es⟩, gl3, ts, ps, hl3, pt, epp⟩ hT => ?_) (fun σ1 G3 H3 e ⟨⟨x2, x3, x4, x5, x6, es⟩, gl3, ts, ps, hl3, pt, epp⟩ => ?_)
    · subst es
      rw [List.length_map] at hi
      rw [List.getElem?_map, List.getElem?_eq_getElem hi] at ex
      have ex2 : V.str W[i] = x := Option.some.inj ex
      subst ex2
      have ei : W[i]? = some W[i] := List.getElem?_eq_getElem hi
      have lw := lenw _ (List.getElem_mem hi)
      have pl := part_len W[i]
      have we := wordP_eq W[i]
      have lps : ps.length ≤ i := by have := congrArg List.length epp; rw [List.length_map, List.length_map, List.length_take] at this; omega
      have lts : ts.length = ps.length := MV.paired_len pt
      have goods : ∀ j y, j < i → W[j]? = some y → wordP y ≠ none := fun j y hj ej => by
        have m : ((W.take i).map wordP)[j]? = some (wordP y) := by rw [List.getElem?_map, List.getElem?_take_of_lt hj, ej]; rfl
        rw [epp, List.getElem?_map] at m
        cases ep : ps[j]? with
        | none => rw [ep] at m; cases m
        | some p => rw [ep] at m; intro z; rw [z] at m; cases m
      have bad : wordP W[i] = none → ∀ H5, Ext [] G H G H5 → tRaiseBad (He.ga K "BadText") "place" (fun cls d _ H => E cls d H) (tCons (tVar 2) tNil) { nx := fun _ _ => True, rt := fun _ _ => True, bk := fun _ _ => True, ct := fun _ _ => True } [some (.str t), some (.ref l), some (.int (i : Nat)), some (.str W[i]), some (.str (Txt.partition W[i] "<").1), some (.str (Txt.partition W[i] "<").2.1), some (.str (Txt.partition W[i] "<").2.2)] H5 := by
        intro wb H5 e5
        refine ⟨_, rfl, (i : Int), rfl, ?_, fun dd hdd => ?_⟩
        · have : ((i : Int)).natAbs = i := Int.natAbs_natCast i
          rw [this]
          exact log_nat (by omega)
        · rcases q with ⟨ps', ep, _⟩ | ⟨k, x, ek, wk, gk, qe⟩
          · have m : (W.map wordP)[i]? = some (wordP W[i]) := by rw [List.getElem?_map, ei]; rfl
            rw [ep, wb, List.getElem?_map] at m
            cases e6 : ps'[i]? with
            | none => rw [e6] at m; cases m
            | some p => rw [e6] at m; cases m
          · have hik : i = k := by
              rcases Nat.lt_trichotomy i k with z | z | z
              · exact absurd wb (gk i _ z ei)
              · exact z
              · exact absurd wk (goods k x z ek)
            subst hik
            exact qe _ dd e5 hdd
      have eT := e.tmp (o := .tup [.int (i : Nat), .str W[i]]) hT
      have hlT : upd H3 T (.tup [.int (i : Nat), .str W[i]]) l = some (.lst (ts.map V.ref)) := by rw [upd_ne (fun z => by rw [z, hT] at hl3; cases hl3)]; exact hl3
      have hTT : upd H3 T (.tup [.int (i : Nat), .str W[i]]) T = some (.tup [.int (i : Nat), .str W[i]]) := upd_same
      have e3T := (Ext.refl (M := [l]) e.s).tmp (o := .tup [.int (i : Nat), .str W[i]]) hT
      generalize upd H3 T (.tup [.int (i : Nat), .str W[i]]) = H4 at *
      refine k_tupN (SqT.of hTT) rfl ?_
      walk_at "go"
      refine k_m1 ?_
      walk_at "go"
      refine ⟨⟨_, rfl⟩, ?_⟩
      walk_at "go"
      refine ⟨W[i], "<", rfl, rfl, by rw [lt_tl, tl_lt]; rfl, sz1 (by omega), fun pp npp => ?_⟩
      have e5 := e3T.tmp (o := .tup [.str (Txt.partition W[i] "<").1, .str (Txt.partition W[i] "<").2.1, .str (Txt.partition W[i] "<").2.2]) npp
      have hl5 : upd H4 pp (.tup [.str (Txt.partition W[i] "<").1, .str (Txt.partition W[i] "<").2.1, .str (Txt.partition W[i] "<").2.2]) l = some (.lst (ts.map V.ref)) := by rw [upd_ne (fun z => by rw [z, npp] at hlT; cases hlT)]; exact hlT
      have hp5 : upd H4 pp (.tup [.str (Txt.partition W[i] "<").1, .str (Txt.partition W[i] "<").2.1, .str (Txt.partition W[i] "<").2.2]) pp = some (.tup [.str (Txt.partition W[i] "<").1, .str (Txt.partition W[i] "<").2.1, .str (Txt.partition W[i] "<").2.2]) := upd_same
      generalize upd H4 pp (.tup [.str (Txt.partition W[i] "<").1, .str (Txt.partition W[i] "<").2.1, .str (Txt.partition W[i] "<").2.2]) = H5 at *
      have E5 : Ext [] G H G H5 := (e1.fin (e.trans e5) (fun z hz => by rw [List.mem_singleton.mp hz]; exact .inr nl)).back s
      walk_at "go"
      refine k_tupN (SqT.of hp5) rfl ?_
      walk_at "go"
      refine ⟨_, rfl, by omega, ?_⟩
      walk_at "go"
      cases h1 : numB (Txt.partition W[i] "<").1 with
      | false =>
        rw [h1, Bool.false_and, if_neg Bool.false_ne_true] at we
        refine L2.iteT ?_
        walk_at "go"
        exact bad we H5 E5
      | true =>
        refine L2.iteF ?_
        walk_at "go"
        refine ⟨_, rfl, by omega, ?_⟩
        walk_at "go"
        cases h2 : numB (Txt.partition W[i] "<").2.2 with
        | false =>
          rw [h2, Bool.and_false, if_neg Bool.false_ne_true] at we
          refine L2.iteT ?_
          exact bad we H5 E5
        | true =>
          rw [h1, h2, if_pos (show (true && true) = true from rfl)] at we
          refine L2.iteF ?_
          walk_at "go"
          refine ⟨tyL hl5, ?_⟩
          walk_at "go"
          refine ⟨_, _, rfl, int_val h1, num_len h1, ?_⟩
          walk_at "go"
          refine ⟨_, _, rfl, int_val h2, num_len h2, ?_⟩
          walk_at "go"
          refine ⟨sz1 (by simp), fun tp ntp => ?_⟩
          have e6 := e5.new (o := .tup [.int (valT (Txt.partition W[i] "<").1), .int (valT (Txt.partition W[i] "<").2.2)]) ntp
          have ltp : l ≠ tp := fun z => by rw [z, ntp] at hl5; cases hl5
          have hl6 : upd H5 tp (.tup [.int (valT (Txt.partition W[i] "<").1), .int (valT (Txt.partition W[i] "<").2.2)]) l = some (.lst (ts.map V.ref)) := by rw [upd_ne ltp]; exact hl5
          have g6 : (upd G3 tp (.tup [.int (valT (Txt.partition W[i] "<").1), .int (valT (Txt.partition W[i] "<").2.2)])) l = none := by rw [upd_ne ltp]; exact gl3
          walk_at "go"
          refine k_append hl6 (sz2 (by rw [List.length_map]; omega)) ?_
          walk_at "go"
          refine ⟨_, e6.mutM (List.mem_singleton.mpr rfl) g6, ⟨_, _, _, _, _, rfl⟩, g6, ts ++ [tp], ps ++ [(valT (Txt.partition W[i] "<").1, valT (Txt.partition W[i] "<").2.2)], by rw [upd_same, List.map_append]; rfl, ?_, ?_⟩
          · exact MV.paired_app (PsAt.mono pt (same_new (e5.s.free ntp))) (SqT.of upd_same)
          · rw [List.take_add_one, ei, List.map_append, List.map_append, epp]
            show _ ++ [wordP W[i]] = _
            rw [we]; rfl
    · subst es
      rw [List.length_map, List.take_length] at epp
      walk_at "go"
      rcases q with ⟨ps', ep, qq⟩ | ⟨k, x, ek, wk, _⟩
      · have : ps = ps' := by
          rw [epp] at ep
          have inj : ∀ {a b : Lead}, a.map some = b.map some → a = b := fun {a b} z => by
            have := congrArg (List.filterMap id) z
            simpa using this
          exact inj ep
        subst this
        exact qq l ts G3 H3 (e1.fin e (fun z hz => by rw [List.mem_singleton.mp hz]; exact .inr nl)) nl gl3 hl3 pt
      · have m : (W.map wordP)[k]? = some none := by rw [List.getElem?_map, ek]; show some (wordP x) = _; rw [wk]
        rw [epp, List.getElem?_map] at m
        cases e6 : ps[k]? with
        | none => rw [e6] at m; cases m
        | some p => rw [e6] at m; cases m
end
end CW
namespace CW
open PySem PySem.Spec PyProof.Rows L2 MV CX CP CD
local macro_rules | `(tactic| walk_at "go") => `(tactic| repeat (first
  | with_reducible refine MV.k_seq ?_ | with_reducible refine MV.k_asg ?_ | with_reducible refine MV.k_name ?_ | with_reducible refine MV.k_op ?_ | ((with_reducible apply MV.k_var); exact rfl) | with_reducible refine MV.k_c ?_
  | with_reducible refine MV.k_add ?_ | with_reducible refine MV.k_sub ?_ | with_reducible refine MV.k_lt ?_ | with_reducible refine MV.k_le ?_ | with_reducible refine MV.k_gt ?_ | with_reducible refine MV.k_ge ?_ | with_reducible refine MV.k_eqI ?_ | with_reducible refine MV.k_neI ?_
  | with_reducible refine MV.k_test ?_ | with_reducible refine MV.k_B ?_ | with_reducible refine MV.k_bl ?_ | with_reducible refine MV.k_blV ?_ | with_reducible refine MV.k_and ?_ | with_reducible refine MV.k_or ?_ | with_reducible refine MV.k_not ?_ | with_reducible refine MV.k_andV ?_ | with_reducible refine MV.k_orV ?_ | with_reducible refine MV.k_notV ?_
  | with_reducible refine MV.k_if ?_ | with_reducible refine MV.k_tru ?_ | with_reducible refine MV.k_chain ?_ | with_reducible refine MV.k_next ?_ | with_reducible refine MV.k_drop ?_ | with_reducible refine MV.k_ret ?_ | with_reducible refine MV.k_retN ?_ | with_reducible refine MV.k_ifS ?_ | with_reducible refine MV.k_brk ?_ | with_reducible refine MV.k_cont ?_
  | with_reducible refine MV.k_nil ?_ | with_reducible refine MV.k_cons ?_ | with_reducible refine MV.k_tup ?_ | with_reducible refine MV.k_lst ?_ | with_reducible refine MV.k_cb ?_ | with_reducible refine MV.k_call ?_ | with_reducible refine MV.k_gnil ?_ | with_reducible refine MV.k_gcons ?_ | with_reducible refine MV.k_gsub ?_
  | with_reducible refine MV.k_bm ?_ | with_reducible refine MV.k_bm0 ?_ | with_reducible refine MV.k_un ?_ | with_reducible refine MV.k_neg ?_ | with_reducible refine MV.k_isN ?_ | with_reducible refine MV.k_notN ?_ | with_reducible refine L2.iteT ?_ | with_reducible refine L2.iteF ?_
  | with_reducible refine MV.k_iList ?_ | with_reducible refine MV.k_iTup ?_ | with_reducible refine MV.k_iRng1 ?_ | with_reducible refine MV.k_lc ?_ | with_reducible refine MV.k_for ?_
  | with_reducible refine MV.k_yes ?_ | with_reducible refine MV.k_dput ?_ | with_reducible refine MV.k_dget ?_ | with_reducible refine MV.k_dget1 ?_ | with_reducible refine MV.k_sl ?_ | with_reducible refine MV.k_nopart ?_ | with_reducible refine MV.k_part ?_ | with_reducible refine MV.k_pint ?_ | with_reducible refine MV.k_dnew ?_ | with_reducible refine MV.k_lstRg ?_ | with_reducible refine MV.k_rg1 ?_
  | with_reducible refine CX.k_callS ?_ | with_reducible refine CX.k_iEnum ?_))
open TL PySem.NumText
def t__law_changed (K : PySem.W.Frag) (w : World) (s__law_drawn : Sp) : TS :=
  (tSeq (tAsg (tCall s__law_drawn [] E0 (tCons (tVar 0) (tCons (tC (.int 6)) tNil))) (gName 2))
    (tSeq (tAsg (tCall s__law_drawn [] E0 (tCons (tVar 0) (tCons (tOp vAdd (tCB XS.rLenS (tCons (tVar 1) tNil)) (tC (.int 1))) tNil))) (gName 3))
    (tSeq (tAsg (tOp rIxS (tC (.str "0123456789 <<>-+._a")) (tCall s__law_drawn [] E0 (tCons (tVar 0) (tCons (tC (.int 19)) tNil)))) (gName 4))
    (tSeq (tIfS (tTest (tOp vLt (tVar 2) (tC (.int 3)))) (tRet (tOp vAddS (tOp vAddS (tSl rSlS (tVar 1) tNoPart (tPart (tVar 3))) (tOp (rIxL K) (tLst (tCons (tVar 4) (tCons (tC (.str "")) (tCons (tVar 4) tNil)))) (tVar 2))) (tSl rSlS (tVar 1) (tPart (tOp vAdd (tVar 3) (tCB XZ.rInt1 (tCons (tOp vGt (tVar 2) (tC (.int 0))) tNil)))) tNoPart))) tNext)
    (tSeq (tAsg (tM1 XS.rSplit (tVar 1) (tC (.str " "))) (gName 5))
    (tSeq (tAsg (tCall s__law_drawn [] E0 (tCons (tVar 0) (tCons (tCB (vLen K) (tCons (tVar 5) tNil)) tNil))) (gName 6))
    (tSeq (tAsg (tLst (tCons (tC (.str "")) (tCons (tC (.str "0<00")) (tCons (tC (.str "07<1")) (tCons (tC (.str "-1<2")) (tCons (tC (.str "1<2000")) (tCons (tC (.str "999<0")) (tCons (tC (.str "0<999")) (tCons (tC (.str "1<2<3")) (tCons (tC (.str "<")) (tCons (tC (.str "1")) (tCons (tC (.str "1<")) (tCons (tC (.str "<1")) tNil))))))))))))) (gName 7))
    (tSeq (tAsg (tOp (rIxL K) (tLst (tCons (tLst tNil) (tCons (tLst (tCons (tOp (rIxL K) (tVar 5) (tVar 6)) (tCons (tOp (rIxL K) (tVar 5) (tVar 6)) tNil))) (tCons (tLst (tCons (tOp (rIxL K) (tVar 7) (tCall s__law_drawn [] E0 (tCons (tVar 0) (tCons (tC (.int 12)) tNil)))) tNil)) tNil)))) (tOp vSub (tVar 2) (tC (.int 3)))) (gName 8))
    (tRet (tM1 (XS.rJoin K) (tC (.str " ")) (tOp rCat (tOp rCat (tSl (rSlL K) (tVar 5) tNoPart (tPart (tVar 6))) (tVar 8)) (tSl (rSlL K) (tVar 5) (tPart (tOp vAdd (tVar 6) (tC (.int 1)))) tNoPart))))))))))))
section
variable {K : PySem.W.Frag} {w : World} {H : Hp}
/-! ### a text read by the law -/
def nv (a : Str) : V := if numB a = true then .int (valT a) else .non
theorem nv_flat : ∀ ps : List Str, (ps.map nv).all flatV = true
  | [] => rfl
  | a :: r => by
    rw [List.map_cons, List.all_cons, nv_flat r, Bool.and_true]
    unfold nv
    split <;> rfl
theorem nv_non (a : Str) : eqV (nv a) .non = !numB a := by
  unfold nv
  cases numB a with
  | true => rfl
  | false => rfl
theorem parts_of (x : Str) : (∀ a, a ∈ Txt.split x "<" → a.length ≤ x.length ∧ ∀ c, c ∈ tl a → c ∈ tl x) ∧ (Txt.split x "<").length ≤ x.length + 1 := by
  have sm := spl_sum 60 (tl x) []
  have e2 : ((Txt.split x "<").map ((fun p => p.length + 1) ∘ tl)) = (Txt.split x "<").map fun w => w.length + 1 := List.map_congr_left fun w _ => by show (tl w).length + 1 = _; rw [lt_tl]
  rw [← split_lt, List.map_map, e2] at sm
  refine ⟨fun a ha => ⟨?_, fun c hc => ?_⟩, ?_⟩
  · have g := sum_ge (fun w : Str => w.length + 1) _ a ha
    rw [sm, ← lt_tl] at g
    have g : a.length + 1 ≤ [].length + x.length + 1 := g
    simp at g
    exact g
  · have m : tl a ∈ (Txt.split x "<").map tl := List.mem_map.mpr ⟨a, ha, rfl⟩
    rw [split_lt] at m
    rcases spl_mem 60 (tl x) [] _ m c hc with z | z
    · cases z
    · exact z
  · have : (Txt.split x "<").length ≤ ((Txt.split x "<").map fun w => w.length + 1).sum := by
      generalize Txt.split x "<" = l
      induction l with
      | nil => exact Nat.zero_le _
      | cons y r ih => rw [List.map_cons, List.sum_cons, List.length_cons]; omega
    rw [sm, ← lt_tl] at this
    simp at this
    omega
def spLawRead (K : PySem.W.Frag) : Sp := fun vs H Q _ => ∃ (G : Hp) (t : Str), vs = [.str t] ∧ Same G H ∧ t.length ≤ 3000 ∧ Sane t ∧
  ((∃ ps : Lead, (wordsT t).map wordP = ps.map some ∧ ∀ (l : Addr) (ts : List Addr) (G1 H1 : Hp), Ext [] G H G1 H1 → H l = none → G1 l = none → H1 l = some (.lst (ts.map V.ref)) → PsAt K G1 ts ps → Q (.ref l) H1) ∨
   ∃ (k : Nat) (x : Str), (wordsT t)[k]? = some x ∧ wordP x = none ∧ (∀ i y, i < k → (wordsT t)[i]? = some y → wordP y ≠ none) ∧ ∀ (tt : Addr) (G1 H1 : Hp), Ext [] G H G1 H1 → H tt = none → G1 tt = some (.tup [.str "BadText", .int (k : Nat)]) → Q (.ref tt) H1)
theorem pure_law_read (vs : List V) (Q : VK) (E : XK) (h : spLawRead K vs H Q E) : t__law_read K w spLawNumber { nx := fun _ H1 => Q .non H1, rt := Q } (start ["_law_text", "_law_found", "_law_words", "_law_place", "_law_parts", "_law_numbers", "_law_part"] vs) H := by
  obtain ⟨G, t, rfl, s, l3000, san, q⟩ := h
  unfold t__law_read
  walk_at "go"
  refine ⟨sz1 (by simp), fun l nl => ?_⟩
  have e0 := (Ext.refl (M := []) s).tmp (o := .lst []) nl
  have gl : G l = none := s.free nl
  have hl0 : upd H l (.lst []) l = some (.lst []) := upd_same
  generalize upd H l (.lst []) = H1 at *
  have rest : ∀ (sp : Addr) (G2 H2 : Hp), Ext [] G H G2 H2 → G2 l = none → H2 l = some (.lst []) → G2 sp = some (.lst ((wordsT t).map V.str)) →
      tSeq (tFor (iRng1 (tCons (tCB (vLen K) (tCons (tVar 2) tNil)) tNil)) (gName 3) (tSeq (tAsg (tM1 XS.rSplit (tOp (rIxL K) (tVar 2) (tVar 3)) (tC (.str "<"))) (gName 4))
        (tSeq (tAsg (tLc (iList K (tVar 4)) (gName 6) tYes (tCall spLawNumber [] E0 (tCons (tVar 6) tNil)) [6]) (gName 5))
        (tSeq (tIfS (tOr (tTest (tOp rNe (tCB (vLen K) (tCons (tVar 4) tNil)) (tC (.int 2)))) (tTest (tOp (rIn K false) (tC .non) (tVar 5)))) (tRet (tTup (tCons (tC (.str "BadText")) (tCons (tVar 3) tNil)))) tNext)
        (tDrop (tBM K "list" rAppend (tVar 1) (tCons (tTup (tCons (tOp (rIxL K) (tVar 5) (tC (.int 0))) (tCons (tOp (rIxL K) (tVar 5) (tC (.int 1))) tNil))) tNil)))))))
        (tRet (tVar 1)) { nx := fun _ H1 => Q .non H1, rt := Q } [some (.str t), some (.ref l), some (.ref sp), none, none, none, none] H2 := by
    intro sp G2 H2 e1 gl1 hl1 gW
    have cnt : (wordsT t).length ≤ 3001 := by
      unfold wordsT
      split
      · simp
      · have := split_count t; omega
    have lenw : ∀ x, x ∈ wordsT t → x.length ≤ 3000 ∧ Sane x := fun x hx => by
      have m := wordsT_mem hx
      have := split_len m
      exact ⟨by omega, split_sane san m⟩
    generalize wordsT t = W at *
    walk_at "go"
    refine k_len (.inl (e1.s.seq (SqL.of gW))) ?_
    rw [List.length_map]
    walk_at "go"
    refine ⟨_, rfl, by omega, by omega, ?_⟩
    rw [show (((W.length : Nat) : Int)).toNat = W.length by omega]
    refine forR (M := [l]) e1.s (fun i σ1 G3 H3 => (∃ x3 x4 x5 x6, σ1 = [some (.str t), some (.ref l), some (.ref sp), x3, x4, x5, x6]) ∧ G3 l = none ∧ ∃ (ts : List Addr) (ps : Lead), H3 l = some (.lst (ts.map V.ref)) ∧ PsAt K G3 ts ps ∧ (W.take i).map wordP = ps.map some)
      ⟨⟨none, none, none, none, rfl⟩, gl1, [], [], hl1, .nil, rfl⟩ (fun i σ1 G3 H3 hi e ⟨⟨x3, x4, x5, x6, es⟩, gl3, ts, ps, hl3, pt, epp⟩ => ?_) (fun σ1 G3 H3 e ⟨⟨x3, x4, x5, x6, es⟩, gl3, ts, ps, hl3, pt, epp⟩ => ?_)
    · subst es
      have ei : W[i]? = some W[i] := List.getElem?_eq_getElem hi
      obtain ⟨lw, sw⟩ := lenw _ (List.getElem_mem hi)
      obtain ⟨pm, pc⟩ := parts_of W[i]
      have lps : ps.length ≤ i := by have := congrArg List.length epp; rw [List.length_map, List.length_map, List.length_take] at this; omega
      have lts : ts.length = ps.length := MV.paired_len pt
      have goods : ∀ j y, j < i → W[j]? = some y → wordP y ≠ none := fun j y hj ej => by
        have m : ((W.take i).map wordP)[j]? = some (wordP y) := by rw [List.getElem?_map, List.getElem?_take_of_lt hj, ej]; rfl
        rw [epp, List.getElem?_map] at m
        cases ep : ps[j]? with
        | none => rw [ep] at m; cases m
        | some p => rw [ep] at m; intro z; rw [z] at m; cases m
      have bad : wordP W[i] = none → ∀ (tt : Addr) (G5 H5 : Hp), Ext [] G H G5 H5 → H tt = none → G5 tt = some (.tup [.str "BadText", .int (i : Nat)]) → Q (.ref tt) H5 := by
        intro wb tt G5 H5 e5 ntt gtt
        rcases q with ⟨ps', ep, _⟩ | ⟨k, x, ek, wk, gk, qe⟩
        · have m : (W.map wordP)[i]? = some (wordP W[i]) := by rw [List.getElem?_map, ei]; rfl
          rw [ep, wb, List.getElem?_map] at m
          cases e6 : ps'[i]? with
          | none => rw [e6] at m; cases m
          | some p => rw [e6] at m; cases m
        · have hik : i = k := by
            rcases Nat.lt_trichotomy i k with z | z | z
            · exact absurd wb (gk i _ z ei)
            · exact z
            · exact absurd wk (goods k x z ek)
          subst hik
          exact qe tt G5 H5 e5 ntt gtt
      walk_at "go"
      refine k_m1 ?_
      walk_at "go"
      refine k_ixL (e.s.seq (e.g.seq (SqL.of gW))) (v := .str W[i]) (by rw [Int.zero_add]; exact atI_nat (by rw [List.getElem?_map, ei]; rfl)) ?_
      refine ⟨⟨_, rfl⟩, ?_⟩
      walk_at "go"
      refine ⟨W[i], "<", rfl, rfl, by rw [lt_tl, tl_lt]; rfl, sz1 (by omega), fun pa npa => ?_⟩
      have wp := word_parts W[i]
      generalize Txt.split W[i] "<" = P at *
      have ea := (Ext.refl (M := [l]) e.s).new (o := .lst (P.map V.str)) npa
      have lpa : l ≠ pa := fun z => by rw [z, npa] at hl3; cases hl3
      have hla : upd H3 pa (.lst (P.map V.str)) l = some (.lst (ts.map V.ref)) := by rw [upd_ne lpa]; exact hl3
      have gla : (upd G3 pa (.lst (P.map V.str))) l = none := by rw [upd_ne lpa]; exact gl3
      have gpa : (upd G3 pa (.lst (P.map V.str))) pa = some (.lst (P.map V.str)) := upd_same
      generalize upd G3 pa (.lst (P.map V.str)) = Ga at *
      generalize upd H3 pa (.lst (P.map V.str)) = Ha at *
      walk_at "go"
      refine ⟨pa, rfl, ⟨_, ea.s.seq (SqL.of gpa)⟩, ?_⟩
      refine lcL (M := []) ea.s (fun _ h => nomatch h) (SqL.of gpa) (by rw [List.length_map]; omega) (fun j acc G4 H4 => acc = (P.take j).map nv) (fun _ _ _ _ _ _ h => h) rfl
        (fun j x acc G4 H4 Ry Rn hj ex e4 iv hy hn => ?_) (fun nb acc G4 H4 e4 nnb gnb hnb hlb iv => ?_)
      · subst iv
        rw [List.length_map] at hj
        rw [List.getElem?_map, List.getElem?_eq_getElem hj] at ex
        have ex2 : V.str P[j] = x := Option.some.inj ex
        subst ex2
        obtain ⟨lp, cp⟩ := pm _ (List.getElem_mem hj)
        walk_at "go"
        refine ⟨rfl, ?_⟩
        walk_at "go"
        refine ⟨G4, P[j], rfl, e4.s, by omega, fun c hc => sw c (cp c hc), fun H5 e5 => ?_⟩
        refine hy _ _ _ e5 ?_
        rw [List.take_add_one, List.getElem?_eq_getElem hj, List.map_append]
        rfl
      · subst iv
        rw [List.length_map, List.take_length] at hnb
        have e4l : Ext [l] G3 H3 G4 H4 := ea.trans e4.to
        have hl4 := e4.keep0 hla
        have gl4 := e4.un gla hla
        walk_at "go"
        refine k_len (.inl (e4.s.seq (e4.g.seq (SqL.of gpa)))) ?_
        rw [List.length_map]
        walk_at "go"
        have badT : wordP W[i] = none → tRet (tTup (tCons (tC (.str "BadText")) (tCons (tVar 3) tNil))) { nx := fun _ H1 => True, rt := Q } [some (.str t), some (.ref l), some (.ref sp), some (.int (0 + (i : Int))), some (.ref pa), some (.ref nb), x6] H4 := by
          intro wb
          refine k_ret (k_tup (k_cons (k_c (k_cons (k_var rfl (k_nil ⟨sz1 (by simp), fun tt ntt => ?_⟩))))))
          have E4 : Ext [] G H G4 H4 := e1.fin (e.trans e4l) (fun z hz => by rw [List.mem_singleton.mp hz]; exact .inr nl)
          have f := E4.new (o := .tup [.str "BadText", .int (0 + (i : Int))]) ntt
          exact bad wb tt _ _ f (E4.d _ ntt) (by rw [upd_same, Int.zero_add])
        rcases wp with ⟨a, b, eP, we⟩ | ⟨nP, we⟩
        · subst eP
          refine k_nfalse (by simp) ?_
          walk_at "go"
          refine ⟨nb, _, rfl, .inl (SqL.of hnb), rfl, nv_flat _, ?_⟩
          have ein : inV .non ([a, b].map nv) = (!numB a || (!numB b || false)) := by
            show (eqV (nv a) .non || (eqV (nv b) .non || false)) = _
            rw [nv_non, nv_non]
          rw [ein]
          walk_at "go"
          cases h1 : numB a with
          | false =>
            rw [h1, Bool.false_and, if_neg Bool.false_ne_true] at we
            refine L2.iteT ?_
            exact badT we
          | true =>
            cases h2 : numB b with
            | false =>
              rw [h2, Bool.and_false, if_neg Bool.false_ne_true] at we
              refine L2.iteT ?_
              exact badT we
            | true =>
              rw [h1, h2, if_pos (show (true && true) = true from rfl)] at we
              refine L2.iteF ?_
              walk_at "go"
              refine ⟨tyL hl4, ?_⟩
              walk_at "go"
              refine k_ixL (SqL.of hnb) (v := .int (valT a)) (by
                have : nv a = .int (valT a) := by unfold nv; rw [h1, if_pos rfl]
                rw [← this]; exact atI_nat (j := 0) rfl) ?_
              walk_at "go"
              refine k_ixL (SqL.of hnb) (v := .int (valT b)) (by
                have : nv b = .int (valT b) := by unfold nv; rw [h2, if_pos rfl]
                rw [← this]; exact atI_nat (j := 1) rfl) ?_
              walk_at "go"
              refine ⟨sz1 (by simp), fun tp ntp => ?_⟩
              have e6 := e4l.new (o := .tup [.int (valT a), .int (valT b)]) ntp
              have ltp : l ≠ tp := fun z => by rw [z, ntp] at hl4; cases hl4
              have hl6 : upd H4 tp (.tup [.int (valT a), .int (valT b)]) l = some (.lst (ts.map V.ref)) := by rw [upd_ne ltp]; exact hl4
              have g6 : (upd G4 tp (.tup [.int (valT a), .int (valT b)])) l = none := by rw [upd_ne ltp]; exact gl4
              walk_at "go"
              refine k_append hl6 (sz2 (by rw [List.length_map]; omega)) ?_
              walk_at "go"
              refine ⟨_, e6.mutM (List.mem_singleton.mpr rfl) g6, ⟨_, _, _, _, rfl⟩, g6, ts ++ [tp], ps ++ [(valT a, valT b)], by rw [upd_same, List.map_append]; rfl, ?_, ?_⟩
              · exact MV.paired_app (PsAt.mono pt ((ea.g.trans e4.g).trans (same_new (e4.s.free ntp)))) (SqT.of upd_same)
              · rw [List.take_add_one, ei, List.map_append, List.map_append, epp]
                show _ ++ [wordP W[i]] = _
                rw [we]; rfl
        · refine k_ntrue (by omega) ?_
          exact badT we
    · subst es
      rw [List.take_length] at epp
      walk_at "go"
      rcases q with ⟨ps', ep, qq⟩ | ⟨k, x, ek, wk, _⟩
      · have : ps = ps' := by
          rw [epp] at ep
          have inj : ∀ {a b : Lead}, a.map some = b.map some → a = b := fun {a b} z => by
            have := congrArg (List.filterMap id) z
            simpa using this
          exact inj ep
        subst this
        exact qq l ts G3 H3 (e1.fin e (fun z hz => by rw [List.mem_singleton.mp hz]; exact .inr nl)) nl gl3 hl3 pt
      · have m : (W.map wordP)[k]? = some none := by rw [List.getElem?_map, ek]; show some (wordP x) = _; rw [wk]
        rw [epp, List.getElem?_map] at m
        cases e6 : ps[k]? with
        | none => rw [e6] at m; cases m
        | some p => rw [e6] at m; cases m
  walk_at "go"
  refine k_ne rfl ?_
  rw [CX.dec_str]
  walk_at "go"
  refine k_nboth (fun hz => ?_) (fun hz => ?_)
  · have wn : wordsT t = Txt.split t " " := by unfold wordsT; rw [if_neg hz]
    walk_at "go"
    refine k_m1 ?_
    walk_at "go"
    refine ⟨⟨_, rfl⟩, ?_⟩
    walk_at "go"
    refine ⟨t, " ", rfl, rfl, by rw [lt_tl, tl_bl]; rfl, sz1 (by omega), fun sp nsp => ?_⟩
    refine k_name ?_
    have lsp : l ≠ sp := fun z => by rw [z, nsp] at hl0; cases hl0
    exact rest sp _ _ (e0.new nsp) (by rw [upd_ne lsp]; exact gl) (by rw [upd_ne lsp]; exact hl0) (by rw [upd_same, wn])
  · have wn : wordsT t = [] := by unfold wordsT; rw [if_pos hz]
    walk_at "go"
    refine ⟨sz1 (by simp), fun sp nsp => ?_⟩
    refine k_name ?_
    have lsp : l ≠ sp := fun z => by rw [z, nsp] at hl0; cases hl0
    exact rest sp _ _ (e0.new nsp) (by rw [upd_ne lsp]; exact gl) (by rw [upd_ne lsp]; exact hl0) (by rw [upd_same, wn]; rfl)
end
end CW
namespace CW
open PySem PySem.Spec PyProof.Rows L2 MV CX CP CD
local macro_rules | `(tactic| walk_at "go") => `(tactic| repeat (first
  | with_reducible refine MV.k_seq ?_ | with_reducible refine MV.k_asg ?_ | with_reducible refine MV.k_name ?_ | with_reducible refine MV.k_op ?_ | ((with_reducible apply MV.k_var); exact rfl) | with_reducible refine MV.k_c ?_
  | with_reducible refine MV.k_add ?_ | with_reducible refine MV.k_sub ?_ | with_reducible refine MV.k_lt ?_ | with_reducible refine MV.k_le ?_ | with_reducible refine MV.k_gt ?_ | with_reducible refine MV.k_ge ?_ | with_reducible refine MV.k_eqI ?_ | with_reducible refine MV.k_neI ?_
  | with_reducible refine MV.k_test ?_ | with_reducible refine MV.k_B ?_ | with_reducible refine MV.k_bl ?_ | with_reducible refine MV.k_blV ?_ | with_reducible refine MV.k_and ?_ | with_reducible refine MV.k_or ?_ | with_reducible refine MV.k_not ?_ | with_reducible refine MV.k_andV ?_ | with_reducible refine MV.k_orV ?_ | with_reducible refine MV.k_notV ?_
  | with_reducible refine MV.k_if ?_ | with_reducible refine MV.k_tru ?_ | with_reducible refine MV.k_chain ?_ | with_reducible refine MV.k_next ?_ | with_reducible refine MV.k_drop ?_ | with_reducible refine MV.k_ret ?_ | with_reducible refine MV.k_retN ?_ | with_reducible refine MV.k_ifS ?_ | with_reducible refine MV.k_brk ?_ | with_reducible refine MV.k_cont ?_
  | with_reducible refine MV.k_nil ?_ | with_reducible refine MV.k_cons ?_ | with_reducible refine MV.k_tup ?_ | with_reducible refine MV.k_lst ?_ | with_reducible refine MV.k_cb ?_ | with_reducible refine MV.k_call ?_ | with_reducible refine MV.k_gnil ?_ | with_reducible refine MV.k_gcons ?_ | with_reducible refine MV.k_gsub ?_
  | with_reducible refine MV.k_bm ?_ | with_reducible refine MV.k_bm0 ?_ | with_reducible refine MV.k_un ?_ | with_reducible refine MV.k_neg ?_ | with_reducible refine MV.k_isN ?_ | with_reducible refine MV.k_notN ?_ | with_reducible refine L2.iteT ?_ | with_reducible refine L2.iteF ?_
  | with_reducible refine MV.k_iList ?_ | with_reducible refine MV.k_iTup ?_ | with_reducible refine MV.k_iRng1 ?_ | with_reducible refine MV.k_lc ?_ | with_reducible refine MV.k_for ?_
  | with_reducible refine MV.k_yes ?_ | with_reducible refine MV.k_dput ?_ | with_reducible refine MV.k_dget ?_ | with_reducible refine MV.k_dget1 ?_ | with_reducible refine MV.k_sl ?_ | with_reducible refine MV.k_nopart ?_ | with_reducible refine MV.k_part ?_ | with_reducible refine MV.k_pint ?_ | with_reducible refine MV.k_dnew ?_ | with_reducible refine MV.k_lstRg ?_ | with_reducible refine MV.k_rg1 ?_
  | with_reducible refine CX.k_callS ?_ | with_reducible refine CX.k_iEnum ?_))
open TL PySem.NumText
section
variable {K : PySem.W.Frag} {w : World} {H : Hp}
/-! ### a text changed -/
theorem pushD {c a p : Addr} {ns : List Int} {G H : Hp} (d : Dr K c a ns G H) (o : HO) (n : H p = none) : ∃ G1 H1, H1 = upd H p o ∧ Ext [] G H G1 H1 ∧ Dr K c a ns G1 H1 ∧ G1 p = some o :=
  ⟨_, _, rfl, (Ext.refl d.s).new n, d.new n, upd_same⟩
theorem cutS_mem {z : Str} {lo hi : Option Int} {c : Nat} (h : c ∈ tl (cutS z lo hi)) : c ∈ tl z := by
  have h' : c ∈ (z.cps.toList.drop (HT.sIx z.length 0 lo)).take (HT.sIx z.length z.length hi - HT.sIx z.length 0 lo) := h
  exact List.mem_of_mem_drop (List.mem_of_mem_take h')
theorem sane_app {x y : Str} (hx : Sane x) (hy : Sane y) : Sane (x ++ y) := fun c hc => by
  rw [tl_append] at hc
  rcases List.mem_append.mp hc with h | h
  · exact hx c h
  · exact hy c h
theorem len_app (x y : Str) : (x ++ y).length = x.length + y.length := by rw [lt_tl, tl_append, List.length_append, ← lt_tl, ← lt_tl]
theorem sane_cut {z : Str} {lo hi : Option Int} (h : Sane z) : Sane (cutS z lo hi) := fun c hc => h c (cutS_mem hc)
def signsT : Str := "0123456789 <<>-+._a"
theorem tl_signs : tl ("0123456789 <<>-+._a" : Str) = [48, 49, 50, 51, 52, 53, 54, 55, 56, 57, 32, 60, 60, 62, 45, 43, 46, 95, 97] := by rw [tl_ofString]; rfl
theorem signs_lt : ∀ c, c ∈ tl ("0123456789 <<>-+._a" : Str) → c < 128 := by
  rw [tl_signs]; decide
theorem len1_sum : ∀ Z : List Str, (Z.map (fun w => w.length + 1)).sum = (Z.map (·.length)).sum + Z.length
  | [] => rfl
  | x :: r => by rw [List.map_cons, List.sum_cons, len1_sum r, List.map_cons, List.sum_cons, List.length_cons]; omega
def oddT : List Str := ["", "0<00", "07<1", "-1<2", "1<2000", "999<0", "0<999", "1<2<3", "<", "1", "1<", "<1"]
theorem odd_ok : ∀ x, x ∈ oddT → x.length ≤ 6 ∧ Sane x := by
  have go : ∀ (s : String), (s.toList.length ≤ 6 ∧ ∀ c, c ∈ s.toList → c.toNat < 128) → (Str.ofString s).length ≤ 6 ∧ Sane (Str.ofString s) := fun s h => by
    refine ⟨?_, fun c hc => ?_⟩
    · rw [lt_tl, tl_ofString, List.length_map]; exact h.1
    · rw [tl_ofString] at hc
      obtain ⟨y, hy, rfl⟩ := List.mem_map.mp hc
      exact Nat.lt_trans (h.2 y hy) (by decide)
  intro x hx
  simp only [oddT, List.mem_cons, List.not_mem_nil, or_false] at hx
  rcases hx with rfl | rfl | rfl | rfl | rfl | rfl | rfl | rfl | rfl | rfl | rfl | rfl
  · exact go "" (by decide)
  · exact go "0<00" (by decide)
  · exact go "07<1" (by decide)
  · exact go "-1<2" (by decide)
  · exact go "1<2000" (by decide)
  · exact go "999<0" (by decide)
  · exact go "0<999" (by decide)
  · exact go "1<2<3" (by decide)
  · exact go "<" (by decide)
  · exact go "1" (by decide)
  · exact go "1<" (by decide)
  · exact go "<1" (by decide)
theorem empty_sane : Sane ("" : Str) := fun c hc => by
  have : c ∈ ([] : List Nat) := hc
  cases this
theorem strs_ix {p : Addr} {ws : List Str} {i : Int} {Q : VK} (h : SqL K H p (ws.map V.str)) (i0 : 0 ≤ i) (i1 : i < (ws.length : Nat)) (q : ∀ x, ws[i.toNat]? = some x → Q (.str x) H) : rIxL K (.ref p) (.int i) H Q := by
  obtain ⟨k, rfl⟩ : ∃ k : Nat, i = k := ⟨i.toNat, by omega⟩
  have hk : k < ws.length := by omega
  exact k_ixL h (atI_nat (by rw [List.getElem?_map, List.getElem?_eq_getElem hk]; rfl)) (q _ (List.getElem?_eq_getElem hk))
def spLawChanged (K : PySem.W.Frag) : Sp := fun vs H Q _ => ∃ (c a : Addr) (ns : List Int) (G : Hp) (t : Str), vs = [.ref a, .str t] ∧ Dr K c a ns G H ∧ t.length ≤ 1000 ∧ Sane t ∧
  ∀ (t' : Str) (G1 H1 : Hp), Ext [a] G H G1 H1 → Dr K c a ns G1 H1 → t'.length ≤ 2 * t.length + 10 → Sane t' → Q (.str t') H1
theorem pure_law_changed (vs : List V) (Q : VK) (E : XK) (h : spLawChanged K vs H Q E) : t__law_changed K w (spDrawn K) { nx := fun _ H1 => Q .non H1, rt := Q } (start ["_law_state", "_law_text", "_law_way", "_law_at", "_law_sign", "_law_words", "_law_k", "_law_odd", "_law_some"] vs) H := by
  obtain ⟨c, a, ns, G, t, rfl, d, lt, sa, q⟩ := h
  unfold t__law_changed
  walk_at "go"
  refine d.draw (M := [a]) (by simp) (by decide) (by decide) fun way H1 w0 w1 e1 d1 _ => ?_
  walk_at "go"
  refine ⟨t, rfl, sz1 (by omega), ?_⟩
  walk_at "go"
  refine d1.draw (M := [a]) (by simp) (by omega) (by omega) fun at0 H2 a0 a1 e2 d2 _ => ?_
  walk_at "go"
  refine d2.draw (M := [a]) (by simp) (by decide) (by decide) fun sg H3 s0 s1 e3 d3 _ => ?_
  have E3 : Ext [a] G H G H3 := (e1.trans e2).trans e3
  clear e1 e2 e3 d1 d2
  obtain ⟨k, rfl⟩ : ∃ k : Nat, sg = k := ⟨sg.toNat, by omega⟩
  have ts := tl_signs
  have hs : k < (tl ("0123456789 <<>-+._a" : Str)).length := by rw [ts]; show k < 19; omega
  refine ⟨"0123456789 <<>-+._a", k, (tl ("0123456789 <<>-+._a" : Str))[k], rfl, rfl, by rw [lt_tl, ts]; exact sz1 (by show 19 ≤ 100000; decide), atI_nat (List.getElem?_eq_getElem hs), ?_⟩
  have hsane : (tl ("0123456789 <<>-+._a" : Str))[k] < 128 := by
    exact signs_lt _ (List.getElem_mem hs)
  generalize (tl ("0123456789 <<>-+._a" : Str))[k] = sgn at *
  have sS : Sane ⟨#[sgn]⟩ := fun c hc => by
    have : c = sgn := List.mem_singleton.mp hc
    omega
  have lS : (⟨#[sgn]⟩ : Str).length = 1 := rfl
  generalize (⟨#[sgn]⟩ : Str) = S at *
  clear hs ts hsane
  walk_at "go"
  refine k_both (fun h3 => ?_) (fun h3 => ?_)
  · walk_at "go"
    refine ⟨t, rfl, sz1 (by omega), ?_⟩
    have lc1 := cutS_length t none (some at0)
    have sc1 := sane_cut (lo := none) (hi := some at0) sa
    generalize cutS t none (some at0) = A at *
    walk_at "go"
    refine ⟨sz1 (by simp), fun p np => ?_⟩
    obtain ⟨G4, H4, eH, e4, d4, g4⟩ := pushD d3 (.lst [.str S, .str "", .str S]) np
    rw [← eH]
    walk_at "go"
    refine strs_ix (ws := [S, "", S]) (SqL.of (d4.s _ _ g4)) w0 (by show way < 3; exact h3) fun y hy => ?_
    have ym : y = S ∨ y = "" := by
      have := List.mem_of_getElem? hy
      simp only [List.mem_cons, List.not_mem_nil, or_false] at this
      rcases this with rfl | rfl | rfl
      · exact .inl rfl
      · exact .inr rfl
      · exact .inl rfl
    have yl : y.length ≤ 1 := by
      rcases ym with rfl | rfl
      · omega
      · exact Nat.zero_le _
    have ys : Sane y := by
      rcases ym with rfl | rfl
      · exact sS
      · exact empty_sane
    refine ⟨A, y, rfl, rfl, sz1 (by omega), ?_⟩
    walk_at "go"
    refine .inr ⟨_, rfl, ?_⟩
    walk_at "go"
    refine ⟨t, rfl, sz1 (by omega), ?_⟩
    generalize hB : cutS t (some _) none = B
    have lc2 : B.length ≤ t.length := by rw [← hB]; exact cutS_length t _ none
    have sc2 : Sane B := by rw [← hB]; exact sane_cut sa
    have l1 := len_app A y
    have l2 := len_app (A ++ y) B
    refine ⟨A ++ y, B, rfl, rfl, sz1 (by omega), ?_⟩
    exact q _ _ _ (E3.trans e4.to) d4 (by omega) (sane_app (sane_app sc1 ys) sc2)
  · walk_at "go"
    refine k_m1 ?_
    walk_at "go"
    refine ⟨⟨_, rfl⟩, ?_⟩
    walk_at "go"
    refine ⟨t, " ", rfl, rfl, by rw [lt_tl, tl_bl]; rfl, sz1 (by omega), fun sp nsp => ?_⟩
    have wsum := words_sum t
    have wpos := split_pos t
    have wcnt := split_count t
    have wlen : ∀ x, x ∈ Txt.split t " " → x.length ≤ t.length ∧ Sane x := fun x hx => ⟨split_len hx, split_sane sa hx⟩
    generalize Txt.split t " " = W at *
    obtain ⟨G4, H4, eH, e4, d4, g4⟩ := pushD d3 (.lst (W.map V.str)) nsp
    rw [← eH]
    walk_at "go"
    refine k_len (.inl (d4.s.seq (SqL.of g4))) ?_
    rw [List.length_map]
    walk_at "go"
    refine d4.draw (M := [a]) (by simp) (by omega) (by omega) fun kk H5 k0 k1 e5 d5 _ => ?_
    obtain ⟨j, rfl⟩ : ∃ j : Nat, kk = j := ⟨kk.toNat, by omega⟩
    have hj : j < W.length := by omega
    have E5 := (E3.trans e4.to).trans e5
    walk_at "go"
    refine ⟨sz1 (by simp), fun od nod => ?_⟩
    obtain ⟨G6, H6, eH, e6, d6, g6⟩ := pushD d5 (.lst (oddT.map V.str)) nod
    have eH' : upd H5 od (.lst [.str "", .str "0<00", .str "07<1", .str "-1<2", .str "1<2000", .str "999<0", .str "0<999", .str "1<2<3", .str "<", .str "1", .str "1<", .str "<1"]) = H6 := by rw [eH]; rfl
    rw [eH']
    clear eH eH'
    walk_at "go"
    refine ⟨sz1 (by simp), fun o1 no1 => ?_⟩
    obtain ⟨G7, H7, eH, e7, d7, g7⟩ := pushD d6 (.lst (([] : List Str).map V.str)) no1
    have eH' : upd H6 o1 (.lst []) = H7 := by rw [eH]; rfl
    rw [eH']
    clear eH eH'
    have gW7 : G7 sp = some (.lst (W.map V.str)) := e7.g _ _ (e6.g _ _ g4)
    walk_at "go"
    refine strs_ix (d7.s.seq (SqL.of gW7)) k0 k1 fun x1 hx1 => ?_
    have ex1 : x1 = W[j] := by rw [show ((j : Nat) : Int).toNat = j by omega, List.getElem?_eq_getElem hj] at hx1; exact (Option.some.inj hx1).symm
    walk_at "go"
    refine strs_ix (d7.s.seq (SqL.of gW7)) k0 k1 fun x2 hx2 => ?_
    have ex2 : x2 = W[j] := by rw [show ((j : Nat) : Int).toNat = j by omega, List.getElem?_eq_getElem hj] at hx2; exact (Option.some.inj hx2).symm
    subst ex1 ex2
    walk_at "go"
    refine ⟨sz1 (by simp), fun o2 no2 => ?_⟩
    obtain ⟨G8, H8, eH, e8, d8, g8⟩ := pushD d7 (.lst ([W[j], W[j]].map V.str)) no2
    have eH' : upd H7 o2 (.lst [.str W[j], .str W[j]]) = H8 := by rw [eH]; rfl
    rw [eH']
    clear eH eH'
    walk_at "go"
    refine d8.draw (M := [a]) (by simp) (by decide) (by decide) fun oo H9 o0 o1' e9 d9 _ => ?_
    have go9 : G8 od = some (.lst (oddT.map V.str)) := e8.g _ _ (e7.g _ _ g6)
    refine strs_ix (d9.s.seq (SqL.of go9)) o0 (by show oo < 12; exact o1') fun x3 hx3 => ?_
    have ok3 := odd_ok x3 (List.mem_of_getElem? hx3)
    walk_at "go"
    refine ⟨sz1 (by simp), fun o3 no3 => ?_⟩
    obtain ⟨G10, H10, eH, e10, d10, g10⟩ := pushD d9 (.lst ([x3].map V.str)) no3
    have eH' : upd H9 o3 (.lst [.str x3]) = H10 := by rw [eH]; rfl
    rw [eH']
    clear eH eH'
    walk_at "go"
    refine ⟨sz1 (by simp), fun o4 no4 => ?_⟩
    obtain ⟨G11, H11, eH, e11, d11, g11⟩ := pushD d10 (.lst [.ref o1, .ref o2, .ref o3]) no4
    rw [← eH]
    clear eH
    walk_at "go"
    have E11 : Ext [a] G H G11 H11 := (((((E5.trans e6.to).trans e7.to).trans e8.to).trans e9).trans e10.to).trans e11.to
    have K8 : Same G8 G11 := e10.g.trans e11.g
    have K7 : Same G7 G11 := e8.g.trans K8
    have gW : G11 sp = some (.lst (W.map V.str)) := K7 _ _ gW7
    have some3 : ∃ (o : Addr) (M : List Str), [V.ref o1, V.ref o2, V.ref o3][(way - 3).toNat]? = some (.ref o) ∧ G11 o = some (.lst (M.map V.str)) ∧ M.length ≤ 2 ∧ (M.map fun w => w.length + 1).sum ≤ W[j].length + t.length + 9 ∧ ∀ x, x ∈ M → Sane x := by
      have wl := wlen _ (List.getElem_mem hj)
      have cc : (way - 3).toNat = 0 ∨ (way - 3).toNat = 1 ∨ (way - 3).toNat = 2 := by omega
      rcases cc with z | z | z
      · rw [z]; exact ⟨o1, [], rfl, K7 _ _ g7, by simp, by simp, fun x hx => nomatch hx⟩
      · rw [z]; exact ⟨o2, [W[j], W[j]], rfl, K8 _ _ g8, by simp, by simp; omega, fun x hx => by
          simp only [List.mem_cons, List.not_mem_nil, or_false, or_self] at hx
          rw [hx]; exact wl.2⟩
      · rw [z]; exact ⟨o3, [x3], rfl, e11.g _ _ g10, by simp, by simp; omega, fun x hx => by
          rw [List.mem_singleton.mp hx]; exact ok3.2⟩
    obtain ⟨o, M, eo, go, lM, sM, saM⟩ := some3
    refine k_ixL (SqL.of (d11.s _ _ g11)) (v := .ref o) (by
      have := atI_nat (xs := [V.ref o1, V.ref o2, V.ref o3]) (j := (way - 3).toNat) eo
      rw [show (((way - 3).toNat : Nat) : Int) = way - 3 by omega] at this
      exact this) ?_
    walk_at "go"
    refine k_m1 ?_
    walk_at "go"
    refine ⟨⟨_, rfl⟩, ?_⟩
    walk_at "go"
    refine ⟨sp, _, rfl, d11.s.seq (SqL.of gW), fun q1 nq1 => ?_⟩
    rw [cut_to (by rw [List.length_map]; omega), ← List.map_take]
    obtain ⟨G12, H12, eH, e12, d12, g12⟩ := pushD d11 (.lst ((W.take j).map V.str)) nq1
    rw [← eH]
    clear eH
    walk_at "go"
    refine ⟨q1, o, _, _, rfl, rfl, d12.s _ _ g12, d12.s _ _ (e12.g _ _ go), sz1 (by rw [List.length_map, List.length_map, List.length_take]; omega), fun q2 nq2 => ?_⟩
    rw [← List.map_append]
    obtain ⟨G13, H13, eH, e13, d13, g13⟩ := pushD d12 (.lst ((W.take j ++ M).map V.str)) nq2
    rw [← eH]
    clear eH
    walk_at "go"
    refine ⟨sp, _, rfl, d13.s.seq (SqL.of (e13.g _ _ (e12.g _ _ gW))), fun q3 nq3 => ?_⟩
    rw [show ((j : Nat) : Int) + 1 = ((j + 1 : Nat) : Int) by omega, cut_off (by rw [List.length_map]; omega), ← List.map_drop]
    obtain ⟨G14, H14, eH, e14, d14, g14⟩ := pushD d13 (.lst ((W.drop (j + 1)).map V.str)) nq3
    rw [← eH]
    clear eH
    walk_at "go"
    refine ⟨q2, q3, _, _, rfl, rfl, d14.s _ _ (e14.g _ _ g13), d14.s _ _ g14, sz1 (by rw [List.length_map, List.length_map, List.length_append, List.length_take, List.length_drop]; omega), fun q4 nq4 => ?_⟩
    rw [← List.map_append]
    obtain ⟨G15, H15, eH, e15, d15, g15⟩ := pushD d14 (.lst ((W.take j ++ M ++ W.drop (j + 1)).map V.str)) nq4
    rw [← eH]
    clear eH
    have sc := sum_cut (fun w : Str => w.length + 1) W j hj
    rw [wsum] at sc
    have sum2 : ((W.take j ++ M ++ W.drop (j + 1)).map fun w => w.length + 1).sum ≤ 2 * t.length + 9 := by
      rw [List.map_append, List.sum_append, List.map_append, List.sum_append]
      omega
    have san2 : ∀ x, x ∈ W.take j ++ M ++ W.drop (j + 1) → Sane x := fun x hx => by
      rcases List.mem_append.mp hx with hx | hx
      · rcases List.mem_append.mp hx with hx | hx
        · exact (wlen x (List.mem_of_mem_take hx)).2
        · exact saM x hx
      · exact (wlen x (List.mem_of_mem_drop hx)).2
    generalize W.take j ++ M ++ W.drop (j + 1) = Z at *
    refine ⟨" ", q4, Z, rfl, rfl, .inl (SqL.of (d15.s _ _ g15)), ?_, ?_⟩
    · have e1 : (" " : Str).length = 1 := by rw [lt_tl, tl_bl]; rfl
      have e2 : (Z.map (fun w => w.length + 1)).sum = (Z.map (·.length)).sum + Z.length := len1_sum Z
      rw [e1, Nat.mul_one, ← e2]
      omega
    · have jl := join_len Z
      exact q _ _ _ ((((E11.trans e12.to).trans e13.to).trans e14.to).trans e15.to) d15 (by omega) (join_sane san2)
end
end CW
namespace K13
open PySem PySem.Spec PyProof.Rows L2 MV
def topS (i : Nat) : Stmt := PySem.Challenge.pw_movesatonce_k13_written_and_read.main.body.getD i (.Pass ⟨0, 0, 0, 0⟩)
structure Txt (P : Program) (K : PySem.W.Frag) (mg : Str → Option Value) : Prop where
  m_ValueError : mg "ValueError" = none
  m_bool : mg "bool" = none
  m_enumerate : mg "enumerate" = none
  m_int : mg "int" = none
  m_isinstance : mg "isinstance" = none
  m_len : mg "len" = none
  m_list : mg "list" = none
  m_range : mg "range" = none
  m_sorted : mg "sorted" = none
  m_str : mg "str" = none
  m_tuple : mg "tuple" = none
  g_MOST_FIGURES : ∃ u, mg "MOST_FIGURES" = some u ∧ RelV (.int 3) u
  x_BadCall : mg "BadCall" = some (.ref (He.ga K "BadCall"))
  q_BadCall : EX.PlainX K "BadCall"
  x_BadHouse : mg "BadHouse" = some (.ref (He.ga K "BadHouse"))
  q_BadHouse : EX.PlainX K "BadHouse"
  x_BadLead : mg "BadLead" = some (.ref (He.ga K "BadLead"))
  q_BadLead : EX.PlainX K "BadLead"
  x_BadMove : mg "BadMove" = some (.ref (He.ga K "BadMove"))
  b_BadMove : PySem.BX.BadTxt K P (He.ga K "BadMove") (He.ma K (He.ga K "BadMove") "__init__") "number"
  x_BadSpare : mg "BadSpare" = some (.ref (He.ga K "BadSpare"))
  q_BadSpare : EX.PlainX K "BadSpare"
  x_BadText : mg "BadText" = some (.ref (He.ga K "BadText"))
  b_BadText : PySem.BX.BadTxt K P (He.ga K "BadText") (He.ma K (He.ga K "BadText") "__init__") "place"
  x_BadWord : mg "BadWord" = some (.ref (He.ga K "BadWord"))
  q_BadWord : EX.PlainX K "BadWord"
  x_MoveError : mg "MoveError" = some (.ref (He.ga K "MoveError"))
  x_NoWay : mg "NoWay" = some (.ref (He.ga K "NoWay"))
  q_NoWay : EX.PlainX K "NoWay"
section
variable {P : Program} {w : World} {K : PySem.W.Frag} {mg : Str → Option Value} {base : Heap}
/-! ### written -/
abbrev d_written : Stmt := topS 12
abbrev N_written : List Str := ["lead", "goal", "source"]
theorem sc_written : FnScope N_written ["lead"] (defScope d_written) := ⟨rfl, rfl, rfl, by decide +kernel, rfl, by decide +kernel, by decide +kernel⟩
def t_written (K : PySem.W.Frag) (w : World) : TS :=
  (tRet (tM1 (XS.rJoin K) (tC (.str " ")) (tLc (iList K (tVar 0)) (gTup K 2 (gCons (gName 1) (gCons (gName 2) gNil))) tYes (XS.tF [(tFmt (tVar 1)), (tC (.str "<")), (tFmt (tVar 2))]) [1, 2])))
theorem der_written   {k : Nat} (T : Txt P K mg) {f : Addr} {cdv : Value} {A : Around} {outer : List Env} {s : Shared} {H : Hp} {E : XK} (hr : Room k (A.deeper (envOfC "written" (defScope d_written) s.heap.objs.size f cdv))) :
    PSs (cxOf CX0 P w K mg base N_written "written" (defScope d_written) f cdv A outer s H E).nox (defBody d_written) (t_written K w) :=
  (pss_one (ps_ret (XS.pe_join pe_str (pe_lc (own := [("goal", 1), ("source", 2)]) (g := (gTup K 2 (gCons (gName 1) (gCons (gName 2) gNil)))) (tt := tYes) (te := (XS.tF [(tFmt (tVar 1)), (tC (.str "<")), (tFmt (tVar 2))])) (by rfl) sc_written.nd (pi_list (pv 0)) (blkOk_by (N := N_written) (sc := defScope d_written) (by decide +kernel)) (fun _ _ _ _ _ => (pg_tup (by rfl) (pgs_cons (pg_name (i := 1) sc_written.nd rfl (.inl rfl)) (pgs_cons (pg_name (i := 2) sc_written.nd rfl (.inl rfl)) pgs_nil)))) (fun _ _ _ _ _ => pts_nil) (fun _ _ _ _ _ => (XS.pe_f (.cons (pe_fmt (pv 1)) (.cons pe_str (.cons (pe_fmt (pv 2)) .nil)))))))))
theorem fn_written   {k : Nat} {sp : Sp} (T : Txt P K mg) {f : Addr} {fd : FuncData} (F : Fun K "written" "written" d_written f fd) (len : ∀ vs H Q E, sp vs H Q E → vs.length = 1)
    (h : ∀ vs H Q E, sp vs H Q E → t_written K w { nx := fun _ H1 => Q .non H1, rt := Q } (start N_written vs) H) : FnOk P w K mg base CX0 (k + 1) f fd ["lead"] sp :=
  F.ok sc_written len (fun cdv A outer s H vs Q E hr q => ⟨_, der_written T hr, h vs H Q E q⟩)
theorem cal_written   {k : Nat} {sp : Sp} (T : Txt P K mg) {f : Addr} {fd : FuncData} (F : Fun K "written" "written" d_written f fd) (hb : Binds K fd ["lead"] []) (hm : mg "written" = some (.ref f)) (len : ∀ vs H Q E, sp vs H Q E → vs.length = 1)
    (h : ∀ vs H Q E, sp vs H Q E → t_written K w { nx := fun _ H1 => Q .non H1, rt := Q } (start N_written vs) H) : C8.Cal P w K mg base (k + 1) "written" sp [] :=
  ⟨f, fd, ["lead"], [], fn_written T F len h, hm, F.kp, hb, .nil⟩
/-! ### is_number -/
abbrev d_is_number : Stmt := topS 13
abbrev N_is_number : List Str := ["word"]
theorem sc_is_number : FnScope N_is_number ["word"] (defScope d_is_number) := ⟨rfl, rfl, rfl, by decide +kernel, rfl, by decide +kernel, by decide +kernel⟩
def t_is_number (K : PySem.W.Frag) (w : World) : TS :=
  (tSeq (tIfS (tOr (tNot (tB (tM0 XS.rAsc (tVar 0)))) (tOr (tNot (tB (tM0 XS.rDig (tVar 0)))) (tTest (tOp vGt (tCB XS.rLenS (tCons (tVar 0) tNil)) (tC (.int 3)))))) (tRet (tC (.bl false))) tNext)
    (tRet (tOrV (tOp rEq (tVar 0) (tC (.str "0"))) (tNotV (tM1 XS.rSw (tVar 0) (tC (.str "0")))))))
theorem der_is_number   {k : Nat} (T : Txt P K mg) {f : Addr} {cdv : Value} {A : Around} {outer : List Env} {s : Shared} {H : Hp} {E : XK} (hr : Room k (A.deeper (envOfC "is_number" (defScope d_is_number) s.heap.objs.size f cdv))) :
    PSs (cxOf CX0 P w K mg base N_is_number "is_number" (defScope d_is_number) f cdv A outer s H E).nox (defBody d_is_number) (t_is_number K w) :=
  (pss_cons (ps_if (PW.pt (pw_or (pt_not (pt_val (XS.pe_asc (pv 0)))) (pw_or (pt_not (pt_val (XS.pe_dig (pv 0)))) (pw_or1 (pt_cmpR (op_gt) (pe_callB call_len_str (by rfl) T.m_len PySem.boot_len (pa_cons (pv 0) pa_nil)) (C8.pe_gc (by rfl) T.g_MOST_FIGURES) (nomark _)))))) (pss_one (ps_ret pe_bl)) pss_nil)
    (pss_one (ps_ret (pe_or (pe_cmpR (op_eq) (pv 0) pe_str (nomark _)) (pe_one (pe_not (XS.pe_sw (pv 0) pe_str)))))))
theorem fn_is_number   {k : Nat} {sp : Sp} (T : Txt P K mg) {f : Addr} {fd : FuncData} (F : Fun K "is_number" "is_number" d_is_number f fd) (len : ∀ vs H Q E, sp vs H Q E → vs.length = 1)
    (h : ∀ vs H Q E, sp vs H Q E → t_is_number K w { nx := fun _ H1 => Q .non H1, rt := Q } (start N_is_number vs) H) : FnOk P w K mg base CX0 (k + 1) f fd ["word"] sp :=
  F.ok sc_is_number len (fun cdv A outer s H vs Q E hr q => ⟨_, der_is_number T hr, h vs H Q E q⟩)
theorem cal_is_number   {k : Nat} {sp : Sp} (T : Txt P K mg) {f : Addr} {fd : FuncData} (F : Fun K "is_number" "is_number" d_is_number f fd) (hb : Binds K fd ["word"] []) (hm : mg "is_number" = some (.ref f)) (len : ∀ vs H Q E, sp vs H Q E → vs.length = 1)
    (h : ∀ vs H Q E, sp vs H Q E → t_is_number K w { nx := fun _ H1 => Q .non H1, rt := Q } (start N_is_number vs) H) : C8.Cal P w K mg base (k + 1) "is_number" sp [] :=
  ⟨f, fd, ["word"], [], fn_is_number T F len h, hm, F.kp, hb, .nil⟩
/-! ### read_lead -/
abbrev d_read_lead : Stmt := topS 14
abbrev N_read_lead : List Str := ["text", "lead", "place", "word", "goal", "_", "source"]
theorem sc_read_lead : FnScope N_read_lead ["text"] (defScope d_read_lead) := ⟨rfl, rfl, rfl, by decide +kernel, rfl, by decide +kernel, by decide +kernel⟩
def t_read_lead (K : PySem.W.Frag) (w : World) (s_is_number : Sp) (E : XK) : TS :=
  (tSeq (tAsg (tLst tNil) (gName 1))
    (tSeq (tIfS (tTest (tOp rEq (tVar 0) (tC (.str "")))) (tRet (tVar 1)) tNext)
    (tSeq (tFor (iEnum K (tCons (tM1 XS.rSplit (tVar 0) (tC (.str " "))) tNil)) (gTup K 2 (gCons (gName 2) (gCons (gName 3) gNil))) (tSeq (tAsg (tM1 XS.rPart (tVar 3) (tC (.str "<"))) (gTup K 3 (gCons (gName 4) (gCons (gName 5) (gCons (gName 6) gNil)))))
    (tSeq (tIfS (tOr (tNot (tB (tCall s_is_number [] E0 (tCons (tVar 4) tNil)))) (tNot (tB (tCall s_is_number [] E0 (tCons (tVar 6) tNil))))) (tRaiseBad (He.ga K "BadText") "place" (fun cls d _ H => E cls d H) (tCons (tVar 2) tNil)) tNext)
    (tDrop (tBM K "list" rAppend (tVar 1) (tCons (tTup (tCons (tCB XS.rIntS (tCons (tVar 4) tNil)) (tCons (tCB XS.rIntS (tCons (tVar 6) tNil)) tNil))) tNil))))))
    (tRet (tVar 1)))))
theorem der_read_lead {k_is_number : Nat} {s_is_number : Sp} {k : Nat} (T : Txt P K mg) (c_is_number : C8.Cal P w K mg base k_is_number "is_number" s_is_number []) (l_is_number : k_is_number ≤ k) {f : Addr} {cdv : Value} {A : Around} {outer : List Env} {s : Shared} {H : Hp} {E : XK} (hr : Room k (A.deeper (envOfC "read_lead" (defScope d_read_lead) s.heap.objs.size f cdv))) :
    PSs (cxOf (L2.CX P w) P w K mg base N_read_lead "read_lead" (defScope d_read_lead) f cdv A outer s H E) (defBody d_read_lead) (t_read_lead K w s_is_number E) :=
  (pss_cons (ps_set (i := 1) sc_read_lead.nd rfl (.inl rfl) (pe_lst pa_nil))
    (pss_cons (ps_if (pt_cmpR (op_eq) (pv 0) pe_str (nomark _)) (pss_one (ps_ret (pv 1))) pss_nil)
    (pss_cons (ps_for (passes_of rfl) rfl (pi_enum (by rfl) T.m_enumerate (pa_cons (XS.pe_split (pv 0) pe_str) pa_nil)) (pg_tup (by rfl) (pgs_cons (pg_name (i := 2) sc_read_lead.nd rfl (.inl rfl)) (pgs_cons (pg_name (i := 3) sc_read_lead.nd rfl (.inl rfl)) pgs_nil))) (pss_cons (ps_asg (XS.pe_part (pv 3) pe_str) (pg_tup (by rfl) (pgs_cons (pg_name (i := 4) sc_read_lead.nd rfl (.inl rfl)) (pgs_cons (pg_name (i := 5) sc_read_lead.nd rfl (.inl rfl)) (pgs_cons (pg_name (i := 6) sc_read_lead.nd rfl (.inl rfl)) pgs_nil)))))
    (pss_cons (ps_if (PW.pt (pw_or (pt_not (pt_val (C8.pe_c c_is_number hr (by omega) (by rfl) (pa_cons (pv 4) pa_nil)))) (pw_or1 (pt_not (pt_val (C8.pe_c c_is_number hr (by omega) (by rfl) (pa_cons (pv 6) pa_nil))))))) (pss_one (ps_raiseBad rfl T.b_BadText T.x_BadText hr (takes_of rfl rfl rfl rfl) (by exact (pa_cons (pv 2) pa_nil)))) pss_nil)
    (pss_one (ps_expr (pe_bm PySem.F.plainAttrs_list PySem.F.slot_list_append PySem.F.type_list_append mt_append (pv 1) (pa_cons (pe_tup (pa_cons (pe_callTy XS.call_intS (by rfl) T.m_int (by decide +kernel) (pa_cons (pv 4) pa_nil)) (pa_cons (pe_callTy XS.call_intS (by rfl) T.m_int (by decide +kernel) (pa_cons (pv 6) pa_nil)) pa_nil))) pa_nil)))))))
    (pss_one (ps_ret (pv 1))))))
theorem fn_read_lead {k_is_number : Nat} {s_is_number : Sp} {k : Nat} {sp : Sp} (T : Txt P K mg) {f : Addr} {fd : FuncData} (F : Fun K "read_lead" "read_lead" d_read_lead f fd) (c_is_number : C8.Cal P w K mg base k_is_number "is_number" s_is_number []) (l_is_number : k_is_number ≤ k) (len : ∀ vs H Q E, sp vs H Q E → vs.length = 1)
    (h : ∀ vs H Q E, sp vs H Q E → t_read_lead K w s_is_number E { nx := fun _ H1 => Q .non H1, rt := Q } (start N_read_lead vs) H) : FnOk P w K mg base (L2.CX P w) (k + 1) f fd ["text"] sp :=
  F.okX sc_read_lead len (fun cdv A outer s H vs Q E hr q => ⟨_, der_read_lead T c_is_number l_is_number hr, h vs H Q E q⟩)
theorem cal_read_lead {k_is_number : Nat} {s_is_number : Sp} {k : Nat} {sp : Sp} (T : Txt P K mg) {f : Addr} {fd : FuncData} (F : Fun K "read_lead" "read_lead" d_read_lead f fd) (hb : Binds K fd ["text"] []) (hm : mg "read_lead" = some (.ref f)) (c_is_number : C8.Cal P w K mg base k_is_number "is_number" s_is_number []) (l_is_number : k_is_number ≤ k) (len : ∀ vs H Q E, sp vs H Q E → vs.length = 1)
    (h : ∀ vs H Q E, sp vs H Q E → t_read_lead K w s_is_number E { nx := fun _ H1 => Q .non H1, rt := Q } (start N_read_lead vs) H) : EX.CalX P w K mg base (k + 1) "read_lead" sp :=
  ⟨f, fd, ["text"], fn_read_lead T F c_is_number l_is_number len h, hm, F.kp, hb⟩
/-! ### _law_start -/
abbrev d__law_start : Stmt := topS 16
abbrev N__law_start : List Str := ["_law_script", "_law_mixed", "_law_cell"]
theorem sc__law_start : FnScope N__law_start ["_law_script"] (defScope d__law_start) := ⟨rfl, rfl, rfl, by decide +kernel, rfl, by decide +kernel, by decide +kernel⟩
def t__law_start (K : PySem.W.Frag) (w : World) : TS :=
  (tSeq (tAsg (tC (.int 1)) (gName 1))
    (tSeq (tFor (iList K (tVar 0)) (gName 2) (tAsg (tOp vMod (tOp vAdd (tOp vAdd (tOp vMul (tVar 1) (tC (.int 48271))) (tVar 2)) (tC (.int 7))) (tC (.int 2147483647))) (gName 1)))
    (tRet (tLst (tCons (tVar 0) (tCons (tC (.int 0)) (tCons (tVar 1) (tCons (tC (.int 0)) tNil))))))))
theorem der__law_start   {k : Nat} (T : Txt P K mg) {f : Addr} {cdv : Value} {A : Around} {outer : List Env} {s : Shared} {H : Hp} {E : XK} (hr : Room k (A.deeper (envOfC "_law_start" (defScope d__law_start) s.heap.objs.size f cdv))) :
    PSs (cxOf CX0 P w K mg base N__law_start "_law_start" (defScope d__law_start) f cdv A outer s H E).nox (defBody d__law_start) (t__law_start K w) :=
  (pss_cons (ps_set (i := 1) sc__law_start.nd rfl (.inl rfl) pe_int)
    (pss_cons (ps_for PassesOwn.never rfl (pi_list (pv 0)) (pg_name (i := 2) sc__law_start.nd rfl (.inl rfl)) (pss_one (ps_set (i := 1) sc__law_start.nd rfl (.inl rfl) (pe_op op_mod (pe_op op_add (pe_op op_add (pe_op op_mul (pv 1) pe_int) (pv 2)) pe_int) pe_int))))
    (pss_one (ps_ret (pe_lst (pa_cons (pv 0) (pa_cons pe_int (pa_cons (pv 1) (pa_cons pe_int pa_nil)))))))))
theorem fn__law_start   {k : Nat} {sp : Sp} (T : Txt P K mg) {f : Addr} {fd : FuncData} (F : Fun K "_law_start" "_law_start" d__law_start f fd) (len : ∀ vs H Q E, sp vs H Q E → vs.length = 1)
    (h : ∀ vs H Q E, sp vs H Q E → t__law_start K w { nx := fun _ H1 => Q .non H1, rt := Q } (start N__law_start vs) H) : FnOk P w K mg base CX0 (k + 1) f fd ["_law_script"] sp :=
  F.ok sc__law_start len (fun cdv A outer s H vs Q E hr q => ⟨_, der__law_start T hr, h vs H Q E q⟩)
theorem cal__law_start   {k : Nat} {sp : Sp} (T : Txt P K mg) {f : Addr} {fd : FuncData} (F : Fun K "_law_start" "_law_start" d__law_start f fd) (hb : Binds K fd ["_law_script"] []) (hm : mg "_law_start" = some (.ref f)) (len : ∀ vs H Q E, sp vs H Q E → vs.length = 1)
    (h : ∀ vs H Q E, sp vs H Q E → t__law_start K w { nx := fun _ H1 => Q .non H1, rt := Q } (start N__law_start vs) H) : C8.Cal P w K mg base (k + 1) "_law_start" sp [] :=
  ⟨f, fd, ["_law_script"], [], fn__law_start T F len h, hm, F.kp, hb, .nil⟩
/-! ### _law_drawn -/
abbrev d__law_drawn : Stmt := topS 17
abbrev N__law_drawn : List Str := ["_law_state", "_law_many", "_law_found", "_law_cell"]
theorem sc__law_drawn : FnScope N__law_drawn ["_law_state", "_law_many"] (defScope d__law_drawn) := ⟨rfl, rfl, rfl, by decide +kernel, rfl, by decide +kernel, by decide +kernel⟩
def t__law_drawn (K : PySem.W.Frag) (w : World) : TS :=
  (tSeq (tIfS (tTest (tOp vGt (tOp (rIxL K) (tVar 0) (tC (.int 3))) (tC (.int 0)))) (tSeq (tAsg (tOp vMod (tOp (rIxL K) (tVar 0) (tC (.int 3))) (tVar 1)) (gName 2))
    (tSeq (tAsg (tOp vDiv (tOp (rIxL K) (tVar 0) (tC (.int 3))) (tVar 1)) (gSub (tVar 0) (tC (.int 3)) rSetL))
    (tRet (tVar 2)))) tNext)
    (tSeq (tAsg (tOp vAdd (tOp (rIxL K) (tVar 0) (tC (.int 1))) (tC (.int 1))) (gSub (tVar 0) (tC (.int 1)) rSetL))
    (tSeq (tIfS (tTest (tOp vLe (tOp (rIxL K) (tVar 0) (tC (.int 1))) (tCB (vLen K) (tCons (tOp (rIxL K) (tVar 0) (tC (.int 0))) tNil)))) (tSeq (tAsg (tOp (rIxL K) (tOp (rIxL K) (tVar 0) (tC (.int 0))) (tOp vSub (tOp (rIxL K) (tVar 0) (tC (.int 1))) (tC (.int 1)))) (gName 3))
    (tSeq (tAsg (tIf (tTest (tOp vGe (tVar 3) (tOp vPow (tC (.int 10)) (tC (.int 18))))) (tOp vDiv (tVar 3) (tVar 1)) (tC (.int 0))) (gSub (tVar 0) (tC (.int 3)) rSetL))
    (tRet (tOp vMod (tVar 3) (tVar 1))))) tNext)
    (tSeq (tAsg (tOp vMod (tOp vAdd (tOp vMul (tOp (rIxL K) (tVar 0) (tC (.int 2))) (tC (.int 48271))) (tC (.int 11))) (tC (.int 2147483647))) (gSub (tVar 0) (tC (.int 2)) rSetL))
    (tRet (tOp vMod (tOp vDiv (tOp (rIxL K) (tVar 0) (tC (.int 2))) (tC (.int 7))) (tVar 1)))))))
theorem der__law_drawn   {k : Nat} (T : Txt P K mg) {f : Addr} {cdv : Value} {A : Around} {outer : List Env} {s : Shared} {H : Hp} {E : XK} (hr : Room k (A.deeper (envOfC "_law_drawn" (defScope d__law_drawn) s.heap.objs.size f cdv))) :
    PSs (cxOf CX0 P w K mg base N__law_drawn "_law_drawn" (defScope d__law_drawn) f cdv A outer s H E).nox (defBody d__law_drawn) (t__law_drawn K w) :=
  (pss_cons (ps_if (pt_cmpR (op_gt) (pe_ix ix_list (pv 0) pe_int (fun _ _ => rfl)) pe_int (nomark _)) (pss_cons (ps_set (i := 2) sc__law_drawn.nd rfl (.inl rfl) (pe_op op_mod (pe_ix ix_list (pv 0) pe_int (fun _ _ => rfl)) (pv 1)))
    (pss_cons (ps_asg (pe_op op_fdivW (pe_ix ix_list (pv 0) pe_int (fun _ _ => rfl)) (pv 1)) (pg_sub (pv 0) pe_int set_list))
    (pss_one (ps_ret (pv 2))))) pss_nil)
    (pss_cons (ps_asg (pe_op op_add (pe_ix ix_list (pv 0) pe_int (fun _ _ => rfl)) pe_int) (pg_sub (pv 0) pe_int set_list))
    (pss_cons (ps_if (pt_cmpR (op_le) (pe_ix ix_list (pv 0) pe_int (fun _ _ => rfl)) (pe_callB call_len_seq (by rfl) T.m_len PySem.boot_len (pa_cons (pe_ix ix_list (pv 0) pe_int (fun _ _ => rfl)) pa_nil)) (nomark _)) (pss_cons (ps_set (i := 3) sc__law_drawn.nd rfl (.inl rfl) (pe_ix ix_list (pe_ix ix_list (pv 0) pe_int (fun _ _ => rfl)) (pe_op op_sub (pe_ix ix_list (pv 0) pe_int (fun _ _ => rfl)) pe_int) (fun _ _ => rfl)))
    (pss_cons (ps_asg (pe_ifExp (pt_cmpR (op_ge) (pv 3) (pe_op op_pow pe_int pe_int) (nomark _)) (pe_op op_fdivW (pv 3) (pv 1)) pe_int) (pg_sub (pv 0) pe_int set_list))
    (pss_one (ps_ret (pe_op op_mod (pv 3) (pv 1)))))) pss_nil)
    (pss_cons (ps_asg (pe_op op_mod (pe_op op_add (pe_op op_mul (pe_ix ix_list (pv 0) pe_int (fun _ _ => rfl)) pe_int) pe_int) pe_int) (pg_sub (pv 0) pe_int set_list))
    (pss_one (ps_ret (pe_op op_mod (pe_op op_fdivW (pe_ix ix_list (pv 0) pe_int (fun _ _ => rfl)) pe_int) (pv 1))))))))
theorem fn__law_drawn   {k : Nat} {sp : Sp} (T : Txt P K mg) {f : Addr} {fd : FuncData} (F : Fun K "_law_drawn" "_law_drawn" d__law_drawn f fd) (len : ∀ vs H Q E, sp vs H Q E → vs.length = 2)
    (h : ∀ vs H Q E, sp vs H Q E → t__law_drawn K w { nx := fun _ H1 => Q .non H1, rt := Q } (start N__law_drawn vs) H) : FnOk P w K mg base CX0 (k + 1) f fd ["_law_state", "_law_many"] sp :=
  F.ok sc__law_drawn len (fun cdv A outer s H vs Q E hr q => ⟨_, der__law_drawn T hr, h vs H Q E q⟩)
theorem cal__law_drawn   {k : Nat} {sp : Sp} (T : Txt P K mg) {f : Addr} {fd : FuncData} (F : Fun K "_law_drawn" "_law_drawn" d__law_drawn f fd) (hb : Binds K fd ["_law_state", "_law_many"] []) (hm : mg "_law_drawn" = some (.ref f)) (len : ∀ vs H Q E, sp vs H Q E → vs.length = 2)
    (h : ∀ vs H Q E, sp vs H Q E → t__law_drawn K w { nx := fun _ H1 => Q .non H1, rt := Q } (start N__law_drawn vs) H) : C8.Cal P w K mg base (k + 1) "_law_drawn" sp [] :=
  ⟨f, fd, ["_law_state", "_law_many"], [], fn__law_drawn T F len h, hm, F.kp, hb, .nil⟩
/-! ### _law_same -/
abbrev d__law_same : Stmt := topS 18
abbrev N__law_same : List Str := ["_law_found", "_law_due", "_law_k"]
theorem sc__law_same : FnScope N__law_same ["_law_found", "_law_due"] (defScope d__law_same) := ⟨rfl, rfl, rfl, by decide +kernel, rfl, by decide +kernel, by decide +kernel⟩
def t__law_same (K : PySem.W.Frag) (w : World) (s__law_same : Sp) : TS :=
  (tSeq (tIfS (tB (tCB (rIsiT K) (tCons (tVar 1) (tCons (tTup (tCons (tC (.ty "tuple")) (tCons (tC (.ty "list")) tNil))) tNil)))) (tSeq (tIfS (tOr (tNot (tB (tCB (rIsiT K) (tCons (tVar 0) (tCons (tTup (tCons (tC (.ty "tuple")) (tCons (tC (.ty "list")) tNil))) tNil))))) (tTest (tOp rNe (tCB (rIsi K) (tCons (tVar 0) (tCons (tC (.ty "list")) tNil))) (tCB (rIsi K) (tCons (tVar 1) (tCons (tC (.ty "list")) tNil)))))) (tRet (tC (.bl false))) tNext)
    (tSeq (tIfS (tTest (tOp rNe (tCB (vLen K) (tCons (tVar 0) tNil)) (tCB (vLen K) (tCons (tVar 1) tNil)))) (tRet (tC (.bl false))) tNext)
    (tRet (tOp (rEqD K) (tLc (iRng1 (tCons (tCB (vLen K) (tCons (tVar 1) tNil)) tNil)) (gName 2) (tNot (tB (tCall s__law_same [] E0 (tCons (tOp (rIx K) (tVar 0) (tVar 2)) (tCons (tOp (rIx K) (tVar 1) (tVar 2)) tNil))))) (tVar 2) [2]) (tLst tNil))))) tNext)
    (tSeq (tIfS (tTest (tOp vIsN (tVar 1) (tC .non))) (tRet (tOp vIsN (tVar 0) (tC .non))) tNext)
    (tSeq (tIfS (tB (tCB (rIsi K) (tCons (tVar 1) (tCons (tC (.ty "str")) tNil)))) (tRet (tAndV (tCB (rIsi K) (tCons (tVar 0) (tCons (tC (.ty "str")) tNil))) (tOp rEq (tVar 0) (tVar 1)))) tNext)
    (tSeq (tIfS (tOr (tB (tCB (rIsi K) (tCons (tVar 1) (tCons (tC (.ty "bool")) tNil)))) (tB (tCB (rIsi K) (tCons (tVar 0) (tCons (tC (.ty "bool")) tNil))))) (tRet (tAndV (tCB (rIsi K) (tCons (tVar 1) (tCons (tC (.ty "bool")) tNil))) (tAndV (tCB (rIsi K) (tCons (tVar 0) (tCons (tC (.ty "bool")) tNil))) (tOp rEq (tVar 0) (tVar 1))))) tNext)
    (tRet (tAndV (tCB (rIsi K) (tCons (tVar 0) (tCons (tC (.ty "int")) tNil))) (tOp rEq (tVar 0) (tVar 1))))))))
theorem der__law_same {k__law_same : Nat} {s__law_same : Sp} {k : Nat} (T : Txt P K mg) (c__law_same : C8.Cal P w K mg base k__law_same "_law_same" s__law_same []) (l__law_same : k__law_same ≤ k) {f : Addr} {cdv : Value} {A : Around} {outer : List Env} {s : Shared} {H : Hp} {E : XK} (hr : Room k (A.deeper (envOfC "_law_same" (defScope d__law_same) s.heap.objs.size f cdv))) :
    PSs (cxOf CX0 P w K mg base N__law_same "_law_same" (defScope d__law_same) f cdv A outer s H E).nox (defBody d__law_same) (t__law_same K w s__law_same) :=
  (pss_cons (ps_if (pt_val (pe_callB call_isiT (by rfl) T.m_isinstance (by decide +kernel) (pa_cons (pv 1) (pa_cons (pe_tup (pa_cons (pe_bltn (v := .ty "tuple") (by rfl) T.m_tuple (by decide +kernel) rfl) (pa_cons (pe_bltn (v := .ty "list") (by rfl) T.m_list (by decide +kernel) rfl) pa_nil))) pa_nil)))) (pss_cons (ps_if (PW.pt (pw_or (pt_not (pt_val (pe_callB call_isiT (by rfl) T.m_isinstance (by decide +kernel) (pa_cons (pv 0) (pa_cons (pe_tup (pa_cons (pe_bltn (v := .ty "tuple") (by rfl) T.m_tuple (by decide +kernel) rfl) (pa_cons (pe_bltn (v := .ty "list") (by rfl) T.m_list (by decide +kernel) rfl) pa_nil))) pa_nil))))) (pw_or1 (pt_cmpR (op_ne) (pe_callB call_isi (by rfl) T.m_isinstance (by decide +kernel) (pa_cons (pv 0) (pa_cons (pe_bltn (v := .ty "list") (by rfl) T.m_list (by decide +kernel) rfl) pa_nil))) (pe_callB call_isi (by rfl) T.m_isinstance (by decide +kernel) (pa_cons (pv 1) (pa_cons (pe_bltn (v := .ty "list") (by rfl) T.m_list (by decide +kernel) rfl) pa_nil))) (nomark _))))) (pss_one (ps_ret pe_bl)) pss_nil)
    (pss_cons (ps_if (pt_cmpR (op_ne) (pe_callB call_len_seq (by rfl) T.m_len PySem.boot_len (pa_cons (pv 0) pa_nil)) (pe_callB call_len_seq (by rfl) T.m_len PySem.boot_len (pa_cons (pv 1) pa_nil)) (nomark _)) (pss_one (ps_ret pe_bl)) pss_nil)
    (pss_one (ps_ret (pe_cmpR (op_eqD hr.units) (pe_lc (own := [("_law_k", 2)]) (g := (gName 2)) (tt := (tNot (tB (tCall s__law_same [] E0 (tCons (tOp (rIx K) (tVar 0) (tVar 2)) (tCons (tOp (rIx K) (tVar 1) (tVar 2)) tNil)))))) (te := (tVar 2)) (by rfl) sc__law_same.nd (pi_range1 (by rfl) T.m_range (pa_cons (pe_callB call_len_seq (by rfl) T.m_len PySem.boot_len (pa_cons (pv 1) pa_nil)) pa_nil)) (blkOk_by (N := N__law_same) (sc := defScope d__law_same) (by decide +kernel)) (fun _ _ _ _ _ => (pg_name (i := 2) sc__law_same.nd rfl (.inl rfl))) (fun _ _ _ _ _ => (pts_one (pt_not (pt_val (C8.pe_c c__law_same hr (by omega) (by rfl) (pa_cons (pe_ix ix_seq (pv 0) (pv 2) (fun _ _ => rfl)) (pa_cons (pe_ix ix_seq (pv 1) (pv 2) (fun _ _ => rfl)) pa_nil))))))) (fun _ _ _ _ _ => (pv 2))) (pe_lst pa_nil) (nomark _)))))) pss_nil)
    (pss_cons (ps_if (pt_cmpR (op_isN) (pv 1) pe_non (nomark _)) (pss_one (ps_ret (pe_cmpR (op_isN) (pv 0) pe_non (nomark _)))) pss_nil)
    (pss_cons (ps_if (pt_val (pe_callB call_isi (by rfl) T.m_isinstance (by decide +kernel) (pa_cons (pv 1) (pa_cons (pe_bltn (v := .ty "str") (by rfl) T.m_str (by decide +kernel) rfl) pa_nil)))) (pss_one (ps_ret (pe_and (pe_callB call_isi (by rfl) T.m_isinstance (by decide +kernel) (pa_cons (pv 0) (pa_cons (pe_bltn (v := .ty "str") (by rfl) T.m_str (by decide +kernel) rfl) pa_nil))) (pe_one (pe_cmpR (op_eq) (pv 0) (pv 1) (nomark _)))))) pss_nil)
    (pss_cons (ps_if (PW.pt (pw_or (pt_val (pe_callB call_isi (by rfl) T.m_isinstance (by decide +kernel) (pa_cons (pv 1) (pa_cons (pe_bltn (v := .ty "bool") (by rfl) T.m_bool (by decide +kernel) rfl) pa_nil)))) (pw_or1 (pt_val (pe_callB call_isi (by rfl) T.m_isinstance (by decide +kernel) (pa_cons (pv 0) (pa_cons (pe_bltn (v := .ty "bool") (by rfl) T.m_bool (by decide +kernel) rfl) pa_nil))))))) (pss_one (ps_ret (pe_and (pe_callB call_isi (by rfl) T.m_isinstance (by decide +kernel) (pa_cons (pv 1) (pa_cons (pe_bltn (v := .ty "bool") (by rfl) T.m_bool (by decide +kernel) rfl) pa_nil))) (pe_and (pe_callB call_isi (by rfl) T.m_isinstance (by decide +kernel) (pa_cons (pv 0) (pa_cons (pe_bltn (v := .ty "bool") (by rfl) T.m_bool (by decide +kernel) rfl) pa_nil))) (pe_one (pe_cmpR (op_eq) (pv 0) (pv 1) (nomark _))))))) pss_nil)
    (pss_one (ps_ret (pe_and (pe_callB call_isi (by rfl) T.m_isinstance (by decide +kernel) (pa_cons (pv 0) (pa_cons (pe_bltn (v := .ty "int") (by rfl) T.m_int (by decide +kernel) rfl) pa_nil))) (pe_one (pe_cmpR (op_eq) (pv 0) (pv 1) (nomark _))))))))))
theorem fn__law_same {k__law_same : Nat} {s__law_same : Sp} {k : Nat} {sp : Sp} (T : Txt P K mg) {f : Addr} {fd : FuncData} (F : Fun K "_law_same" "_law_same" d__law_same f fd) (c__law_same : C8.Cal P w K mg base k__law_same "_law_same" s__law_same []) (l__law_same : k__law_same ≤ k) (len : ∀ vs H Q E, sp vs H Q E → vs.length = 2)
    (h : ∀ vs H Q E, sp vs H Q E → t__law_same K w s__law_same { nx := fun _ H1 => Q .non H1, rt := Q } (start N__law_same vs) H) : FnOk P w K mg base CX0 (k + 1) f fd ["_law_found", "_law_due"] sp :=
  F.ok sc__law_same len (fun cdv A outer s H vs Q E hr q => ⟨_, der__law_same T c__law_same l__law_same hr, h vs H Q E q⟩)
theorem cal__law_same {k__law_same : Nat} {s__law_same : Sp} {k : Nat} {sp : Sp} (T : Txt P K mg) {f : Addr} {fd : FuncData} (F : Fun K "_law_same" "_law_same" d__law_same f fd) (hb : Binds K fd ["_law_found", "_law_due"] []) (hm : mg "_law_same" = some (.ref f)) (c__law_same : C8.Cal P w K mg base k__law_same "_law_same" s__law_same []) (l__law_same : k__law_same ≤ k) (len : ∀ vs H Q E, sp vs H Q E → vs.length = 2)
    (h : ∀ vs H Q E, sp vs H Q E → t__law_same K w s__law_same { nx := fun _ H1 => Q .non H1, rt := Q } (start N__law_same vs) H) : C8.Cal P w K mg base (k + 1) "_law_same" sp [] :=
  ⟨f, fd, ["_law_found", "_law_due"], [], fn__law_same T F c__law_same l__law_same len h, hm, F.kp, hb, .nil⟩
/-! ### _law_kind -/
abbrev d__law_kind : Stmt := topS 19
abbrev N__law_kind : List Str := ["_law_work", "e", "_law_kinds", "_law_words", "_law_word"]
theorem sc__law_kind : FnScope N__law_kind ["_law_work"] (defScope d__law_kind) := ⟨rfl, rfl, rfl, by decide +kernel, rfl, by decide +kernel, by decide +kernel⟩
def t__law_kind (K : PySem.W.Frag) (w : World) (a : Addr) (cls : Value) (d : Option Addr) : TS :=
  (tSeq (tAsg (tLst (tCons (tCB (EX.vIsE K cls d a) (tCons (tVar 1) (tCons (tC (.ref (He.ga K "BadLead"))) tNil))) (tCons (tCB (EX.vIsE K cls d a) (tCons (tVar 1) (tCons (tC (.ref (He.ga K "BadSpare"))) tNil))) (tCons (tCB (EX.vIsE K cls d a) (tCons (tVar 1) (tCons (tC (.ref (He.ga K "BadMove"))) tNil))) (tCons (tCB (EX.vIsE K cls d a) (tCons (tVar 1) (tCons (tC (.ref (He.ga K "NoWay"))) tNil))) tNil))))) (gName 2))
    (tSeq (tAsg (tOp rCat (tVar 2) (tLst (tCons (tCB (EX.vIsE K cls d a) (tCons (tVar 1) (tCons (tC (.ref (He.ga K "BadWord"))) tNil))) (tCons (tCB (EX.vIsE K cls d a) (tCons (tVar 1) (tCons (tC (.ref (He.ga K "BadHouse"))) tNil))) (tCons (tCB (EX.vIsE K cls d a) (tCons (tVar 1) (tCons (tC (.ref (He.ga K "BadCall"))) tNil))) tNil))))) (gName 2))
    (tSeq (tDrop (tBM K "list" rAppend (tVar 2) (tCons (tCB (EX.vIsE K cls d a) (tCons (tVar 1) (tCons (tC (.ref (He.ga K "BadText"))) tNil))) tNil)))
    (tSeq (tAsg (tLst (tCons (tC (.str "BadLead")) (tCons (tC (.str "BadSpare")) (tCons (tC (.str "BadMove")) (tCons (tC (.str "NoWay")) (tCons (tC (.str "BadWord")) (tCons (tC (.str "BadHouse")) (tCons (tC (.str "BadCall")) (tCons (tC (.str "BadText")) tNil))))))))) (gName 3))
    (tSeq (tIfS (tOr (tTest (tOp rNe (tBM K "list" (EX.vCount K) (tVar 2) (tCons (tC (.bl true)) tNil)) (tC (.int 1)))) (tNot (tB (tCB (EX.vIsE K cls d a) (tCons (tVar 1) (tCons (tC (.ty "ValueError")) tNil)))))) (tRet (tC (.str "other"))) tNext)
    (tSeq (tAsg (tOp (rIxL K) (tVar 3) (tBM K "list" (rIndex K) (tVar 2) (tCons (tC (.bl true)) tNil))) (gName 4))
    (tSeq (tIfS (tTest (tOp rEq (tVar 4) (tC (.str "BadMove")))) (tRet (tTup (tCons (tVar 4) (tCons (tXf a cls d (He.ga K "BadMove") "number" (tVar 1)) tNil)))) tNext)
    (tRet (tIf (tTest (tOp rEq (tVar 4) (tC (.str "BadText")))) (tTup (tCons (tVar 4) (tCons (tXf a cls d (He.ga K "BadText") "place" (tVar 1)) tNil))) (tVar 4))))))))))
theorem der__law_kind {X : Cx} (T : Txt X.prog X.K X.mg) (KC : EX.KindC X.K) {q : Str} {g : Addr} {cdg : Value}
    (hp : ∀ (cls : Value) (d : Option Addr) (H : Hp) (Q : VK), EX.KindE X.K cls d H Q → ∀ (σ : L2.St) (a : Addr) (D : Ends), σ.length = 5 → H a = none → D.rt = Q → t__law_kind X.K X.w a cls d D (σ.set 1 (some (.ref a))) H) :
    LamX.GivesTo X N__law_kind "_law_kind" (defScope d__law_kind) g cdg (defBody d__law_kind) "_law_work" q (EX.TKind X.K) := by
  intro f c' s H Q tl act hc h
  refine ⟨_, pss_one (ps_try_as (X := (cxOf C8.CX0 X.prog X.w X.K X.mg X.base N__law_kind "_law_kind" (defScope d__law_kind) g cdg X.A X.stack s H C8.E0).nox) (i := 1) (c := .ref (He.ga X.K "MoveError"))
      (tb := fun W D σ H => ∃ Ech : XK, (∀ cls d σ' H', σ'.length = 5 → Ech cls d H' → W cls d σ' H') ∧ σ[0]? = some (some (.ref f)) ∧ H c' = some (LamX.CodeO c' q) ∧ tl Ech H D.rt)
      (ts := fun a cls d => t__law_kind X.K X.w a cls d) (Wout := fun _ _ _ _ => False)
      rfl rfl sc__law_kind.nd rfl rfl ⟨by rfl, by decide, .inl T.x_MoveError⟩ takes0 (fun W pn xe tk _ => ?_) (fun a oe cls d pn hz hf => ?_)), ?_⟩
  · refine ⟨fun pins s' σ H' D I h' => ?_⟩
    obtain ⟨Ech, hW, h1, h2, h3⟩ := h'
    exact (pss_one (ps_ret (act _ pn xe Ech _ _ (EX.takes_len tk) (fun cls d σ' H' he hl => hW cls d σ' H' hl he)))).run pins s' σ H' D I ⟨h1, h2, h3⟩
  · exact (pss_cons (ps_set (i := 2) sc__law_kind.nd rfl (.inl rfl) (pe_lst (pa_cons (pe_callB (EX.call_isO hz hf) (by rfl) T.m_isinstance (by decide +kernel) (pa_cons (pv 1) (pa_cons (pe_glob (by rfl) T.x_BadLead rfl) pa_nil))) (pa_cons (pe_callB (EX.call_isO hz hf) (by rfl) T.m_isinstance (by decide +kernel) (pa_cons (pv 1) (pa_cons (pe_glob (by rfl) T.x_BadSpare rfl) pa_nil))) (pa_cons (pe_callB (EX.call_isO hz hf) (by rfl) T.m_isinstance (by decide +kernel) (pa_cons (pv 1) (pa_cons (pe_glob (by rfl) T.x_BadMove rfl) pa_nil))) (pa_cons (pe_callB (EX.call_isO hz hf) (by rfl) T.m_isinstance (by decide +kernel) (pa_cons (pv 1) (pa_cons (pe_glob (by rfl) T.x_NoWay rfl) pa_nil))) pa_nil))))))
    (pss_cons (ps_set (i := 2) sc__law_kind.nd rfl (.inl rfl) (pe_op op_cat (pv 2) (pe_lst (pa_cons (pe_callB (EX.call_isO hz hf) (by rfl) T.m_isinstance (by decide +kernel) (pa_cons (pv 1) (pa_cons (pe_glob (by rfl) T.x_BadWord rfl) pa_nil))) (pa_cons (pe_callB (EX.call_isO hz hf) (by rfl) T.m_isinstance (by decide +kernel) (pa_cons (pv 1) (pa_cons (pe_glob (by rfl) T.x_BadHouse rfl) pa_nil))) (pa_cons (pe_callB (EX.call_isO hz hf) (by rfl) T.m_isinstance (by decide +kernel) (pa_cons (pv 1) (pa_cons (pe_glob (by rfl) T.x_BadCall rfl) pa_nil))) pa_nil))))))
    (pss_cons (ps_expr (pe_bm PySem.F.plainAttrs_list PySem.F.slot_list_append PySem.F.type_list_append mt_append (pv 2) (pa_cons (pe_callB (EX.call_isO hz hf) (by rfl) T.m_isinstance (by decide +kernel) (pa_cons (pv 1) (pa_cons (pe_glob (by rfl) T.x_BadText rfl) pa_nil))) pa_nil)))
    (pss_cons (ps_set (i := 3) sc__law_kind.nd rfl (.inl rfl) (pe_lst (pa_cons pe_str (pa_cons pe_str (pa_cons pe_str (pa_cons pe_str (pa_cons pe_str (pa_cons pe_str (pa_cons pe_str (pa_cons pe_str pa_nil))))))))))
    (pss_cons (ps_if (PW.pt (pw_or (pt_cmpR (op_ne) (pe_bm PySem.F.plainAttrs_list PySem.F.slot_list_count PySem.F.type_list_count EX.mt_countF (pv 2) (pa_cons pe_bl pa_nil)) pe_int (nomark _)) (pw_or1 (pt_not (pt_val (pe_callB (EX.call_isO hz hf) (by rfl) T.m_isinstance (by decide +kernel) (pa_cons (pv 1) (pa_cons (pe_bltn (v := .ty "ValueError") (by rfl) T.m_ValueError (by decide +kernel) rfl) pa_nil)))))))) (pss_one (ps_ret pe_str)) pss_nil)
    (pss_cons (ps_set (i := 4) sc__law_kind.nd rfl (.inl rfl) (pe_ix ix_list (pv 3) (pe_bm PySem.F.plainAttrs_list PySem.F.slot_list_index PySem.F.type_list_index mt_index (pv 2) (pa_cons pe_bl pa_nil)) (fun _ _ => rfl)))
    (pss_cons (ps_if (pt_cmpR (op_eq) (pv 4) pe_str (nomark _)) (pss_one (ps_ret (pe_tup (pa_cons (pv 4) (pa_cons (EX.pe_fld KC.xm KC.nm hz hf (pv 1)) pa_nil))))) pss_nil)
    (pss_one (ps_ret (pe_ifExp (pt_cmpR (op_eq) (pv 4) pe_str (nomark _)) (pe_tup (pa_cons (pv 4) (pa_cons (EX.pe_fld KC.xt KC.nt hz hf (pv 1)) pa_nil))) (pv 4)))))))))))
  · refine ⟨fun cls d H' => EX.KindE X.K cls d H' Q, fun cls d σ' H' hl hk => ⟨true, ?_, fun _ a ha => hp cls d H' Q hk σ' a _ hl ha rfl, fun z => Bool.noConfusion z⟩, rfl, hc, h⟩
    obtain ⟨x, hx, e, _⟩ := hk
    rw [e]
    exact KC.exm x hx
/-! ### _law_order -/
abbrev d__law_order : Stmt := topS 20
abbrev N__law_order : List Str := ["_law_state", "_law_some", "_law_left", "_law_found"]
theorem sc__law_order : FnScope N__law_order ["_law_state", "_law_some"] (defScope d__law_order) := ⟨rfl, rfl, rfl, by decide +kernel, rfl, by decide +kernel, by decide +kernel⟩
def t__law_order (K : PySem.W.Frag) (w : World) (s__law_drawn : Sp) : TS :=
  (tSeq (tAsg (tCB (vListOf K) (tCons (tVar 1) tNil)) (gName 2))
    (tSeq (tAsg (tLst tNil) (gName 3))
    (tSeq (tWhile (tTest (tOp (rNeD K) (tVar 2) (tLst tNil))) (tDrop (tBM K "list" rAppend (tVar 3) (tCons (tBM K "list" rPopAt (tVar 2) (tCons (tCall s__law_drawn [] E0 (tCons (tVar 0) (tCons (tCB (vLen K) (tCons (tVar 2) tNil)) tNil))) tNil)) tNil))))
    (tRet (tVar 3)))))
theorem der__law_order {k__law_drawn : Nat} {s__law_drawn : Sp} {k : Nat} (T : Txt P K mg) (c__law_drawn : C8.Cal P w K mg base k__law_drawn "_law_drawn" s__law_drawn []) (l__law_drawn : k__law_drawn ≤ k) {f : Addr} {cdv : Value} {A : Around} {outer : List Env} {s : Shared} {H : Hp} {E : XK} (hr : Room k (A.deeper (envOfC "_law_order" (defScope d__law_order) s.heap.objs.size f cdv))) :
    PSs (cxOf CX0 P w K mg base N__law_order "_law_order" (defScope d__law_order) f cdv A outer s H E).nox (defBody d__law_order) (t__law_order K w s__law_drawn) :=
  (pss_cons (ps_set (i := 2) sc__law_order.nd rfl (.inl rfl) (pe_callTy call_list_of (by rfl) T.m_list (by decide +kernel) (pa_cons (pv 1) pa_nil)))
    (pss_cons (ps_set (i := 3) sc__law_order.nd rfl (.inl rfl) (pe_lst pa_nil))
    (pss_cons (ps_while PassesOwn.never (pt_cmpR (op_neD hr.units) (pv 2) (pe_lst pa_nil) (nomark _)) (pss_one (ps_expr (pe_bm PySem.F.plainAttrs_list PySem.F.slot_list_append PySem.F.type_list_append mt_append (pv 3) (pa_cons (pe_bm PySem.F.plainAttrs_list PySem.F.slot_list_pop PySem.F.type_list_pop mt_popAt (pv 2) (pa_cons (C8.pe_c c__law_drawn hr (by omega) (by rfl) (pa_cons (pv 0) (pa_cons (pe_callB call_len_seq (by rfl) T.m_len PySem.boot_len (pa_cons (pv 2) pa_nil)) pa_nil))) pa_nil)) pa_nil)))))
    (pss_one (ps_ret (pv 3))))))
theorem fn__law_order {k__law_drawn : Nat} {s__law_drawn : Sp} {k : Nat} {sp : Sp} (T : Txt P K mg) {f : Addr} {fd : FuncData} (F : Fun K "_law_order" "_law_order" d__law_order f fd) (c__law_drawn : C8.Cal P w K mg base k__law_drawn "_law_drawn" s__law_drawn []) (l__law_drawn : k__law_drawn ≤ k) (len : ∀ vs H Q E, sp vs H Q E → vs.length = 2)
    (h : ∀ vs H Q E, sp vs H Q E → t__law_order K w s__law_drawn { nx := fun _ H1 => Q .non H1, rt := Q } (start N__law_order vs) H) : FnOk P w K mg base CX0 (k + 1) f fd ["_law_state", "_law_some"] sp :=
  F.ok sc__law_order len (fun cdv A outer s H vs Q E hr q => ⟨_, der__law_order T c__law_drawn l__law_drawn hr, h vs H Q E q⟩)
theorem cal__law_order {k__law_drawn : Nat} {s__law_drawn : Sp} {k : Nat} {sp : Sp} (T : Txt P K mg) {f : Addr} {fd : FuncData} (F : Fun K "_law_order" "_law_order" d__law_order f fd) (hb : Binds K fd ["_law_state", "_law_some"] []) (hm : mg "_law_order" = some (.ref f)) (c__law_drawn : C8.Cal P w K mg base k__law_drawn "_law_drawn" s__law_drawn []) (l__law_drawn : k__law_drawn ≤ k) (len : ∀ vs H Q E, sp vs H Q E → vs.length = 2)
    (h : ∀ vs H Q E, sp vs H Q E → t__law_order K w s__law_drawn { nx := fun _ H1 => Q .non H1, rt := Q } (start N__law_order vs) H) : C8.Cal P w K mg base (k + 1) "_law_order" sp [] :=
  ⟨f, fd, ["_law_state", "_law_some"], [], fn__law_order T F c__law_drawn l__law_drawn len h, hm, F.kp, hb, .nil⟩
/-! ### _law_lead -/
abbrev d__law_lead : Stmt := topS 21
abbrev N__law_lead : List Str := ["_law_state", "_law_boxes_here", "_law_known", "_law_often", "_law_box", "_law_around", "_law_cut", "_law_ring", "_law_k", "_law_goal"]
theorem sc__law_lead : FnScope N__law_lead ["_law_state", "_law_boxes_here"] (defScope d__law_lead) := ⟨rfl, rfl, rfl, by decide +kernel, rfl, by decide +kernel, by decide +kernel⟩
def t__law_lead (K : PySem.W.Frag) (w : World) (s__law_drawn : Sp) (s__law_order : Sp) : TS :=
  (tSeq (tAsg tDNewK (gName 2))
    (tSeq (tAsg (tOp vAdd (tC (.int 1)) (tCall s__law_drawn [] E0 (tCons (tVar 0) (tCons (tC (.int 3)) tNil)))) (gName 3))
    (tSeq (tFor (iRng1 (tCons (tVar 1) tNil)) (gName 4) (tIfS (tTest (tOp rEq (tCall s__law_drawn [] E0 (tCons (tVar 0) (tCons (tVar 3) tNil))) (tC (.int 0)))) (sDPut (tVar 2) (tVar 4) (tCall s__law_drawn [] E0 (tCons (tVar 0) (tCons (tVar 1) tNil)))) tNext))
    (tSeq (tIfS (tTest (tOp rEq (tCall s__law_drawn [] E0 (tCons (tVar 0) (tCons (tC (.int 2)) tNil))) (tC (.int 1)))) (tSeq (tAsg (tCall s__law_order [] E0 (tCons (tVar 0) (tCons (tLstRg (tRg1 (tVar 1))) tNil))) (gName 5))
    (tSeq (tAsg (tSl (rSlL K) (tVar 5) tNoPart (tPart (tCall s__law_drawn [] E0 (tCons (tVar 0) (tCons (tOp vAdd (tVar 1) (tC (.int 1))) tNil))))) (gName 5))
    (tSeq (tIfS (tTest (tOp rEq (tCall s__law_drawn [] E0 (tCons (tVar 0) (tCons (tC (.int 2)) tNil))) (tC (.int 1)))) (tAsg tDNewK (gName 2)) tNext)
    (tSeq (tAsg (tCall s__law_drawn [] E0 (tCons (tVar 0) (tCons (tOp vAdd (tCB (vLen K) (tCons (tVar 5) tNil)) (tC (.int 1))) tNil))) (gName 6))
    (tFor (iList K (tLst (tCons (tSl (rSlL K) (tVar 5) tNoPart (tPart (tVar 6))) (tCons (tSl (rSlL K) (tVar 5) (tPart (tVar 6)) tNoPart) tNil)))) (gName 7) (tFor (iRng1 (tCons (tCB (vLen K) (tCons (tVar 7) tNil)) tNil)) (gName 8) (sDPut (tVar 2) (tOp (rIxL K) (tVar 7) (tVar 8)) (tOp (rIxL K) (tVar 7) (tOp vSub (tVar 8) (tC (.int 1))))))))))) tNext)
    (tRet (tLc (iList K (tCall s__law_order [] E0 (tCons (tVar 0) (tCons (tCB vSortedDI (tCons (tVar 2) tNil)) tNil)))) (gName 9) tYes (tTup (tCons (tVar 9) (tCons (tDGet (tVar 2) (tVar 9)) tNil))) [9]))))))
theorem der__law_lead {k__law_drawn : Nat} {k__law_order : Nat} {s__law_drawn : Sp} {s__law_order : Sp} {k : Nat} (T : Txt P K mg) (c__law_drawn : C8.Cal P w K mg base k__law_drawn "_law_drawn" s__law_drawn []) (l__law_drawn : k__law_drawn ≤ k) (c__law_order : C8.Cal P w K mg base k__law_order "_law_order" s__law_order []) (l__law_order : k__law_order ≤ k) {f : Addr} {cdv : Value} {A : Around} {outer : List Env} {s : Shared} {H : Hp} {E : XK} (hr : Room k (A.deeper (envOfC "_law_lead" (defScope d__law_lead) s.heap.objs.size f cdv))) :
    PSs (cxOf CX0 P w K mg base N__law_lead "_law_lead" (defScope d__law_lead) f cdv A outer s H E).nox (defBody d__law_lead) (t__law_lead K w s__law_drawn s__law_order) :=
  (pss_cons (ps_set (i := 2) sc__law_lead.nd rfl (.inr rfl) pe_dnewK)
    (pss_cons (ps_set (i := 3) sc__law_lead.nd rfl (.inl rfl) (pe_op op_add pe_int (C8.pe_c c__law_drawn hr (by omega) (by rfl) (pa_cons (pv 0) (pa_cons pe_int pa_nil)))))
    (pss_cons (ps_for PassesOwn.never rfl (pi_range1 (by rfl) T.m_range (pa_cons (pv 1) pa_nil)) (pg_name (i := 4) sc__law_lead.nd rfl (.inl rfl)) (pss_one (ps_if (pt_cmpR (op_eq) (C8.pe_c c__law_drawn hr (by omega) (by rfl) (pa_cons (pv 0) (pa_cons (pv 3) pa_nil))) pe_int (nomark _)) (pss_one (ps_dput (hu_of hr) (pv 2) (pv 4) (C8.pe_c c__law_drawn hr (by omega) (by rfl) (pa_cons (pv 0) (pa_cons (pv 1) pa_nil))) rfl)) pss_nil)))
    (pss_cons (ps_if (pt_cmpR (op_eq) (C8.pe_c c__law_drawn hr (by omega) (by rfl) (pa_cons (pv 0) (pa_cons pe_int pa_nil))) pe_int (nomark _)) (pss_cons (ps_set (i := 5) sc__law_lead.nd rfl (.inl rfl) (C8.pe_c c__law_order hr (by omega) (by rfl) (pa_cons (pv 0) (pa_cons (pe_listRg rfl (by rfl) T.m_list (prg_1 (by rfl) T.m_range (pv 1))) pa_nil))))
    (pss_cons (ps_set (i := 5) sc__law_lead.nd rfl (.inl rfl) (pe_slice sl_list (pv 5) po_none (po_some (C8.pe_c c__law_drawn hr (by omega) (by rfl) (pa_cons (pv 0) (pa_cons (pe_op op_add (pv 1) pe_int) pa_nil))))))
    (pss_cons (ps_if (pt_cmpR (op_eq) (C8.pe_c c__law_drawn hr (by omega) (by rfl) (pa_cons (pv 0) (pa_cons pe_int pa_nil))) pe_int (nomark _)) (pss_one (ps_set (i := 2) sc__law_lead.nd rfl (.inr rfl) pe_dnewK)) pss_nil)
    (pss_cons (ps_set (i := 6) sc__law_lead.nd rfl (.inl rfl) (C8.pe_c c__law_drawn hr (by omega) (by rfl) (pa_cons (pv 0) (pa_cons (pe_op op_add (pe_callB call_len_seq (by rfl) T.m_len PySem.boot_len (pa_cons (pv 5) pa_nil)) pe_int) pa_nil))))
    (pss_one (ps_for PassesOwn.never rfl (pi_list (pe_lst (pa_cons (pe_slice sl_list (pv 5) po_none (po_some (pv 6))) (pa_cons (pe_slice sl_list (pv 5) (po_some (pv 6)) po_none) pa_nil)))) (pg_name (i := 7) sc__law_lead.nd rfl (.inl rfl)) (pss_one (ps_for PassesOwn.never rfl (pi_range1 (by rfl) T.m_range (pa_cons (pe_callB call_len_seq (by rfl) T.m_len PySem.boot_len (pa_cons (pv 7) pa_nil)) pa_nil)) (pg_name (i := 8) sc__law_lead.nd rfl (.inl rfl)) (pss_one (ps_dput (hu_of hr) (pv 2) (pe_ix ix_list (pv 7) (pv 8) (fun _ _ => rfl)) (pe_ix ix_list (pv 7) (pe_op op_sub (pv 8) pe_int) (fun _ _ => rfl)) rfl)))))))))) pss_nil)
    (pss_one (ps_ret (pe_lc (own := [("_law_goal", 9)]) (g := (gName 9)) (tt := tYes) (te := (tTup (tCons (tVar 9) (tCons (tDGet (tVar 2) (tVar 9)) tNil)))) (by rfl) sc__law_lead.nd (pi_list (C8.pe_c c__law_order hr (by omega) (by rfl) (pa_cons (pv 0) (pa_cons (pe_callB (call_sortedDI rfl) (by rfl) T.m_sorted (by decide +kernel) (pa_cons (pv 2) pa_nil)) pa_nil)))) (blkOk_by (N := N__law_lead) (sc := defScope d__law_lead) (by decide +kernel)) (fun _ _ _ _ _ => (pg_name (i := 9) sc__law_lead.nd rfl (.inl rfl))) (fun _ _ _ _ _ => pts_nil) (fun _ _ _ _ _ => (pe_tup (pa_cons (pv 9) (pa_cons (pe_dget (hu_of hr) (pv 2) (pv 9) (fun _ _ => rfl)) pa_nil)))))))))))
theorem fn__law_lead {k__law_drawn : Nat} {k__law_order : Nat} {s__law_drawn : Sp} {s__law_order : Sp} {k : Nat} {sp : Sp} (T : Txt P K mg) {f : Addr} {fd : FuncData} (F : Fun K "_law_lead" "_law_lead" d__law_lead f fd) (c__law_drawn : C8.Cal P w K mg base k__law_drawn "_law_drawn" s__law_drawn []) (l__law_drawn : k__law_drawn ≤ k) (c__law_order : C8.Cal P w K mg base k__law_order "_law_order" s__law_order []) (l__law_order : k__law_order ≤ k) (len : ∀ vs H Q E, sp vs H Q E → vs.length = 2)
    (h : ∀ vs H Q E, sp vs H Q E → t__law_lead K w s__law_drawn s__law_order { nx := fun _ H1 => Q .non H1, rt := Q } (start N__law_lead vs) H) : FnOk P w K mg base CX0 (k + 1) f fd ["_law_state", "_law_boxes_here"] sp :=
  F.ok sc__law_lead len (fun cdv A outer s H vs Q E hr q => ⟨_, der__law_lead T c__law_drawn l__law_drawn c__law_order l__law_order hr, h vs H Q E q⟩)
theorem cal__law_lead {k__law_drawn : Nat} {k__law_order : Nat} {s__law_drawn : Sp} {s__law_order : Sp} {k : Nat} {sp : Sp} (T : Txt P K mg) {f : Addr} {fd : FuncData} (F : Fun K "_law_lead" "_law_lead" d__law_lead f fd) (hb : Binds K fd ["_law_state", "_law_boxes_here"] []) (hm : mg "_law_lead" = some (.ref f)) (c__law_drawn : C8.Cal P w K mg base k__law_drawn "_law_drawn" s__law_drawn []) (l__law_drawn : k__law_drawn ≤ k) (c__law_order : C8.Cal P w K mg base k__law_order "_law_order" s__law_order []) (l__law_order : k__law_order ≤ k) (len : ∀ vs H Q E, sp vs H Q E → vs.length = 2)
    (h : ∀ vs H Q E, sp vs H Q E → t__law_lead K w s__law_drawn s__law_order { nx := fun _ H1 => Q .non H1, rt := Q } (start N__law_lead vs) H) : C8.Cal P w K mg base (k + 1) "_law_lead" sp [] :=
  ⟨f, fd, ["_law_state", "_law_boxes_here"], [], fn__law_lead T F c__law_drawn l__law_drawn c__law_order l__law_order len h, hm, F.kp, hb, .nil⟩
/-! ### _law_boxes -/
abbrev d__law_boxes : Stmt := topS 22
abbrev N__law_boxes : List Str := ["_law_state"]
theorem sc__law_boxes : FnScope N__law_boxes ["_law_state"] (defScope d__law_boxes) := ⟨rfl, rfl, rfl, by decide +kernel, rfl, by decide +kernel, by decide +kernel⟩
def t__law_boxes (K : PySem.W.Frag) (w : World) (s__law_drawn : Sp) : TS :=
  (tRet (tOp (rIxL K) (tLst (tCons (tOp vAdd (tC (.int 1)) (tCall s__law_drawn [] E0 (tCons (tVar 0) (tCons (tC (.int 4)) tNil)))) (tCons (tOp vAdd (tC (.int 2)) (tCall s__law_drawn [] E0 (tCons (tVar 0) (tCons (tC (.int 5)) tNil)))) (tCons (tOp vAdd (tC (.int 1)) (tCall s__law_drawn [] E0 (tCons (tVar 0) (tCons (tC (.int 10)) tNil)))) tNil)))) (tCall s__law_drawn [] E0 (tCons (tVar 0) (tCons (tC (.int 3)) tNil)))))
theorem der__law_boxes {k__law_drawn : Nat} {s__law_drawn : Sp} {k : Nat} (T : Txt P K mg) (c__law_drawn : C8.Cal P w K mg base k__law_drawn "_law_drawn" s__law_drawn []) (l__law_drawn : k__law_drawn ≤ k) {f : Addr} {cdv : Value} {A : Around} {outer : List Env} {s : Shared} {H : Hp} {E : XK} (hr : Room k (A.deeper (envOfC "_law_boxes" (defScope d__law_boxes) s.heap.objs.size f cdv))) :
    PSs (cxOf CX0 P w K mg base N__law_boxes "_law_boxes" (defScope d__law_boxes) f cdv A outer s H E).nox (defBody d__law_boxes) (t__law_boxes K w s__law_drawn) :=
  (pss_one (ps_ret (pe_ix ix_list (pe_lst (pa_cons (pe_op op_add pe_int (C8.pe_c c__law_drawn hr (by omega) (by rfl) (pa_cons (pv 0) (pa_cons pe_int pa_nil)))) (pa_cons (pe_op op_add pe_int (C8.pe_c c__law_drawn hr (by omega) (by rfl) (pa_cons (pv 0) (pa_cons pe_int pa_nil)))) (pa_cons (pe_op op_add pe_int (C8.pe_c c__law_drawn hr (by omega) (by rfl) (pa_cons (pv 0) (pa_cons pe_int pa_nil)))) pa_nil)))) (C8.pe_c c__law_drawn hr (by omega) (by rfl) (pa_cons (pv 0) (pa_cons pe_int pa_nil))) (fun _ _ => rfl))))
theorem fn__law_boxes {k__law_drawn : Nat} {s__law_drawn : Sp} {k : Nat} {sp : Sp} (T : Txt P K mg) {f : Addr} {fd : FuncData} (F : Fun K "_law_boxes" "_law_boxes" d__law_boxes f fd) (c__law_drawn : C8.Cal P w K mg base k__law_drawn "_law_drawn" s__law_drawn []) (l__law_drawn : k__law_drawn ≤ k) (len : ∀ vs H Q E, sp vs H Q E → vs.length = 1)
    (h : ∀ vs H Q E, sp vs H Q E → t__law_boxes K w s__law_drawn { nx := fun _ H1 => Q .non H1, rt := Q } (start N__law_boxes vs) H) : FnOk P w K mg base CX0 (k + 1) f fd ["_law_state"] sp :=
  F.ok sc__law_boxes len (fun cdv A outer s H vs Q E hr q => ⟨_, der__law_boxes T c__law_drawn l__law_drawn hr, h vs H Q E q⟩)
theorem cal__law_boxes {k__law_drawn : Nat} {s__law_drawn : Sp} {k : Nat} {sp : Sp} (T : Txt P K mg) {f : Addr} {fd : FuncData} (F : Fun K "_law_boxes" "_law_boxes" d__law_boxes f fd) (hb : Binds K fd ["_law_state"] []) (hm : mg "_law_boxes" = some (.ref f)) (c__law_drawn : C8.Cal P w K mg base k__law_drawn "_law_drawn" s__law_drawn []) (l__law_drawn : k__law_drawn ≤ k) (len : ∀ vs H Q E, sp vs H Q E → vs.length = 1)
    (h : ∀ vs H Q E, sp vs H Q E → t__law_boxes K w s__law_drawn { nx := fun _ H1 => Q .non H1, rt := Q } (start N__law_boxes vs) H) : C8.Cal P w K mg base (k + 1) "_law_boxes" sp [] :=
  ⟨f, fd, ["_law_state"], [], fn__law_boxes T F c__law_drawn l__law_drawn len h, hm, F.kp, hb, .nil⟩
/-! ### _law_number -/
abbrev d__law_number : Stmt := topS 25
abbrev N__law_number : List Str := ["_law_word", "_law_sign"]
theorem sc__law_number : FnScope N__law_number ["_law_word"] (defScope d__law_number) := ⟨rfl, rfl, rfl, by decide +kernel, rfl, by decide +kernel, by decide +kernel⟩
def t__law_number (K : PySem.W.Frag) (w : World) : TS :=
  (tSeq (tIfS (tOr (tNot (tTest (tChain vLe vLe (tC (.int 1)) (tCB XS.rLenS (tCons (tVar 0) tNil)) (tC (.int 3))))) (tTest (tOp (rNeD K) (tLc (iStr (tVar 0)) (gName 1) (tTest (tOp XS.rNinSign (tVar 1) (tC (.str "0123456789")))) (tVar 1) [1]) (tLst tNil)))) (tRet (tC .non)) tNext)
    (tRet (tIf (tTest (tOp rEq (tCB XS.rStrI (tCons (tCB XS.rIntS (tCons (tVar 0) tNil)) tNil)) (tVar 0))) (tCB XS.rIntS (tCons (tVar 0) tNil)) (tC .non))))
theorem der__law_number   {k : Nat} (T : Txt P K mg) {f : Addr} {cdv : Value} {A : Around} {outer : List Env} {s : Shared} {H : Hp} {E : XK} (hr : Room k (A.deeper (envOfC "_law_number" (defScope d__law_number) s.heap.objs.size f cdv))) :
    PSs (cxOf CX0 P w K mg base N__law_number "_law_number" (defScope d__law_number) f cdv A outer s H E).nox (defBody d__law_number) (t__law_number K w) :=
  (pss_cons (ps_if (PW.pt (pw_or (pt_not (pt_chain op_le op_le pe_int (pe_callB call_len_str (by rfl) T.m_len PySem.boot_len (pa_cons (pv 0) pa_nil)) pe_int)) (pw_or1 (pt_cmpR (op_neD hr.units) (pe_lc (own := [("_law_sign", 1)]) (g := (gName 1)) (tt := (tTest (tOp XS.rNinSign (tVar 1) (tC (.str "0123456789"))))) (te := (tVar 1)) (by rfl) sc__law_number.nd (pi_str (pv 0)) (blkOk_by (N := N__law_number) (sc := defScope d__law_number) (by decide +kernel)) (fun _ _ _ _ _ => (pg_name (i := 1) sc__law_number.nd rfl (.inl rfl))) (fun _ _ _ _ _ => (pts_one (pt_cmpR (XS.op_ninSign) (pv 1) pe_str (by rfl)))) (fun _ _ _ _ _ => (pv 1))) (pe_lst pa_nil) (nomark _))))) (pss_one (ps_ret pe_non)) pss_nil)
    (pss_one (ps_ret (pe_ifExp (pt_cmpR (op_eq) (pe_callTy XS.call_strI (by rfl) T.m_str (by decide +kernel) (pa_cons (pe_callTy XS.call_intS (by rfl) T.m_int (by decide +kernel) (pa_cons (pv 0) pa_nil)) pa_nil)) (pv 0) (nomark _)) (pe_callTy XS.call_intS (by rfl) T.m_int (by decide +kernel) (pa_cons (pv 0) pa_nil)) pe_non))))
theorem fn__law_number   {k : Nat} {sp : Sp} (T : Txt P K mg) {f : Addr} {fd : FuncData} (F : Fun K "_law_number" "_law_number" d__law_number f fd) (len : ∀ vs H Q E, sp vs H Q E → vs.length = 1)
    (h : ∀ vs H Q E, sp vs H Q E → t__law_number K w { nx := fun _ H1 => Q .non H1, rt := Q } (start N__law_number vs) H) : FnOk P w K mg base CX0 (k + 1) f fd ["_law_word"] sp :=
  F.ok sc__law_number len (fun cdv A outer s H vs Q E hr q => ⟨_, der__law_number T hr, h vs H Q E q⟩)
theorem cal__law_number   {k : Nat} {sp : Sp} (T : Txt P K mg) {f : Addr} {fd : FuncData} (F : Fun K "_law_number" "_law_number" d__law_number f fd) (hb : Binds K fd ["_law_word"] []) (hm : mg "_law_number" = some (.ref f)) (len : ∀ vs H Q E, sp vs H Q E → vs.length = 1)
    (h : ∀ vs H Q E, sp vs H Q E → t__law_number K w { nx := fun _ H1 => Q .non H1, rt := Q } (start N__law_number vs) H) : C8.Cal P w K mg base (k + 1) "_law_number" sp [] :=
  ⟨f, fd, ["_law_word"], [], fn__law_number T F len h, hm, F.kp, hb, .nil⟩
/-! ### _law_read -/
abbrev d__law_read : Stmt := topS 26
abbrev N__law_read : List Str := ["_law_text", "_law_found", "_law_words", "_law_place", "_law_parts", "_law_numbers", "_law_part"]
theorem sc__law_read : FnScope N__law_read ["_law_text"] (defScope d__law_read) := ⟨rfl, rfl, rfl, by decide +kernel, rfl, by decide +kernel, by decide +kernel⟩
def t__law_read (K : PySem.W.Frag) (w : World) (s__law_number : Sp) : TS :=
  (tSeq (tAsg (tLst tNil) (gName 1))
    (tSeq (tAsg (tIf (tTest (tOp rNe (tVar 0) (tC (.str "")))) (tM1 XS.rSplit (tVar 0) (tC (.str " "))) (tLst tNil)) (gName 2))
    (tSeq (tFor (iRng1 (tCons (tCB (vLen K) (tCons (tVar 2) tNil)) tNil)) (gName 3) (tSeq (tAsg (tM1 XS.rSplit (tOp (rIxL K) (tVar 2) (tVar 3)) (tC (.str "<"))) (gName 4))
    (tSeq (tAsg (tLc (iList K (tVar 4)) (gName 6) tYes (tCall s__law_number [] E0 (tCons (tVar 6) tNil)) [6]) (gName 5))
    (tSeq (tIfS (tOr (tTest (tOp rNe (tCB (vLen K) (tCons (tVar 4) tNil)) (tC (.int 2)))) (tTest (tOp (rIn K false) (tC .non) (tVar 5)))) (tRet (tTup (tCons (tC (.str "BadText")) (tCons (tVar 3) tNil)))) tNext)
    (tDrop (tBM K "list" rAppend (tVar 1) (tCons (tTup (tCons (tOp (rIxL K) (tVar 5) (tC (.int 0))) (tCons (tOp (rIxL K) (tVar 5) (tC (.int 1))) tNil))) tNil)))))))
    (tRet (tVar 1)))))
theorem der__law_read {k__law_number : Nat} {s__law_number : Sp} {k : Nat} (T : Txt P K mg) (c__law_number : C8.Cal P w K mg base k__law_number "_law_number" s__law_number []) (l__law_number : k__law_number ≤ k) {f : Addr} {cdv : Value} {A : Around} {outer : List Env} {s : Shared} {H : Hp} {E : XK} (hr : Room k (A.deeper (envOfC "_law_read" (defScope d__law_read) s.heap.objs.size f cdv))) :
    PSs (cxOf CX0 P w K mg base N__law_read "_law_read" (defScope d__law_read) f cdv A outer s H E).nox (defBody d__law_read) (t__law_read K w s__law_number) :=
  (pss_cons (ps_set (i := 1) sc__law_read.nd rfl (.inl rfl) (pe_lst pa_nil))
    (pss_cons (ps_set (i := 2) sc__law_read.nd rfl (.inl rfl) (pe_ifExp (pt_cmpR (op_ne) (pv 0) pe_str (nomark _)) (XS.pe_split (pv 0) pe_str) (pe_lst pa_nil)))
    (pss_cons (ps_for PassesOwn.never rfl (pi_range1 (by rfl) T.m_range (pa_cons (pe_callB call_len_seq (by rfl) T.m_len PySem.boot_len (pa_cons (pv 2) pa_nil)) pa_nil)) (pg_name (i := 3) sc__law_read.nd rfl (.inl rfl)) (pss_cons (ps_set (i := 4) sc__law_read.nd rfl (.inl rfl) (XS.pe_split (pe_ix ix_list (pv 2) (pv 3) (fun _ _ => rfl)) pe_str))
    (pss_cons (ps_setLc (i := 5) (own := [("_law_part", 6)]) (g := (gName 6)) (tt := tYes) (te := (tCall s__law_number [] E0 (tCons (tVar 6) tNil))) rfl sc__law_read.nd rfl rfl (sw_true rfl rfl rfl (by decide +kernel)) (pi_list (pv 4)) (blkOk_by (N := N__law_read) (sc := defScope d__law_read) (by decide +kernel)) (fun _ _ _ _ _ => (pg_name (i := 6) sc__law_read.nd rfl (.inl rfl))) (fun _ _ _ _ _ => pts_nil) (fun _ _ _ _ _ => (C8.pe_c c__law_number hr (by omega) (by rfl) (pa_cons (pv 6) pa_nil))))
    (pss_cons (ps_if (PW.pt (pw_or (pt_cmpR (op_ne) (pe_callB call_len_seq (by rfl) T.m_len PySem.boot_len (pa_cons (pv 4) pa_nil)) pe_int (nomark _)) (pw_or1 (pt_cmpR (op_in_seq) pe_non (pv 5) (by rfl))))) (pss_one (ps_ret (pe_tup (pa_cons pe_str (pa_cons (pv 3) pa_nil))))) pss_nil)
    (pss_one (ps_expr (pe_bm PySem.F.plainAttrs_list PySem.F.slot_list_append PySem.F.type_list_append mt_append (pv 1) (pa_cons (pe_tup (pa_cons (pe_ix ix_list (pv 5) pe_int (fun _ _ => rfl)) (pa_cons (pe_ix ix_list (pv 5) pe_int (fun _ _ => rfl)) pa_nil))) pa_nil))))))))
    (pss_one (ps_ret (pv 1))))))
theorem fn__law_read {k__law_number : Nat} {s__law_number : Sp} {k : Nat} {sp : Sp} (T : Txt P K mg) {f : Addr} {fd : FuncData} (F : Fun K "_law_read" "_law_read" d__law_read f fd) (c__law_number : C8.Cal P w K mg base k__law_number "_law_number" s__law_number []) (l__law_number : k__law_number ≤ k) (len : ∀ vs H Q E, sp vs H Q E → vs.length = 1)
    (h : ∀ vs H Q E, sp vs H Q E → t__law_read K w s__law_number { nx := fun _ H1 => Q .non H1, rt := Q } (start N__law_read vs) H) : FnOk P w K mg base CX0 (k + 1) f fd ["_law_text"] sp :=
  F.ok sc__law_read len (fun cdv A outer s H vs Q E hr q => ⟨_, der__law_read T c__law_number l__law_number hr, h vs H Q E q⟩)
theorem cal__law_read {k__law_number : Nat} {s__law_number : Sp} {k : Nat} {sp : Sp} (T : Txt P K mg) {f : Addr} {fd : FuncData} (F : Fun K "_law_read" "_law_read" d__law_read f fd) (hb : Binds K fd ["_law_text"] []) (hm : mg "_law_read" = some (.ref f)) (c__law_number : C8.Cal P w K mg base k__law_number "_law_number" s__law_number []) (l__law_number : k__law_number ≤ k) (len : ∀ vs H Q E, sp vs H Q E → vs.length = 1)
    (h : ∀ vs H Q E, sp vs H Q E → t__law_read K w s__law_number { nx := fun _ H1 => Q .non H1, rt := Q } (start N__law_read vs) H) : C8.Cal P w K mg base (k + 1) "_law_read" sp [] :=
  ⟨f, fd, ["_law_text"], [], fn__law_read T F c__law_number l__law_number len h, hm, F.kp, hb, .nil⟩
/-! ### _law_changed -/
abbrev d__law_changed : Stmt := topS 27
abbrev N__law_changed : List Str := ["_law_state", "_law_text", "_law_way", "_law_at", "_law_sign", "_law_words", "_law_k", "_law_odd", "_law_some"]
theorem sc__law_changed : FnScope N__law_changed ["_law_state", "_law_text"] (defScope d__law_changed) := ⟨rfl, rfl, rfl, by decide +kernel, rfl, by decide +kernel, by decide +kernel⟩
def t__law_changed (K : PySem.W.Frag) (w : World) (s__law_drawn : Sp) : TS :=
  (tSeq (tAsg (tCall s__law_drawn [] E0 (tCons (tVar 0) (tCons (tC (.int 6)) tNil))) (gName 2))
    (tSeq (tAsg (tCall s__law_drawn [] E0 (tCons (tVar 0) (tCons (tOp vAdd (tCB XS.rLenS (tCons (tVar 1) tNil)) (tC (.int 1))) tNil))) (gName 3))
    (tSeq (tAsg (tOp rIxS (tC (.str "0123456789 <<>-+._a")) (tCall s__law_drawn [] E0 (tCons (tVar 0) (tCons (tC (.int 19)) tNil)))) (gName 4))
    (tSeq (tIfS (tTest (tOp vLt (tVar 2) (tC (.int 3)))) (tRet (tOp vAddS (tOp vAddS (tSl rSlS (tVar 1) tNoPart (tPart (tVar 3))) (tOp (rIxL K) (tLst (tCons (tVar 4) (tCons (tC (.str "")) (tCons (tVar 4) tNil)))) (tVar 2))) (tSl rSlS (tVar 1) (tPart (tOp vAdd (tVar 3) (tCB XZ.rInt1 (tCons (tOp vGt (tVar 2) (tC (.int 0))) tNil)))) tNoPart))) tNext)
    (tSeq (tAsg (tM1 XS.rSplit (tVar 1) (tC (.str " "))) (gName 5))
    (tSeq (tAsg (tCall s__law_drawn [] E0 (tCons (tVar 0) (tCons (tCB (vLen K) (tCons (tVar 5) tNil)) tNil))) (gName 6))
    (tSeq (tAsg (tLst (tCons (tC (.str "")) (tCons (tC (.str "0<00")) (tCons (tC (.str "07<1")) (tCons (tC (.str "-1<2")) (tCons (tC (.str "1<2000")) (tCons (tC (.str "999<0")) (tCons (tC (.str "0<999")) (tCons (tC (.str "1<2<3")) (tCons (tC (.str "<")) (tCons (tC (.str "1")) (tCons (tC (.str "1<")) (tCons (tC (.str "<1")) tNil))))))))))))) (gName 7))
    (tSeq (tAsg (tOp (rIxL K) (tLst (tCons (tLst tNil) (tCons (tLst (tCons (tOp (rIxL K) (tVar 5) (tVar 6)) (tCons (tOp (rIxL K) (tVar 5) (tVar 6)) tNil))) (tCons (tLst (tCons (tOp (rIxL K) (tVar 7) (tCall s__law_drawn [] E0 (tCons (tVar 0) (tCons (tC (.int 12)) tNil)))) tNil)) tNil)))) (tOp vSub (tVar 2) (tC (.int 3)))) (gName 8))
    (tRet (tM1 (XS.rJoin K) (tC (.str " ")) (tOp rCat (tOp rCat (tSl (rSlL K) (tVar 5) tNoPart (tPart (tVar 6))) (tVar 8)) (tSl (rSlL K) (tVar 5) (tPart (tOp vAdd (tVar 6) (tC (.int 1)))) tNoPart))))))))))))
theorem der__law_changed {k__law_drawn : Nat} {s__law_drawn : Sp} {k : Nat} (T : Txt P K mg) (c__law_drawn : C8.Cal P w K mg base k__law_drawn "_law_drawn" s__law_drawn []) (l__law_drawn : k__law_drawn ≤ k) {f : Addr} {cdv : Value} {A : Around} {outer : List Env} {s : Shared} {H : Hp} {E : XK} (hr : Room k (A.deeper (envOfC "_law_changed" (defScope d__law_changed) s.heap.objs.size f cdv))) :
    PSs (cxOf CX0 P w K mg base N__law_changed "_law_changed" (defScope d__law_changed) f cdv A outer s H E).nox (defBody d__law_changed) (t__law_changed K w s__law_drawn) :=
  (pss_cons (ps_set (i := 2) sc__law_changed.nd rfl (.inl rfl) (C8.pe_c c__law_drawn hr (by omega) (by rfl) (pa_cons (pv 0) (pa_cons pe_int pa_nil))))
    (pss_cons (ps_set (i := 3) sc__law_changed.nd rfl (.inl rfl) (C8.pe_c c__law_drawn hr (by omega) (by rfl) (pa_cons (pv 0) (pa_cons (pe_op op_add (pe_callB call_len_str (by rfl) T.m_len PySem.boot_len (pa_cons (pv 1) pa_nil)) pe_int) pa_nil))))
    (pss_cons (ps_set (i := 4) sc__law_changed.nd rfl (.inl rfl) (pe_ix ix_str pe_str (C8.pe_c c__law_drawn hr (by omega) (by rfl) (pa_cons (pv 0) (pa_cons pe_int pa_nil))) (fun _ _ => rfl)))
    (pss_cons (ps_if (pt_cmpR (op_lt) (pv 2) pe_int (nomark _)) (pss_one (ps_ret (pe_op op_add_str (pe_op op_add_str (pe_slice sl_str (pv 1) po_none (po_some (pv 3))) (pe_ix ix_list (pe_lst (pa_cons (pv 4) (pa_cons pe_str (pa_cons (pv 4) pa_nil)))) (pv 2) (fun _ _ => rfl))) (pe_slice sl_str (pv 1) (po_some (pe_op op_add (pv 3) (pe_callTy call_int1 (by rfl) T.m_int (by decide +kernel) (pa_cons (pe_cmpR (op_gt) (pv 2) pe_int (nomark _)) pa_nil)))) po_none)))) pss_nil)
    (pss_cons (ps_set (i := 5) sc__law_changed.nd rfl (.inl rfl) (XS.pe_split (pv 1) pe_str))
    (pss_cons (ps_set (i := 6) sc__law_changed.nd rfl (.inl rfl) (C8.pe_c c__law_drawn hr (by omega) (by rfl) (pa_cons (pv 0) (pa_cons (pe_callB call_len_seq (by rfl) T.m_len PySem.boot_len (pa_cons (pv 5) pa_nil)) pa_nil))))
    (pss_cons (ps_set (i := 7) sc__law_changed.nd rfl (.inl rfl) (pe_lst (pa_cons pe_str (pa_cons pe_str (pa_cons pe_str (pa_cons pe_str (pa_cons pe_str (pa_cons pe_str (pa_cons pe_str (pa_cons pe_str (pa_cons pe_str (pa_cons pe_str (pa_cons pe_str (pa_cons pe_str pa_nil))))))))))))))
    (pss_cons (ps_set (i := 8) sc__law_changed.nd rfl (.inl rfl) (pe_ix ix_list (pe_lst (pa_cons (pe_lst pa_nil) (pa_cons (pe_lst (pa_cons (pe_ix ix_list (pv 5) (pv 6) (fun _ _ => rfl)) (pa_cons (pe_ix ix_list (pv 5) (pv 6) (fun _ _ => rfl)) pa_nil))) (pa_cons (pe_lst (pa_cons (pe_ix ix_list (pv 7) (C8.pe_c c__law_drawn hr (by omega) (by rfl) (pa_cons (pv 0) (pa_cons pe_int pa_nil))) (fun _ _ => rfl)) pa_nil)) pa_nil)))) (pe_op op_sub (pv 2) pe_int) (fun _ _ => rfl)))
    (pss_one (ps_ret (XS.pe_join pe_str (pe_op op_cat (pe_op op_cat (pe_slice sl_list (pv 5) po_none (po_some (pv 6))) (pv 8)) (pe_slice sl_list (pv 5) (po_some (pe_op op_add (pv 6) pe_int)) po_none)))))))))))))
theorem fn__law_changed {k__law_drawn : Nat} {s__law_drawn : Sp} {k : Nat} {sp : Sp} (T : Txt P K mg) {f : Addr} {fd : FuncData} (F : Fun K "_law_changed" "_law_changed" d__law_changed f fd) (c__law_drawn : C8.Cal P w K mg base k__law_drawn "_law_drawn" s__law_drawn []) (l__law_drawn : k__law_drawn ≤ k) (len : ∀ vs H Q E, sp vs H Q E → vs.length = 2)
    (h : ∀ vs H Q E, sp vs H Q E → t__law_changed K w s__law_drawn { nx := fun _ H1 => Q .non H1, rt := Q } (start N__law_changed vs) H) : FnOk P w K mg base CX0 (k + 1) f fd ["_law_state", "_law_text"] sp :=
  F.ok sc__law_changed len (fun cdv A outer s H vs Q E hr q => ⟨_, der__law_changed T c__law_drawn l__law_drawn hr, h vs H Q E q⟩)
theorem cal__law_changed {k__law_drawn : Nat} {s__law_drawn : Sp} {k : Nat} {sp : Sp} (T : Txt P K mg) {f : Addr} {fd : FuncData} (F : Fun K "_law_changed" "_law_changed" d__law_changed f fd) (hb : Binds K fd ["_law_state", "_law_text"] []) (hm : mg "_law_changed" = some (.ref f)) (c__law_drawn : C8.Cal P w K mg base k__law_drawn "_law_drawn" s__law_drawn []) (l__law_drawn : k__law_drawn ≤ k) (len : ∀ vs H Q E, sp vs H Q E → vs.length = 2)
    (h : ∀ vs H Q E, sp vs H Q E → t__law_changed K w s__law_drawn { nx := fun _ H1 => Q .non H1, rt := Q } (start N__law_changed vs) H) : C8.Cal P w K mg base (k + 1) "_law_changed" sp [] :=
  ⟨f, fd, ["_law_state", "_law_text"], [], fn__law_changed T F c__law_drawn l__law_drawn len h, hm, F.kp, hb, .nil⟩
/-! ### law -/
abbrev d_law : Stmt := topS 28
abbrev N_law : List Str := ["_law_script", "_law_state", "_law_turn", "_law_lead_here", "_law_many", "_law_text", "_law_handed", "_law_again", "_law_found", "_law_change", "_law_k", "_law_goal", "_law_source"]
theorem sc_law : FnScope N_law ["_law_script"] (defScope d_law) := ⟨rfl, rfl, rfl, by decide +kernel, rfl, by decide +kernel, by decide +kernel⟩
def t_law (K : PySem.W.Frag) (w : World) (Pt : Addr) (s__law_start : Sp) (s__law_lead : Sp) (s__law_boxes : Sp) (s__law_drawn : Sp) (s_read_lead : Sp) (s__law_changed : Sp) (s__law_same : Sp) (s__law_read : Sp) (s_written : Sp) : TS :=
  (tSeq (tAsg (tCall s__law_start [] E0 (tCons (tVar 0) tNil)) (gName 1))
    (tSeq (tFor (iRng1 (tCons (tC (.int 6)) tNil)) (gName 2) (tSeq (tAsg (tCall s__law_lead [] E0 (tCons (tVar 1) (tCons (tCall s__law_boxes [] E0 (tCons (tVar 1) tNil)) tNil))) (gName 3))
    (tSeq (tIfS (tTest (tOp rEq (tCall s__law_drawn [] E0 (tCons (tVar 1) (tCons (tC (.int 3)) tNil))) (tC (.int 2)))) (tSeq (tAsg (tCall s__law_drawn [] E0 (tCons (tVar 1) (tCons (tOp (rIxL K) (tLst (tCons (tC (.int 6)) (tCons (tC (.int 6)) (tCons (tC (.int 60)) tNil)))) (tCall s__law_drawn [] E0 (tCons (tVar 1) (tCons (tC (.int 3)) tNil)))) tNil))) (gName 4))
    (tAsg (tLc (iRng1 (tCons (tVar 4) tNil)) (gName 10) tYes (tTup (tCons (tCall s__law_drawn [] E0 (tCons (tVar 1) (tCons (tC (.int 1000)) tNil))) (tCons (tCall s__law_drawn [] E0 (tCons (tVar 1) (tCons (tC (.int 1000)) tNil))) tNil))) [10]) (gName 3))) tNext)
    (tSeq (tAsg (tM1 (XS.rJoin K) (tC (.str " ")) (tLc (iList K (tVar 3)) (gTup K 2 (gCons (gName 11) (gCons (gName 12) gNil))) tYes (tOp vAddS (tOp vAddS (tCB XS.rStrI (tCons (tVar 11) tNil)) (tC (.str "<"))) (tCB XS.rStrI (tCons (tVar 12) tNil))) [11, 12])) (gName 5))
    (tSeq (tAsg (tCB (vListOf K) (tCons (tVar 3) tNil)) (gName 6))
    (tSeq (tIfS (tOr (tNot (tB (tCall s__law_same [] E0 (tCons (tCall s_written [] E0 (tCons (tVar 6) tNil)) (tCons (tVar 5) tNil))))) (tTest (tOp (rNeD K) (tVar 6) (tVar 3)))) (tRet (tC (.bl false))) tNext)
    (tSeq (tFor (iRng1 (tCons (tC (.int 2)) tNil)) (gName 7) (tSeq (tAsg (tCallS s_read_lead (WE (fun _ _ _ _ => False)) (tCons (tVar 5) tNil)) (gName 8))
    (tSeq (tIfS (tNot (tB (tCall s__law_same [] E0 (tCons (tVar 8) (tCons (tVar 3) tNil))))) (tRet (tC (.bl false))) tNext)
    (tDrop (tBM K "list" rAppend (tVar 8) (tCons (tTup tNil) tNil))))))
    (tSeq (tFor (iRng1 (tCons (tOp vAdd (tC (.int 1)) (tCall s__law_drawn [] E0 (tCons (tVar 1) (tCons (tC (.int 2)) tNil)))) tNil)) (gName 9) (tAsg (tCall s__law_changed [] E0 (tCons (tVar 1) (tCons (tVar 5) tNil))) (gName 5)))
    (tIfS (tNot (tB (tCall s__law_same [] E0 (tCons (EX.tLamP Pt EX.qlaw (EX.TKind K) (fun E => (tCallS s_read_lead (WE (fun cls d _ H => E cls d H)) (tCons (tVar 5) tNil)))) (tCons (tCall s__law_read [] E0 (tCons (tVar 5) tNil)) tNil))))) (tRet (tC (.bl false))) tNext)))))))))
    (tRet (tC (.bl true)))))
theorem der_law {k__law_start : Nat} {k__law_lead : Nat} {k__law_boxes : Nat} {k__law_drawn : Nat} {k_read_lead : Nat} {k__law_changed : Nat} {k__law_same : Nat} {k__law_read : Nat} {k_written : Nat} {s__law_start : Sp} {s__law_lead : Sp} {s__law_boxes : Sp} {s__law_drawn : Sp} {s_read_lead : Sp} {s__law_changed : Sp} {s__law_same : Sp} {s__law_read : Sp} {s_written : Sp} {k : Nat} (T : Txt P K mg) {kl : Nat} (l_lam : kl + 2 ≤ k) (c__law_start : C8.Cal P w K mg base k__law_start "_law_start" s__law_start []) (l__law_start : k__law_start ≤ k) (c__law_lead : C8.Cal P w K mg base k__law_lead "_law_lead" s__law_lead []) (l__law_lead : k__law_lead ≤ k) (c__law_boxes : C8.Cal P w K mg base k__law_boxes "_law_boxes" s__law_boxes []) (l__law_boxes : k__law_boxes ≤ k) (c__law_drawn : C8.Cal P w K mg base k__law_drawn "_law_drawn" s__law_drawn []) (l__law_drawn : k__law_drawn ≤ k) (c_read_lead : EX.CalX P w K mg base k_read_lead "read_lead" s_read_lead) (l_read_lead : k_read_lead ≤ kl ∧ k_read_lead ≤ k) (c__law_changed : C8.Cal P w K mg base k__law_changed "_law_changed" s__law_changed []) (l__law_changed : k__law_changed ≤ k) (c__law_same : C8.Cal P w K mg base k__law_same "_law_same" s__law_same []) (l__law_same : k__law_same ≤ k) (c__law_read : C8.Cal P w K mg base k__law_read "_law_read" s__law_read []) (l__law_read : k__law_read ≤ k) (c_written : C8.Cal P w K mg base k_written "written" s_written []) (l_written : k_written ≤ k) (KC : EX.KindC K) {f__law_kind : Addr} {fd__law_kind : FuncData} (F__law_kind : Fun K "_law_kind" "_law_kind" d__law_kind f__law_kind fd__law_kind) (b__law_kind : Binds K fd__law_kind ["_law_work"] []) (g__law_kind : mg "_law_kind" = some (.ref f__law_kind))
    (hk__law_kind : ∀ (cls : Value) (d : Option Addr) (H : Hp) (Q : VK), EX.KindE K cls d H Q → ∀ (σ : L2.St) (a : Addr) (D : Ends), σ.length = 5 → H a = none → D.rt = Q → t__law_kind K w a cls d D (σ.set 1 (some (.ref a))) H) {cc Pt : Addr} (TB : LamX.TabB base mg cc Pt) {f : Addr} {A : Around} {outer : List Env} {s : Shared} {H : Hp} {E : XK} (hr : Room k (A.deeper (envOfC "law" (defScope d_law) s.heap.objs.size f (.ref cc)))) :
    PSs (cxOf CX0 P w K mg base N_law "law" (defScope d_law) f (.ref cc) A outer s H E).nox (defBody d_law) (t_law K w Pt s__law_start s__law_lead s__law_boxes s__law_drawn s_read_lead s__law_changed s__law_same s__law_read s_written) :=
  (pss_cons (ps_set (i := 1) sc_law.nd rfl (.inr rfl) (C8.pe_c c__law_start hr (by omega) (by rfl) (pa_cons (pv 0) pa_nil)))
    (pss_cons (ps_for PassesOwn.never rfl (pi_range1 (by rfl) T.m_range (pa_cons pe_int pa_nil)) (pg_name (i := 2) sc_law.nd rfl (.inl rfl)) (pss_cons (ps_set (i := 3) sc_law.nd rfl (.inl rfl) (C8.pe_c c__law_lead hr (by omega) (by rfl) (pa_cons (pv 1) (pa_cons (C8.pe_c c__law_boxes hr (by omega) (by rfl) (pa_cons (pv 1) pa_nil)) pa_nil))))
    (pss_cons (ps_if (pt_cmpR (op_eq) (C8.pe_c c__law_drawn hr (by omega) (by rfl) (pa_cons (pv 1) (pa_cons pe_int pa_nil))) pe_int (nomark _)) (pss_cons (ps_set (i := 4) sc_law.nd rfl (.inl rfl) (C8.pe_c c__law_drawn hr (by omega) (by rfl) (pa_cons (pv 1) (pa_cons (pe_ix ix_list (pe_lst (pa_cons pe_int (pa_cons pe_int (pa_cons pe_int pa_nil)))) (C8.pe_c c__law_drawn hr (by omega) (by rfl) (pa_cons (pv 1) (pa_cons pe_int pa_nil))) (fun _ _ => rfl)) pa_nil))))
    (pss_one (ps_setLc (i := 3) (own := [("_law_k", 10)]) (g := (gName 10)) (tt := tYes) (te := (tTup (tCons (tCall s__law_drawn [] E0 (tCons (tVar 1) (tCons (tC (.int 1000)) tNil))) (tCons (tCall s__law_drawn [] E0 (tCons (tVar 1) (tCons (tC (.int 1000)) tNil))) tNil)))) rfl sc_law.nd rfl rfl (sw_true rfl rfl rfl (by decide +kernel)) (pi_range1 (by rfl) T.m_range (pa_cons (pv 4) pa_nil)) (blkOk_by (N := N_law) (sc := defScope d_law) (by decide +kernel)) (fun _ _ _ _ _ => (pg_name (i := 10) sc_law.nd rfl (.inl rfl))) (fun _ _ _ _ _ => pts_nil) (fun _ _ _ _ _ => (pe_tup (pa_cons (C8.pe_c c__law_drawn hr (by omega) (by rfl) (pa_cons (pv 1) (pa_cons pe_int pa_nil))) (pa_cons (C8.pe_c c__law_drawn hr (by omega) (by rfl) (pa_cons (pv 1) (pa_cons pe_int pa_nil))) pa_nil))))))) pss_nil)
    (pss_cons (ps_set (i := 5) sc_law.nd rfl (.inr rfl) (XS.pe_join pe_str (pe_lc (own := [("_law_goal", 11), ("_law_source", 12)]) (g := (gTup K 2 (gCons (gName 11) (gCons (gName 12) gNil)))) (tt := tYes) (te := (tOp vAddS (tOp vAddS (tCB XS.rStrI (tCons (tVar 11) tNil)) (tC (.str "<"))) (tCB XS.rStrI (tCons (tVar 12) tNil)))) (by rfl) sc_law.nd (pi_list (pv 3)) (blkOk_by (N := N_law) (sc := defScope d_law) (by decide +kernel)) (fun _ _ _ _ _ => (pg_tup (by rfl) (pgs_cons (pg_name (i := 11) sc_law.nd rfl (.inl rfl)) (pgs_cons (pg_name (i := 12) sc_law.nd rfl (.inl rfl)) pgs_nil)))) (fun _ _ _ _ _ => pts_nil) (fun _ _ _ _ _ => (pe_op op_add_str (pe_op op_add_str (pe_callTy XS.call_strI (by rfl) T.m_str (by decide +kernel) (pa_cons (pv 11) pa_nil)) pe_str) (pe_callTy XS.call_strI (by rfl) T.m_str (by decide +kernel) (pa_cons (pv 12) pa_nil)))))))
    (pss_cons (ps_set (i := 6) sc_law.nd rfl (.inl rfl) (pe_callTy call_list_of (by rfl) T.m_list (by decide +kernel) (pa_cons (pv 3) pa_nil)))
    (pss_cons (ps_if (PW.pt (pw_or (pt_not (pt_val (C8.pe_c c__law_same hr (by omega) (by rfl) (pa_cons (C8.pe_c c_written hr (by omega) (by rfl) (pa_cons (pv 6) pa_nil)) (pa_cons (pv 5) pa_nil))))) (pw_or1 (pt_cmpR (op_neD hr.units) (pv 6) (pv 3) (nomark _))))) (pss_one (ps_ret pe_bl)) pss_nil)
    (pss_cons (ps_for PassesOwn.never rfl (pi_range1 (by rfl) T.m_range (pa_cons pe_int pa_nil)) (pg_name (i := 7) sc_law.nd rfl (.inl rfl)) (pss_cons (ps_set (i := 8) sc_law.nd rfl (.inl rfl) (EX.pe_cx c_read_lead hr (by omega) (by rfl) takes0 (pa_cons (pv 5) pa_nil)))
    (pss_cons (ps_if (pt_not (pt_val (C8.pe_c c__law_same hr (by omega) (by rfl) (pa_cons (pv 8) (pa_cons (pv 3) pa_nil))))) (pss_one (ps_ret pe_bl)) pss_nil)
    (pss_one (ps_expr (pe_bm PySem.F.plainAttrs_list PySem.F.slot_list_append PySem.F.type_list_append mt_append (pv 8) (pa_cons (pe_tup pa_nil) pa_nil)))))))
    (pss_cons (ps_for PassesOwn.never rfl (pi_range1 (by rfl) T.m_range (pa_cons (pe_op op_add pe_int (C8.pe_c c__law_drawn hr (by omega) (by rfl) (pa_cons (pv 1) (pa_cons pe_int pa_nil)))) pa_nil)) (pg_name (i := 9) sc_law.nd rfl (.inl rfl)) (pss_one (ps_set (i := 5) sc_law.nd rfl (.inr rfl) (C8.pe_c c__law_changed hr (by omega) (by rfl) (pa_cons (pv 1) (pa_cons (pv 5) pa_nil))))))
    (pss_one (ps_if (pt_not (pt_val (C8.pe_c c__law_same hr (by omega) (by rfl) (pa_cons (EX.pe_kindP F__law_kind b__law_kind F__law_kind.kp g__law_kind sc__law_kind rfl (by first | exact .inl rfl | exact .inr (.inl rfl)) (fun cdg => der__law_kind T KC hk__law_kind) (by rfl) TB rfl rfl (hr.mono l_lam) (LamX.lamS_by (sc := defScope d_law) (by decide +kernel)) rfl (fun _ _ _ _ _ => rfl) (fun A outer s H E f c2 hr => (EX.pe_cx c_read_lead hr (by omega) (by rfl) (takes_of rfl rfl rfl rfl) (pa_cons (pv 5) pa_nil)))) (pa_cons (C8.pe_c c__law_read hr (by omega) (by rfl) (pa_cons (pv 5) pa_nil)) pa_nil))))) (pss_one (ps_ret pe_bl)) pss_nil))))))))))
    (pss_one (ps_ret pe_bl))))
theorem fn_law {k__law_start : Nat} {k__law_lead : Nat} {k__law_boxes : Nat} {k__law_drawn : Nat} {k_read_lead : Nat} {k__law_changed : Nat} {k__law_same : Nat} {k__law_read : Nat} {k_written : Nat} {s__law_start : Sp} {s__law_lead : Sp} {s__law_boxes : Sp} {s__law_drawn : Sp} {s_read_lead : Sp} {s__law_changed : Sp} {s__law_same : Sp} {s__law_read : Sp} {s_written : Sp} {k : Nat} {sp : Sp} (T : Txt P K mg) {kl : Nat} (l_lam : kl + 2 ≤ k) (c__law_start : C8.Cal P w K mg base k__law_start "_law_start" s__law_start []) (l__law_start : k__law_start ≤ k) (c__law_lead : C8.Cal P w K mg base k__law_lead "_law_lead" s__law_lead []) (l__law_lead : k__law_lead ≤ k) (c__law_boxes : C8.Cal P w K mg base k__law_boxes "_law_boxes" s__law_boxes []) (l__law_boxes : k__law_boxes ≤ k) (c__law_drawn : C8.Cal P w K mg base k__law_drawn "_law_drawn" s__law_drawn []) (l__law_drawn : k__law_drawn ≤ k) (c_read_lead : EX.CalX P w K mg base k_read_lead "read_lead" s_read_lead) (l_read_lead : k_read_lead ≤ kl ∧ k_read_lead ≤ k) (c__law_changed : C8.Cal P w K mg base k__law_changed "_law_changed" s__law_changed []) (l__law_changed : k__law_changed ≤ k) (c__law_same : C8.Cal P w K mg base k__law_same "_law_same" s__law_same []) (l__law_same : k__law_same ≤ k) (c__law_read : C8.Cal P w K mg base k__law_read "_law_read" s__law_read []) (l__law_read : k__law_read ≤ k) (c_written : C8.Cal P w K mg base k_written "written" s_written []) (l_written : k_written ≤ k) (KC : EX.KindC K) {f__law_kind : Addr} {fd__law_kind : FuncData} (F__law_kind : Fun K "_law_kind" "_law_kind" d__law_kind f__law_kind fd__law_kind) (b__law_kind : Binds K fd__law_kind ["_law_work"] []) (g__law_kind : mg "_law_kind" = some (.ref f__law_kind))
    (hk__law_kind : ∀ (cls : Value) (d : Option Addr) (H : Hp) (Q : VK), EX.KindE K cls d H Q → ∀ (σ : L2.St) (a : Addr) (D : Ends), σ.length = 5 → H a = none → D.rt = Q → t__law_kind K w a cls d D (σ.set 1 (some (.ref a))) H) {cc Pt : Addr} (TB : LamX.TabB base mg cc Pt) {f : Addr} {oc kV doc pm ct : Value} {od an : Option Addr} {osl : Array (Option Value)} (lk : K.lookup f = some ⟨oc, od, .func (PySem.W.fnOf "law" "law" (defArgs d_law) (defBody d_law) (defScope d_law) .none kV doc pm an (.ref cc) ct), osl⟩) (hcd : PySem.W.codeIn K (.ref cc) "law" = true) (len : ∀ vs H Q E, sp vs H Q E → vs.length = 1)
    (h : ∀ vs H Q E, sp vs H Q E → t_law K w Pt s__law_start s__law_lead s__law_boxes s__law_drawn s_read_lead s__law_changed s__law_same s__law_read s_written { nx := fun _ H1 => Q .non H1, rt := Q } (start N_law vs) H) :
    FnOk P w K mg base CX0 (k + 1) f (PySem.W.fnOf "law" "law" (defArgs d_law) (defBody d_law) (defScope d_law) .none kV doc pm an (.ref cc) ct) ["_law_script"] sp :=
  EX.okC lk hcd sc_law len (fun A outer s H vs Q E hr q => ⟨_, der_law T l_lam c__law_start l__law_start c__law_lead l__law_lead c__law_boxes l__law_boxes c__law_drawn l__law_drawn c_read_lead l_read_lead c__law_changed l__law_changed c__law_same l__law_same c__law_read l__law_read c_written l_written KC F__law_kind b__law_kind g__law_kind hk__law_kind TB hr, h vs H Q E q⟩)
end
end K13
namespace K13
open PySem PySem.Spec PyProof.Rows L2 MV CX CP CT
local macro_rules | `(tactic| walk_at "go") => `(tactic| repeat (first
  | with_reducible refine MV.k_seq ?_ | with_reducible refine MV.k_asg ?_ | with_reducible refine MV.k_name ?_ | with_reducible refine MV.k_op ?_ | ((with_reducible apply MV.k_var); exact rfl) | with_reducible refine MV.k_c ?_
  | with_reducible refine MV.k_add ?_ | with_reducible refine MV.k_sub ?_ | with_reducible refine MV.k_lt ?_ | with_reducible refine MV.k_le ?_ | with_reducible refine MV.k_gt ?_ | with_reducible refine MV.k_ge ?_ | with_reducible refine MV.k_eqI ?_ | with_reducible refine MV.k_neI ?_
  | with_reducible refine MV.k_test ?_ | with_reducible refine MV.k_B ?_ | with_reducible refine MV.k_bl ?_ | with_reducible refine MV.k_blV ?_ | with_reducible refine MV.k_and ?_ | with_reducible refine MV.k_or ?_ | with_reducible refine MV.k_not ?_ | with_reducible refine MV.k_andV ?_ | with_reducible refine MV.k_orV ?_ | with_reducible refine MV.k_notV ?_
  | with_reducible refine MV.k_if ?_ | with_reducible refine MV.k_tru ?_ | with_reducible refine MV.k_chain ?_ | with_reducible refine MV.k_next ?_ | with_reducible refine MV.k_drop ?_ | with_reducible refine MV.k_ret ?_ | with_reducible refine MV.k_retN ?_ | with_reducible refine MV.k_ifS ?_ | with_reducible refine MV.k_brk ?_ | with_reducible refine MV.k_cont ?_
  | with_reducible refine MV.k_nil ?_ | with_reducible refine MV.k_cons ?_ | with_reducible refine MV.k_tup ?_ | with_reducible refine MV.k_lst ?_ | with_reducible refine MV.k_cb ?_ | with_reducible refine MV.k_call ?_ | with_reducible refine MV.k_gnil ?_ | with_reducible refine MV.k_gcons ?_ | with_reducible refine MV.k_gsub ?_
  | with_reducible refine MV.k_bm ?_ | with_reducible refine MV.k_bm0 ?_ | with_reducible refine MV.k_un ?_ | with_reducible refine MV.k_neg ?_ | with_reducible refine MV.k_isN ?_ | with_reducible refine MV.k_notN ?_ | with_reducible refine L2.iteT ?_ | with_reducible refine L2.iteF ?_
  | with_reducible refine MV.k_iList ?_ | with_reducible refine MV.k_iTup ?_ | with_reducible refine MV.k_iRng1 ?_ | with_reducible refine MV.k_lc ?_ | with_reducible refine MV.k_for ?_
  | with_reducible refine MV.k_yes ?_ | with_reducible refine MV.k_dput ?_ | with_reducible refine MV.k_dget ?_ | with_reducible refine MV.k_dget1 ?_ | with_reducible refine MV.k_sl ?_ | with_reducible refine MV.k_nopart ?_ | with_reducible refine MV.k_part ?_ | with_reducible refine MV.k_pint ?_ | with_reducible refine MV.k_dnew ?_ | with_reducible refine MV.k_lstRg ?_ | with_reducible refine MV.k_rg1 ?_
  | with_reducible refine CX.k_callS ?_ | with_reducible refine CX.k_iEnum ?_))
section
variable {K : PySem.W.Frag} {w : World} {H : Hp}
def spLaw (K : PySem.W.Frag) (Pt : Addr) : Sp := fun vs H Q _ => ∃ (a : Addr) (ns : List Int), vs = [.ref a] ∧ SqL K H a (ns.map V.int) ∧ ns.length ≤ 63 ∧ H Pt = some (.tbl #[]) ∧ ∀ H', Q (.bl true) H'
theorem k_andT {σ : L2.St} (x : Prop) : True := trivial
theorem lead_dat (ld : Lead) (l : ld.length ≤ 1000) : small (pdLead ld) = true ∧ (pdLead ld).depth < 4 := by
  have dp := depth_pairs ld
  refine ⟨?_, by show PyData.depthAll (ld.map pdPair) + 1 < 4; omega⟩
  show (decide ((ld.map pdPair).length ≤ 1000) && smallAll (ld.map pdPair)) = true
  rw [decide_eq_true (by rw [List.length_map]; exact l), smallAll_of fun d hd => by obtain ⟨x, _, rfl⟩ := List.mem_map.mp hd; rfl]; rfl
theorem ints_ix {p : Addr} {ws : List Int} {i : Int} {Q : VK} (h : SqL K H p (ws.map V.int)) (i0 : 0 ≤ i) (i1 : i < (ws.length : Nat)) (q : ∀ x, x ∈ ws → Q (.int x) H) : rIxL K (.ref p) (.int i) H Q := by
  obtain ⟨k, rfl⟩ : ∃ k : Nat, i = k := ⟨i.toNat, by omega⟩
  have hk : k < ws.length := by omega
  exact k_ixL h (atI_nat (by rw [List.getElem?_map, List.getElem?_eq_getElem hk]; rfl)) (q _ (List.getElem_mem hk))
theorem words_told : ∀ W : List Str, (∃ ps : Lead, W.map CW.wordP = ps.map some) ∨ ∃ (k : Nat) (x : Str), W[k]? = some x ∧ CW.wordP x = none ∧ ∀ i y, i < k → W[i]? = some y → CW.wordP y ≠ none
  | [] => .inl ⟨[], rfl⟩
  | x :: r => by
    cases e : CW.wordP x with
    | none => exact .inr ⟨0, x, rfl, e, fun i y hi _ => absurd hi (by omega)⟩
    | some p =>
      rcases words_told r with ⟨ps, h⟩ | ⟨k, y, h1, h2, h3⟩
      · exact .inl ⟨p :: ps, by rw [List.map_cons, List.map_cons, e, h]⟩
      · refine .inr ⟨k + 1, y, by rw [List.getElem?_cons_succ]; exact h1, h2, fun i z hi hz => ?_⟩
        cases i with
        | zero =>
          have : x = z := Option.some.inj hz
          subst this
          rw [e]; exact fun z => nomatch z
        | succ j => exact h3 j z (by omega) (by rw [List.getElem?_cons_succ] at hz; exact hz)
theorem TBadT {k : Nat} {dd c a Pt : Addr} {ns : List Int} {G H0 G1 H1 H2 : Hp} {R : VK} (e1 : Ext [Pt] G H0 G1 H1) (d1 : Dr K c a ns G1 H1) (b1 : Tb Pt G1 H1) (e2 : Ext [] G1 H1 G1 H2) (ndd : H2 dd = none)
    (q : ∀ p H3, Ext [Pt] G H0 G1 H3 → Tb Pt G1 H3 → Dr K c a ns G1 H3 → H3 p = some (.tup [.str "BadText", .int (k : Nat)]) → R (.ref p) H3) : EX.KindE K (.ref (He.ga K "BadText")) (some dd) (upd H2 dd (.xd [("place", .int (k : Nat))])) R := by
  refine ⟨"BadText", by decide, rfl, .inr ⟨"place", dd, (k : Nat), .inr ⟨rfl, rfl⟩, rfl, upd_same, fun H3 p s3 hp => ?_⟩⟩
  have b2 := b1.ext e2 d1.st (fun m h => nomatch h)
  have d2 := d1.pure e2 (by simp)
  have e3 := (Ext.refl (M := []) d2.s).tmp (o := .xd [("place", .int (k : Nat))]) ndd
  have b3 := b2.ext e3 d2.st (fun m h => nomatch h)
  have d3 := d2.tmp (o := .xd [("place", .int (k : Nat))]) ndd
  have e4 := same_ext (M := []) d3.s s3
  exact q p H3 (((e1.trans e2.to).trans e3.to).trans e4.to) (b3.ext e4 d3.st (fun m h => nomatch h)) (d3.pure e4 (by simp)) hp
theorem turn_end {Pt c a l : Addr} {ns : List Int} {G : Hp} {ld : Lead} {D : Ends} {x0 x2 x4 x5 x6 x7 x8 x9 x10 x11 x12 : Option V} (d : Dr K c a ns G H) (b : Tb Pt G H) (la : LeadAt K G l ld) (l60 : ld.length ≤ 60) (sm : CW.Small ld)
    (q : ∀ G1 H1 y4 y5 y6 y7 y8 y9 y10 y11 y12, Ext [a, Pt] G H G1 H1 → Dr K c a ns G1 H1 → Tb Pt G1 H1 → D.nx [x0, some (.ref a), x2, some (.ref l), y4, y5, y6, y7, y8, y9, y10, y11, y12] H1) :
  (tSeq (tAsg (tM1 (XS.rJoin K) (tC (.str " ")) (tLc (iList K (tVar 3)) (gTup K 2 (gCons (gName 11) (gCons (gName 12) gNil))) tYes (tOp vAddS (tOp vAddS (tCB XS.rStrI (tCons (tVar 11) tNil)) (tC (.str "<"))) (tCB XS.rStrI (tCons (tVar 12) tNil))) [11, 12])) (gName 5))
    (tSeq (tAsg (tCB (vListOf K) (tCons (tVar 3) tNil)) (gName 6))
    (tSeq (tIfS (tOr (tNot (tB (tCall (spSame K 4) [] E0 (tCons (tCall (CW.spWritten K) [] E0 (tCons (tVar 6) tNil)) (tCons (tVar 5) tNil))))) (tTest (tOp (rNeD K) (tVar 6) (tVar 3)))) (tRet (tC (.bl false))) tNext)
    (tSeq (tFor (iRng1 (tCons (tC (.int 2)) tNil)) (gName 7) (tSeq (tAsg (tCallS (CW.spReadLead K) (WE (fun _ _ _ _ => False)) (tCons (tVar 5) tNil)) (gName 8))
    (tSeq (tIfS (tNot (tB (tCall (spSame K 4) [] E0 (tCons (tVar 8) (tCons (tVar 3) tNil))))) (tRet (tC (.bl false))) tNext)
    (tDrop (tBM K "list" rAppend (tVar 8) (tCons (tTup tNil) tNil))))))
    (tSeq (tFor (iRng1 (tCons (tOp vAdd (tC (.int 1)) (tCall (spDrawn K) [] E0 (tCons (tVar 1) (tCons (tC (.int 2)) tNil)))) tNil)) (gName 9) (tAsg (tCall (CW.spLawChanged K) [] E0 (tCons (tVar 1) (tCons (tVar 5) tNil))) (gName 5)))
    (tIfS (tNot (tB (tCall (spSame K 4) [] E0 (tCons (EX.tLamP Pt EX.qlaw (EX.TKind K) (fun E => (tCallS (CW.spReadLead K) (WE (fun cls d _ H => E cls d H)) (tCons (tVar 5) tNil)))) (tCons (tCall (CW.spLawRead K) [] E0 (tCons (tVar 5) tNil)) tNil))))) (tRet (tC (.bl false))) tNext)))))) D [x0, some (.ref a), x2, some (.ref l), x4, x5, x6, x7, x8, x9, x10, x11, x12] H := by
  obtain ⟨xs, hx, hd⟩ := la.ex
  have ll : xs.length = ld.length := by rw [dpAll_len hd, List.length_map]
  walk_at "go"
  refine CW.k_m1 ?_
  walk_at "go"
  refine ⟨⟨_, rfl⟩, ?_⟩
  walk_at "go"
  refine ⟨_, rfl, ⟨_, d.s.seq hx⟩, ?_⟩
  refine lcL (M := []) d.s (fun _ h => nomatch h) hx (by omega) (fun i acc G1 H1 => acc = ((ld.take i).map CW.pairT).map V.str) (fun _ _ _ _ _ _ h => h) rfl
    (fun i x acc G1 H1 Ry Rn hi ex e iv hy hn => ?_) (fun p acc G1 H1 e np gp hp hl iv => ?_)
  · subst iv
    obtain ⟨t, pr, ep, rfl, ht⟩ := pair_at hd ex
    have hs := sm pr (List.mem_of_getElem? ep)
    have n1 := CW.numT_len hs.1 hs.2.1
    have n2 := CW.numT_len hs.2.2.1 hs.2.2.2
    have lz : ("<" : Str).length = 1 := by rw [CW.lt_tl, CW.tl_lt]; rfl
    have l2 := CW.len_app (CW.numT pr.1) "<"
    walk_at "go"
    refine k_tupN (sqT_mono e.s (sqT_mono e.g ht)) rfl ?_
    walk_at "go"
    refine ⟨rfl, ?_⟩
    walk_at "go"
    refine ⟨pr.1, rfl, CW.log_small hs.1 hs.2.1, ?_⟩
    walk_at "go"
    refine ⟨CW.numT pr.1, "<", rfl, rfl, sz1 (by omega), ?_⟩
    walk_at "go"
    refine ⟨pr.2, rfl, CW.log_small hs.2.2.1 hs.2.2.2, ?_⟩
    refine ⟨CW.numT pr.1 ++ ("<" : Str), CW.numT pr.2, rfl, rfl, sz1 (by omega), ?_⟩
    refine hy _ _ _ (Ext.refl e.s) ?_
    rw [List.take_add_one, ep, List.map_append, List.map_append]
    rfl
  · subst iv
    rw [ll, List.take_length] at hp
    have e1 := e.back d.s
    have d1 := d.pure e1 (by simp)
    have b1 := b.step0 d e1
    walk_at "go"
    refine ⟨" ", p, ld.map CW.pairT, rfl, rfl, .inl (SqL.of hp), CW.pairs_sum sm (by omega), ?_⟩
    rw [show Txt.join " " (ld.map CW.pairT) = CW.textOf ld from rfl]
    obtain ⟨tl, ts⟩ := CW.textOf_ok sm
    have wr := CW.words_read sm
    walk_at "go"
    refine ⟨l, xs, rfl, .inl (d1.s.seq hx), fun l2 nl2 => ?_⟩
    obtain ⟨G2, H2, -, eH, e2, d2, b2, g2⟩ := push d1 b1 (.lst xs) nl2
    rw [← eH]
    clear eH
    have la2 : LeadAt K G2 l2 ld := ⟨⟨xs, SqL.of g2, dpAll_mono e2.g _ _ hd⟩⟩
    have la2' : LeadAt K G2 l ld := la.mono e2.g
    walk_at "go"
    refine ⟨G2, l2, ld, rfl, d2.s, la2, by omega, sm, fun H3 e3 => ?_⟩
    walk_at "go"
    refine ⟨G2, .str (CW.textOf ld), _, _, rfl, e3.s, .str _, .str _, rfl, by show 0 < 4; decide, fun H4 e4 => ?_⟩
    walk_at "go"
    refine L2.iteF ?_
    have E4 := e3.trans e4
    walk_at "go"
    refine k_neLead (la2.mono E4.s) (la2'.mono E4.s) ?_
    walk_at "go"
    have d4 := d2.pure E4 (by simp)
    have b4 := b2.step0 d2 E4
    have EE : Ext [a, Pt] G H G2 H4 := (((e1.trans e2).trans E4)).to
    have sd := lead_dat ld (by omega)
    clear e3 e4 E4 e2 e1 e d1 b1 d2 b2 nl2 g2 np gp hp hl hx hd
    generalize CW.textOf ld = t at *
    refine ⟨_, rfl, by decide, by decide, ?_⟩
    refine forR (M := []) d4.s (fun j σ1 G5 H5 => G5 = G2 ∧ ∃ y7 y8, σ1 = [x0, some (.ref a), x2, some (.ref l), x4, some (.str t), some (.ref l2), y7, y8, x9, x10, x11, x12])
      ⟨rfl, _, _, rfl⟩ (fun j σ1 G5 H5 hj e5 ⟨eG, y7, y8, es⟩ => ?_) (fun σ1 G5 H5 e5 ⟨eG, y7, y8, es⟩ => ?_)
    · subst es eG
      walk_at "go"
      refine ⟨G5, t, rfl, e5.s, by omega, .inl ⟨ld, wr, fun l3 ts3 G6 H6 e6 nl3 gl3 hl3 pt => ?_⟩⟩
      walk_at "go"
      have pt' : PsAt K (upd G6 l3 (.lst (ts3.map V.ref))) ts3 ld := pt.mono (same_know gl3)
      have la6 : Dp K (upd G6 l3 (.lst (ts3.map V.ref))) (.ref l) (pdLead ld) := by
        obtain ⟨xs, h1, h2⟩ := (la2'.mono (e6.g.trans (same_know gl3))).ex
        exact .lst h1 h2
      refine ⟨upd G6 l3 (.lst (ts3.map V.ref)), pdLead ld, .ref l3, .ref l, rfl, same_lock e6.s hl3, .lst (SqL.of upd_same) pt'.dp, la6, sd.1, sd.2, fun H7 e7 => ?_⟩
      walk_at "go"
      refine L2.iteF ?_
      have e7' : Ext [] G6 H6 G6 H7 := Ext.hide e7 (same_know gl3)
      have hl7 : H7 l3 = some (.lst (ts3.map V.ref)) := e7.same _ _ hl3
      have l3n : ts3.length = ld.length := MV.paired_len pt
      walk_at "go"
      refine ⟨tyL hl7, ?_⟩
      walk_at "go"
      refine ⟨sz1 (by simp), fun tt ntt => ?_⟩
      walk_at "go"
      refine k_append (upd_two (ne_of_none hl7 ntt) hl7) (sz2 (by rw [List.length_map]; omega)) ?_
      walk_at "go"
      exact ⟨G5, (((e6.trans e7').tmp ntt).mut nl3 gl3).back e5.s, rfl, _, _, rfl⟩
    · subst es eG
      have d5 := d4.pure e5 (by simp)
      have b5 := b4.step0 d4 e5
      have E5 := EE.trans e5.to
      walk_at "go"
      refine d5.draw (M := [a]) (by simp) (by decide) (by decide) fun v H6 v0 v1 e6 d6 k6 => ?_
      have b6 := b5.step d5 e6
      have E6 := E5.trans (Ext.wa e6)
      walk_at "go"
      refine ⟨_, rfl, by omega, by omega, ?_⟩
      have hn : (1 + v).toNat ≤ 2 := by omega
      generalize (1 + v).toNat = n at *
      refine forR (M := [a]) d6.s (fun j σ1 G7 H7 => Dr K c a ns G7 H7 ∧ ∃ t' y9, σ1 = [x0, some (.ref a), x2, some (.ref l), x4, some (.str t'), some (.ref l2), y7, y8, y9, x10, x11, x12] ∧ CW.Sane t' ∧ t'.length + 10 ≤ 490 * 2 ^ j)
        ⟨d6, t, _, rfl, ts, by omega⟩ (fun j σ1 G7 H7 hj e7 ⟨d7, t', y9, es, st, lt⟩ => ?_) (fun σ1 G7 H7 e7 ⟨d7, t', y9, es, st, lt⟩ => ?_)
      · subst es
        have lt1 : t'.length ≤ 1000 := by
          have c : j = 0 ∨ j = 1 := by omega
          rcases c with rfl | rfl <;> omega
        walk_at "go"
        refine ⟨c, a, ns, G7, t', rfl, d7, lt1, st, fun t2 G8 H8 e8 d8 l8 s8 => ?_⟩
        walk_at "go"
        exact ⟨G8, e8, d8, t2, _, rfl, s8, by rw [Nat.pow_succ]; omega⟩
      · subst es
        have b7 := b6.step d6 e7
        have E7 := E6.trans (Ext.wa e7)
        have lt3 : t'.length ≤ 3000 := by
          have c : n = 0 ∨ n = 1 ∨ n = 2 := by omega
          rcases c with rfl | rfl | rfl <;> omega
        clear EE e5 d5 b5 E5 e6 d6 k6 b6 E6 e7 wr tl ts d4 b4
        walk_at "go"
        refine ⟨b7.t, fun H8 but t1 => ?_⟩
        obtain ⟨e8, b8⟩ := Tb.lam d7.s b7 but t1
        have d8 := Dr.lam d7 b7 but e8.s
        unfold EX.TKind
        dsimp only
        walk_at "go"
        rcases words_told (CW.wordsT t') with ⟨ps, ep⟩ | ⟨k, x, ek, wk, gk⟩
        · have pc := CW.pairs_count ep
          have sd2 := lead_dat ps (by omega)
          refine ⟨G7, t', rfl, d8.s, lt3, .inl ⟨ps, ep, fun l3 ts3 G9 H9 e9 nl3 gl3 hl3 pt3 => ?_⟩⟩
          walk_at "go"
          refine ⟨upd G9 l3 (.lst (ts3.map V.ref)), t', rfl, same_lock e9.s hl3, lt3, st, .inl ⟨ps, ep, fun l4 ts4 G10 H10 e10 nl4 gl4 hl4 pt4 => ?_⟩⟩
          walk_at "go"
          have g3 : (upd G10 l4 (.lst (ts4.map V.ref))) l3 = some (.lst (ts3.map V.ref)) := same_know gl4 _ _ (e10.g _ _ upd_same)
          have s9 : Same G9 (upd G10 l4 (.lst (ts4.map V.ref))) := ((same_know gl3).trans e10.g).trans (same_know gl4)
          have p3 := (PsAt.mono pt3 s9).dp
          have p4 := (PsAt.mono pt4 (same_know (o := .lst (ts4.map V.ref)) gl4)).dp
          refine ⟨upd G10 l4 (.lst (ts4.map V.ref)), pdLead ps, .ref l3, .ref l4, rfl, same_lock e10.s hl4, .lst (SqL.of g3) p3, .lst (SqL.of upd_same) p4, sd2.1, sd2.2, fun H11 e11 => ?_⟩
          walk_at "go"
          refine L2.iteF ?_
          have e10' : Ext [] G9 H9 G9 H10 := Ext.hide e10 (same_know gl3)
          have e11' : Ext [] G9 H10 G9 H11 := Ext.hide e11 s9
          have X : Ext [] G7 H8 G9 H11 := (e9.trans e10').trans e11'
          walk_at "go"
          exact q G9 H11 _ _ _ _ _ _ _ _ _ ((E7.trans (Ext.wp e8)).trans X.to) (d8.pure X (by simp)) (b8.step0 d8 X)
        · refine ⟨G7, t', rfl, d8.s, lt3, .inr ⟨k, x, ek, wk, gk, fun H9 dd e9 ndd => TBadT e8 d8 b8 e9 ndd fun p H10 e10 b10 d10 hp10 => ?_⟩⟩
          walk_at "go"
          refine ⟨G7, t', rfl, d10.s, lt3, st, .inr ⟨k, x, ek, wk, gk, fun tt G11 H11 e11 ntt gtt => ?_⟩⟩
          walk_at "go"
          refine ⟨H11, .tuple [.str "BadText", .int (k : Nat)], .ref p, .ref tt, rfl, Same.refl _, .tup (SqT.of (e11.same _ _ hp10)) (.cons (.str _) (.cons (.int _) .nil)), .tup (SqT.of (e11.s _ _ gtt)) (.cons (.str _) (.cons (.int _) .nil)), rfl, by show max 0 (max 0 0) + 1 < 4; decide, fun H12 e12 => ?_⟩
          walk_at "go"
          refine L2.iteF ?_
          have X : Ext [] G7 H10 G11 H12 := e11.trans (CH.Ext.swap e12 e11.s)
          walk_at "go"
          exact q G11 H12 _ _ _ _ _ _ _ _ _ ((E7.trans (Ext.wp e10)).trans X.to) (d10.pure X (by simp)) (b10.step0 d10 X)
theorem Small_of {n : Int} {ld : Lead} (g : GoodM n ld) (n10 : n ≤ 10) : CW.Small ld := fun p hp => by
  have := g.rg p hp
  omega
theorem pure_law (Pt : Addr) (vs : List V) (Q : VK) (E : XK) (h : spLaw K Pt vs H Q E) : t_law K w Pt (spStart K) (spLead K) (spBoxes K) (spDrawn K) (CW.spReadLead K) (CW.spLawChanged K) (spSame K 4) (CW.spLawRead K) (CW.spWritten K) { nx := fun _ H1 => Q .non H1, rt := Q } (start N_law vs) H := by
  obtain ⟨c, ns, rfl, hx, h63, hP, q⟩ := h
  unfold t_law
  walk_at "go"
  refine ⟨c, ns, rfl, ⟨hx, h63⟩, fun a H1 na sa ka st => ?_⟩
  obtain ⟨G0, d0, b0⟩ := law_start hx h63 hP na sa st
  walk_at "go"
  refine ⟨_, rfl, by decide, by decide, ?_⟩
  refine forR (M := [a, Pt]) d0.s (fun i σ1 G2 H2 => ∃ x2 x3 x4 x5 x6 x7 x8 x9 x10 x11 x12, σ1 = [some (.ref c), some (.ref a), x2, x3, x4, x5, x6, x7, x8, x9, x10, x11, x12] ∧ Dr K c a ns G2 H2 ∧ Tb Pt G2 H2)
    ⟨none, none, none, none, none, none, none, none, none, none, none, rfl, d0, b0⟩ (fun i σ1 G2 H2 hi e2 ⟨x2, x3, x4, x5, x6, x7, x8, x9, x10, x11, x12, es, d2, b2⟩ => ?_) (fun σ1 G2 H2 e2 ⟨x2, x3, x4, x5, x6, x7, x8, x9, x10, x11, x12, es, d2, b2⟩ => ?_)
  · subst es
    walk_at "go"
    refine ⟨c, a, ns, G2, rfl, d2, fun n G3 H3 e3 d3 n1 n10 => ?_⟩
    have b3 := b2.step d2 e3
    walk_at "go"
    refine ⟨c, a, ns, G3, n, rfl, d3, n1, n10, fun l xs ld G4 H4 e4 d4 nl hl dl gm => ?_⟩
    have b4 := b3.step d3 e4
    have la : LeadAt K G4 l ld := ⟨⟨xs, SqL.of hl, dl⟩⟩
    have ll := gm.len
    have sm := Small_of gm n10
    walk_at "go"
    refine d4.draw (M := [a]) (by simp) (by decide) (by decide) fun v H5 v0 v1 e5 d5 k5 => ?_
    have b5 := b4.step d4 e5
    have E5 : Ext [a] G2 H2 G4 H5 := (e3.trans e4).trans e5
    walk_at "go"
    refine k_both (fun hv => ?_) (fun hv => ?_)
    · walk_at "go"
      refine ⟨sz1 (by simp), fun o1 no1 => ?_⟩
      obtain ⟨G6, H6, -, eH, e6, d6, b6, g6⟩ := push d5 b5 (.lst (([6, 6, 60] : List Int).map V.int)) no1
      have eH' : upd H5 o1 (.lst [.int 6, .int 6, .int 60]) = H6 := by rw [eH]; rfl
      rw [eH']
      clear eH eH'
      walk_at "go"
      refine d6.draw (M := [a]) (by simp) (by decide) (by decide) fun u H7 u0 u1 e7 d7 k7 => ?_
      have b7 := b6.step d6 e7
      refine ints_ix (d7.s.seq (SqL.of g6)) u0 (by show u < 3; exact u1) fun mm hm => ?_
      have m0 : 0 < mm ∧ mm ≤ 60 := by
        simp only [List.mem_cons, List.not_mem_nil, or_false] at hm
        omega
      walk_at "go"
      refine d7.draw (M := [a]) (by simp) m0.1 (by omega) fun many H8 a0 a1 e8 d8 k8 => ?_
      have b8 := b7.step d7 e8
      have E8 := ((E5.trans e6.to).trans e7).trans e8
      walk_at "go"
      refine ⟨_, rfl, by omega, by omega, ?_⟩
      refine lcR (M := [a]) d8.s (fun m hm => by rw [List.mem_singleton.mp hm]; exact d8.st.ne) (by omega) (fun i acc G9 H9 => Stt c a H9 ∧ ∃ (ts : List Addr) (ps : Lead), acc = ts.map V.ref ∧ PsAt K G9 ts ps ∧ CW.Small ps ∧ ps.length = i)
        (fun i acc G9 H9 H10 hk ⟨st, z⟩ => ⟨st.of (hk a (by simp)), z⟩) ⟨d8.st, [], [], rfl, .nil, (fun p hp => nomatch hp), rfl⟩ (fun i acc G9 H9 Ry Rn hi e9 ⟨st, ts, ps, ea, pt, sp, lp⟩ hy hn => ?_) (fun D acc G9 H9 e9 hD gD hD9 hl9 ⟨st, ts, ps, ea, pt, sp, lp⟩ => ?_)
      · subst ea
        have d9 := d8.next e9 st
        walk_at "go"
        refine ⟨rfl, ?_⟩
        walk_at "go"
        refine d9.draw (M := [a]) (by simp) (by decide) (by decide) fun y1 H10 y10 y11 e10 d10 k10 => ?_
        walk_at "go"
        refine d10.draw (M := [a]) (by simp) (by decide) (by decide) fun y2 H11 y20 y21 e11 d11 k11 => ?_
        walk_at "go"
        refine ⟨sz1 (by simp), fun tp ntp => ?_⟩
        have e12 := (e10.trans e11).new (o := .tup [.int y1, .int y2]) ntp
        have d12 := d11.new (o := .tup [.int y1, .int y2]) ntp
        refine hy _ _ _ e12 ⟨d12.st, ts ++ [tp], ps ++ [(y1, y2)], by rw [List.map_append]; rfl, MV.paired_app (PsAt.mono pt e12.g) (SqT.of upd_same), fun p hp => ?_, by rw [List.length_append, lp]; rfl⟩
        rcases List.mem_append.mp hp with hp | hp
        · exact sp p hp
        · rw [List.mem_singleton.mp hp]
          exact ⟨y10, y11, y20, y21⟩
      · subst ea
        have e13 : Ext [a] _ _ (upd G9 D (.lst (ts.map V.ref))) H9 := e9.frz hD gD hD9
        have d13 := d8.next e13 st
        have b13 := b8.step d8 e13
        have E13 := E8.trans e13
        have la13 : LeadAt K (upd G9 D (.lst (ts.map V.ref))) D ps := PsAt.lead (PsAt.mono pt (same_know gD)) (SqL.of upd_same)
        walk_at "go"
        refine turn_end d13 b13 la13 (by omega) sp fun G14 H14 y4 y5 y6 y7 y8 y9 y10 y11 y12 e14 d14 b14 => ?_
        exact ⟨G14, (Ext.wa E13).trans e14, _, _, _, _, _, _, _, _, _, _, _, rfl, d14, b14⟩
    · walk_at "go"
      refine turn_end d5 b5 la (by omega) sm fun G14 H14 y4 y5 y6 y7 y8 y9 y10 y11 y12 e14 d14 b14 => ?_
      exact ⟨G14, (Ext.wa E5).trans e14, _, _, _, _, _, _, _, _, _, _, _, rfl, d14, b14⟩
  · subst es
    walk_at "go"
    exact q _
end
end K13
namespace K13
open PySem PySem.Spec PyProof.Rows L2
def dd_written : He.FnD := ⟨("written", none), "written", "written", defArgs d_written, defBody d_written, defScope d_written⟩
def dd_is_number : He.FnD := ⟨("is_number", none), "is_number", "is_number", defArgs d_is_number, defBody d_is_number, defScope d_is_number⟩
def dd_read_lead : He.FnD := ⟨("read_lead", none), "read_lead", "read_lead", defArgs d_read_lead, defBody d_read_lead, defScope d_read_lead⟩
def dd__law_start : He.FnD := ⟨("_law_start", none), "_law_start", "_law_start", defArgs d__law_start, defBody d__law_start, defScope d__law_start⟩
def dd__law_drawn : He.FnD := ⟨("_law_drawn", none), "_law_drawn", "_law_drawn", defArgs d__law_drawn, defBody d__law_drawn, defScope d__law_drawn⟩
def dd__law_same : He.FnD := ⟨("_law_same", none), "_law_same", "_law_same", defArgs d__law_same, defBody d__law_same, defScope d__law_same⟩
def dd__law_kind : He.FnD := ⟨("_law_kind", none), "_law_kind", "_law_kind", defArgs d__law_kind, defBody d__law_kind, defScope d__law_kind⟩
def dd__law_order : He.FnD := ⟨("_law_order", none), "_law_order", "_law_order", defArgs d__law_order, defBody d__law_order, defScope d__law_order⟩
def dd__law_lead : He.FnD := ⟨("_law_lead", none), "_law_lead", "_law_lead", defArgs d__law_lead, defBody d__law_lead, defScope d__law_lead⟩
def dd__law_boxes : He.FnD := ⟨("_law_boxes", none), "_law_boxes", "_law_boxes", defArgs d__law_boxes, defBody d__law_boxes, defScope d__law_boxes⟩
def dd__law_number : He.FnD := ⟨("_law_number", none), "_law_number", "_law_number", defArgs d__law_number, defBody d__law_number, defScope d__law_number⟩
def dd__law_read : He.FnD := ⟨("_law_read", none), "_law_read", "_law_read", defArgs d__law_read, defBody d__law_read, defScope d__law_read⟩
def dd__law_changed : He.FnD := ⟨("_law_changed", none), "_law_changed", "_law_changed", defArgs d__law_changed, defBody d__law_changed, defScope d__law_changed⟩
def dd_law : He.FnD := ⟨("law", none), "law", "law", defArgs d_law, defBody d_law, defScope d_law⟩
def fn : List He.FnD := [dd_written, dd_is_number, dd_read_lead, dd__law_start, dd__law_drawn, dd__law_same, dd__law_kind, dd__law_order, dd__law_lead, dd__law_boxes, dd__law_number, dd__law_read, dd__law_changed, dd_law]
def fa : List He.Fa := [.glo "written",
  .glo "is_number",
  .glo "read_lead",
  .glo "_law_start",
  .glo "_law_drawn",
  .glo "_law_same",
  .glo "_law_kind",
  .glo "_law_order",
  .glo "_law_lead",
  .glo "_law_boxes",
  .glo "_law_number",
  .glo "_law_read",
  .glo "_law_changed",
  .glo "law",
  .glo "BadCall",
  .glo "BadHouse",
  .glo "BadLead",
  .glo "BadMove",
  .glo "BadSpare",
  .glo "BadText",
  .glo "BadWord",
  .glo "MoveError",
  .glo "NoWay",
  .free "ValueError",
  .free "bool",
  .free "enumerate",
  .free "int",
  .free "isinstance",
  .free "len",
  .free "list",
  .free "range",
  .free "sorted",
  .free "str",
  .free "tuple",
  .int "MOST_FIGURES" 3,
  .keep "written",
  .keep "is_number",
  .keep "read_lead",
  .keep "_law_start",
  .keep "_law_drawn",
  .keep "_law_same",
  .keep "_law_kind",
  .keep "_law_order",
  .keep "_law_lead",
  .keep "_law_boxes",
  .keep "_law_number",
  .keep "_law_read",
  .keep "_law_changed",
  .keep "law"]
def bad_BadMove : EX.InitD := ⟨"BadMove", "number", "move ", " can't be", ⟨⟨10, 17, 10, 21⟩, ⟨10, 23, 10, 29⟩, ⟨11, 8, 11, 13⟩, ⟨11, 8, 11, 15⟩, ⟨11, 8, 11, 24⟩, ⟨11, 27, 11, 32⟩, ⟨11, 33, 11, 39⟩, ⟨11, 32, 11, 40⟩, ⟨11, 40, 11, 49⟩, ⟨11, 25, 11, 50⟩, ⟨11, 8, 11, 51⟩, ⟨12, 8, 12, 12⟩, ⟨12, 8, 12, 19⟩, ⟨12, 22, 12, 28⟩, ⟨12, 8, 12, 28⟩⟩, "BadMove.__init__"⟩
def bad_BadText : EX.InitD := ⟨"BadText", "place", "word ", " is no pair", ⟨⟨23, 17, 23, 21⟩, ⟨23, 23, 23, 28⟩, ⟨24, 8, 24, 13⟩, ⟨24, 8, 24, 15⟩, ⟨24, 8, 24, 24⟩, ⟨24, 27, 24, 32⟩, ⟨24, 33, 24, 38⟩, ⟨24, 32, 24, 39⟩, ⟨24, 39, 24, 50⟩, ⟨24, 25, 24, 51⟩, ⟨24, 8, 24, 52⟩, ⟨25, 8, 25, 12⟩, ⟨25, 8, 25, 18⟩, ⟨25, 21, 25, 26⟩, ⟨25, 8, 25, 26⟩⟩, "BadText.__init__"⟩
def bad : List EX.InitD := [bad_BadMove, bad_BadText]
def tf : List He.Defn := [("law", none)]
def plainNames : List Str := ["BadCall", "BadHouse", "BadLead", "BadSpare", "BadWord", "NoWay"]
abbrev R : PySem.W.OpenRow := PySem.W.OpenLaw.row PySem.Challenge.rw_movesatonce_k13_written_and_read
def exB (K : PySem.W.Frag) : Bool := EX.kindB K && (bad.all (fun d => EX.badB K PySem.Challenge.pw_movesatonce_k13_written_and_read d) && plainNames.all fun x => EX.plainB K x)
abbrev hk : PySem.W.Hook := EX.hookZ 6 fa fn tf bad exB
def ob (s : PySem.W.SharedT) : EX.AlZ := EX.obsZ 6 fa fn tf bad exB (HandSHeadRun.getT s)
theorem ob_eq (s : PySem.W.SharedT) : ob s = hk.obs s.abs := EX.obsZ_eq (HandSHeadRun.getT_eq s)
def names_0 : List Str := ["MoveError", "BadLead", "BadSpare", "BadMove", "NoWay", "BadWord", "BadHouse", "BadCall", "BadText", "MOST_FIGURES", "written", "is_number", "read_lead", "_law_start", "_law_drawn", "_law_same", "_law_kind", "_law_order", "_law_lead", "_law_boxes", "_law_worths", "_law_at_once", "_law_number", "_law_read", "_law_changed"]
def loose : List Str := names_0
theorem run (w : World) : HandSHeadRun.RunEq R (PySem.W.view R.prog [28]) hk ob 4000 loose w := by
  intro os
  kernel_rfl
end K13
namespace K13
open PySem PySem.Spec PyProof.Rows L2 MV
local macro_rules | `(tactic| walk_at "len") => `(tactic| (intro vs H Q E h; first
  | (obtain ⟨_, e, _⟩ := h; subst e; rfl) | (obtain ⟨_, _, e, _⟩ := h; subst e; rfl) | (obtain ⟨_, _, _, e, _⟩ := h; subst e; rfl) | (obtain ⟨_, _, _, _, e, _⟩ := h; subst e; rfl) | (obtain ⟨_, _, _, _, _, e, _⟩ := h; subst e; rfl) | (obtain ⟨_, _, _, _, _, _, e, _⟩ := h; subst e; rfl) | (obtain ⟨_, _, _, _, _, _, _, e, _⟩ := h; subst e; rfl) | (obtain ⟨_, _, _, _, _, _, _, _, e, _⟩ := h; subst e; rfl) | (obtain ⟨_, _, _, _, _, _, _, _, _, e, _⟩ := h; subst e; rfl) | (obtain ⟨_, _, _, _, _, _, _, _, _, _, e, _⟩ := h; subst e; rfl) | (obtain ⟨_, _, _, _, _, _, _, _, _, _, _, e, _⟩ := h; subst e; rfl) | (obtain ⟨_, _, _, _, _, _, _, _, _, _, _, _, e, _⟩ := h; subst e; rfl) | (obtain ⟨_, _, _, _, _, _, _, _, _, _, _, _, _, e, _⟩ := h; subst e; rfl) | (obtain ⟨_, _, _, _, _, _, _, _, _, _, _, _, _, _, e, _⟩ := h; subst e; rfl) | (obtain ⟨_, _, _, _, _, _, _, _, _, _, _, _, _, _, _, e, _⟩ := h; subst e; rfl) | (obtain ⟨_, _, _, _, _, _, _, _, _, _, _, _, _, _, _, _, e, _⟩ := h; subst e; rfl) | (obtain ⟨_, _, _, _, _, _, _, _, _, _, _, _, _, _, _, _, _, e, _⟩ := h; subst e; rfl)))
theorem facts {w : World} {K : PySem.W.Frag} {h : Heap} {mg : Str → Option Value} {f0 : Addr} (X : K.In h) (G : h.Ns mainGlobals mg) (hfa : mg ("law" : Str) = some (.ref f0)) (c : EX.SaysZ fa fn tf bad exB h K) :
    LamX.LawAtS PySem.Challenge.rw_movesatonce_k13_written_and_read w K CX0 16 63 "_law_script" mg f0 h := by
  have e := hfa.symm.trans (He.glo_ok X G (c.t.fact 13 (f := .glo "law") rfl))
  cases e
  obtain ⟨kc, bad1, pl⟩ : EX.KindC K ∧ (∀ d ∈ bad, EX.badB K PySem.Challenge.pw_movesatonce_k13_written_and_read d = true) ∧ ∀ x ∈ plainNames, EX.plainB K x = true := by
    obtain ⟨h1, h2⟩ := He.ba c.more
    obtain ⟨h3, h4⟩ := He.ba h2
    exact ⟨EX.kindB_ok h1, List.all_eq_true.mp h3, List.all_eq_true.mp h4⟩
  have badE : ∀ (i : Nat) (d : EX.InitD), bad[i]? = some d → EX.initV K d.x = d.val := fun i d hd => by
    have e2 : (bad.map fun d => EX.initV K d.x)[i]? = (bad.map EX.InitD.val)[i]? := by rw [c.init]
    rw [List.getElem?_map, List.getElem?_map, hd] at e2
    exact Option.some.inj e2
  have T : Txt PySem.Challenge.pw_movesatonce_k13_written_and_read K mg := { m_ValueError := He.free_ok X G (c.t.fact 23 (f := .free "ValueError") rfl), m_bool := He.free_ok X G (c.t.fact 24 (f := .free "bool") rfl), m_enumerate := He.free_ok X G (c.t.fact 25 (f := .free "enumerate") rfl), m_int := He.free_ok X G (c.t.fact 26 (f := .free "int") rfl), m_isinstance := He.free_ok X G (c.t.fact 27 (f := .free "isinstance") rfl), m_len := He.free_ok X G (c.t.fact 28 (f := .free "len") rfl), m_list := He.free_ok X G (c.t.fact 29 (f := .free "list") rfl), m_range := He.free_ok X G (c.t.fact 30 (f := .free "range") rfl), m_sorted := He.free_ok X G (c.t.fact 31 (f := .free "sorted") rfl), m_str := He.free_ok X G (c.t.fact 32 (f := .free "str") rfl), m_tuple := He.free_ok X G (c.t.fact 33 (f := .free "tuple") rfl), g_MOST_FIGURES := (by obtain ⟨t, e⟩ := He.int_ok X G (c.t.fact 34 (f := .int "MOST_FIGURES" 3) rfl); exact ⟨_, e, _, rfl⟩), x_BadCall := He.glo_ok X G (c.t.fact 14 (f := .glo "BadCall") rfl), q_BadCall := EX.plainB_ok (pl _ (by simp [plainNames])), x_BadHouse := He.glo_ok X G (c.t.fact 15 (f := .glo "BadHouse") rfl), q_BadHouse := EX.plainB_ok (pl _ (by simp [plainNames])), x_BadLead := He.glo_ok X G (c.t.fact 16 (f := .glo "BadLead") rfl), q_BadLead := EX.plainB_ok (pl _ (by simp [plainNames])), x_BadMove := He.glo_ok X G (c.t.fact 17 (f := .glo "BadMove") rfl), b_BadMove := EX.badB_ok (d := bad_BadMove) (bad1 _ (by simp [bad])) (badE 0 _ rfl), x_BadSpare := He.glo_ok X G (c.t.fact 18 (f := .glo "BadSpare") rfl), q_BadSpare := EX.plainB_ok (pl _ (by simp [plainNames])), x_BadText := He.glo_ok X G (c.t.fact 19 (f := .glo "BadText") rfl), b_BadText := EX.badB_ok (d := bad_BadText) (bad1 _ (by simp [bad])) (badE 1 _ rfl), x_BadWord := He.glo_ok X G (c.t.fact 20 (f := .glo "BadWord") rfl), q_BadWord := EX.plainB_ok (pl _ (by simp [plainNames])), x_MoveError := He.glo_ok X G (c.t.fact 21 (f := .glo "MoveError") rfl), x_NoWay := He.glo_ok X G (c.t.fact 22 (f := .glo "NoWay") rfl), q_NoWay := EX.plainB_ok (pl _ (by simp [plainNames])) }
  obtain ⟨fd_written, F_written, z_written⟩ := EX.fun_of (st := d_written) c.t 0 (x := "written") rfl (He.keep_ok (c.t.fact 35 (f := .keep "written") rfl))
  have b_written := F_written.binds (ps := ["lead"]) fun _ _ _ _ _ _ us hl => match us, hl with | [_], _ => rfl
  have g_written := He.glo_ok X G (c.t.fact 0 (f := .glo "written") rfl)
  obtain ⟨fd_is_number, F_is_number, z_is_number⟩ := EX.fun_of (st := d_is_number) c.t 1 (x := "is_number") rfl (He.keep_ok (c.t.fact 36 (f := .keep "is_number") rfl))
  have b_is_number := F_is_number.binds (ps := ["word"]) fun _ _ _ _ _ _ us hl => match us, hl with | [_], _ => rfl
  have g_is_number := He.glo_ok X G (c.t.fact 1 (f := .glo "is_number") rfl)
  obtain ⟨fd_read_lead, F_read_lead, z_read_lead⟩ := EX.fun_of (st := d_read_lead) c.t 2 (x := "read_lead") rfl (He.keep_ok (c.t.fact 37 (f := .keep "read_lead") rfl))
  have b_read_lead := F_read_lead.binds (ps := ["text"]) fun _ _ _ _ _ _ us hl => match us, hl with | [_], _ => rfl
  have g_read_lead := He.glo_ok X G (c.t.fact 2 (f := .glo "read_lead") rfl)
  obtain ⟨fd__law_start, F__law_start, z__law_start⟩ := EX.fun_of (st := d__law_start) c.t 3 (x := "_law_start") rfl (He.keep_ok (c.t.fact 38 (f := .keep "_law_start") rfl))
  have b__law_start := F__law_start.binds (ps := ["_law_script"]) fun _ _ _ _ _ _ us hl => match us, hl with | [_], _ => rfl
  have g__law_start := He.glo_ok X G (c.t.fact 3 (f := .glo "_law_start") rfl)
  obtain ⟨fd__law_drawn, F__law_drawn, z__law_drawn⟩ := EX.fun_of (st := d__law_drawn) c.t 4 (x := "_law_drawn") rfl (He.keep_ok (c.t.fact 39 (f := .keep "_law_drawn") rfl))
  have b__law_drawn := F__law_drawn.binds (ps := ["_law_state", "_law_many"]) fun _ _ _ _ _ _ us hl => match us, hl with | [_, _], _ => rfl
  have g__law_drawn := He.glo_ok X G (c.t.fact 4 (f := .glo "_law_drawn") rfl)
  obtain ⟨fd__law_same, F__law_same, z__law_same⟩ := EX.fun_of (st := d__law_same) c.t 5 (x := "_law_same") rfl (He.keep_ok (c.t.fact 40 (f := .keep "_law_same") rfl))
  have b__law_same := F__law_same.binds (ps := ["_law_found", "_law_due"]) fun _ _ _ _ _ _ us hl => match us, hl with | [_, _], _ => rfl
  have g__law_same := He.glo_ok X G (c.t.fact 5 (f := .glo "_law_same") rfl)
  obtain ⟨fd__law_kind, F__law_kind, z__law_kind⟩ := EX.fun_of (st := d__law_kind) c.t 6 (x := "_law_kind") rfl (He.keep_ok (c.t.fact 41 (f := .keep "_law_kind") rfl))
  have b__law_kind := F__law_kind.binds (ps := ["_law_work"]) fun _ _ _ _ _ _ us hl => match us, hl with | [_], _ => rfl
  have g__law_kind := He.glo_ok X G (c.t.fact 6 (f := .glo "_law_kind") rfl)
  obtain ⟨fd__law_order, F__law_order, z__law_order⟩ := EX.fun_of (st := d__law_order) c.t 7 (x := "_law_order") rfl (He.keep_ok (c.t.fact 42 (f := .keep "_law_order") rfl))
  have b__law_order := F__law_order.binds (ps := ["_law_state", "_law_some"]) fun _ _ _ _ _ _ us hl => match us, hl with | [_, _], _ => rfl
  have g__law_order := He.glo_ok X G (c.t.fact 7 (f := .glo "_law_order") rfl)
  obtain ⟨fd__law_lead, F__law_lead, z__law_lead⟩ := EX.fun_of (st := d__law_lead) c.t 8 (x := "_law_lead") rfl (He.keep_ok (c.t.fact 43 (f := .keep "_law_lead") rfl))
  have b__law_lead := F__law_lead.binds (ps := ["_law_state", "_law_boxes_here"]) fun _ _ _ _ _ _ us hl => match us, hl with | [_, _], _ => rfl
  have g__law_lead := He.glo_ok X G (c.t.fact 8 (f := .glo "_law_lead") rfl)
  obtain ⟨fd__law_boxes, F__law_boxes, z__law_boxes⟩ := EX.fun_of (st := d__law_boxes) c.t 9 (x := "_law_boxes") rfl (He.keep_ok (c.t.fact 44 (f := .keep "_law_boxes") rfl))
  have b__law_boxes := F__law_boxes.binds (ps := ["_law_state"]) fun _ _ _ _ _ _ us hl => match us, hl with | [_], _ => rfl
  have g__law_boxes := He.glo_ok X G (c.t.fact 9 (f := .glo "_law_boxes") rfl)
  obtain ⟨fd__law_number, F__law_number, z__law_number⟩ := EX.fun_of (st := d__law_number) c.t 10 (x := "_law_number") rfl (He.keep_ok (c.t.fact 45 (f := .keep "_law_number") rfl))
  have b__law_number := F__law_number.binds (ps := ["_law_word"]) fun _ _ _ _ _ _ us hl => match us, hl with | [_], _ => rfl
  have g__law_number := He.glo_ok X G (c.t.fact 10 (f := .glo "_law_number") rfl)
  obtain ⟨fd__law_read, F__law_read, z__law_read⟩ := EX.fun_of (st := d__law_read) c.t 11 (x := "_law_read") rfl (He.keep_ok (c.t.fact 46 (f := .keep "_law_read") rfl))
  have b__law_read := F__law_read.binds (ps := ["_law_text"]) fun _ _ _ _ _ _ us hl => match us, hl with | [_], _ => rfl
  have g__law_read := He.glo_ok X G (c.t.fact 11 (f := .glo "_law_read") rfl)
  obtain ⟨fd__law_changed, F__law_changed, z__law_changed⟩ := EX.fun_of (st := d__law_changed) c.t 12 (x := "_law_changed") rfl (He.keep_ok (c.t.fact 47 (f := .keep "_law_changed") rfl))
  have b__law_changed := F__law_changed.binds (ps := ["_law_state", "_law_text"]) fun _ _ _ _ _ _ us hl => match us, hl with | [_, _], _ => rfl
  have g__law_changed := He.glo_ok X G (c.t.fact 12 (f := .glo "_law_changed") rfl)
  obtain ⟨oc, od, osl, kV, doc, pm, an, cc, ct, lk, hcd, ec⟩ := EX.law_of (st := d_law) c.t 13 (x := "law") rfl
  refine ⟨PySem.W.fnOf "law" "law" (defArgs d_law) (defBody d_law) (defScope d_law) .none kV doc pm an (.ref cc) ct, [He.cT K ("law", none)], spLaw K (He.cT K ("law", none)).2, fun p hp => ?_, fun p hp => ?_, fun p hp => ?_, fun s u => .of_eq rfl, fun H a ns hl _ hH hS => ⟨a, ns, rfl, hS, hl, hH _ (List.mem_singleton.mpr rfl), fun _ => rfl⟩, fun base hK hB hTB => ?_⟩
  · rw [List.mem_singleton.mp hp]; exact c.empty _ (List.mem_singleton.mpr rfl)
  · rw [List.mem_singleton.mp hp]; exact c.out _ (List.mem_singleton.mpr rfl)
  · rw [List.mem_singleton.mp hp]; exact PySem.W.codeHd_of_K X (c.hd _ (List.mem_singleton.mpr rfl))
  · have TB := hTB _ (List.mem_singleton.mpr rfl)
    rw [ec] at TB
    have r1 : C8.Cal PySem.Challenge.pw_movesatonce_k13_written_and_read w K mg base 1 "is_number" (CW.spIsNumber) [] := cal_is_number T F_is_number b_is_number g_is_number  (by walk_at "len") (fun vs H Q E h => CW.pure_is_number (K := K) (w := w) vs Q E h)
    have r2 : EX.CalX PySem.Challenge.pw_movesatonce_k13_written_and_read w K mg base 2 "read_lead" (CW.spReadLead K) := cal_read_lead T F_read_lead b_read_lead g_read_lead r1 (by omega) (by walk_at "len") (fun vs H Q E h => CW.pure_read_lead (K := K) (w := w) vs Q E h)
    have r3 : C8.Cal PySem.Challenge.pw_movesatonce_k13_written_and_read w K mg base 1 "written" (CW.spWritten K) [] := cal_written T F_written b_written g_written  (by walk_at "len") (fun vs H Q E h => CW.pure_written (K := K) (w := w) vs Q E h)
    have l1 : C8.Cal PySem.Challenge.pw_movesatonce_k13_written_and_read w K mg base 1 "_law_start" (MV.spStart K) [] := cal__law_start T F__law_start b__law_start g__law_start  (by walk_at "len") (fun vs H Q E h => MV.pure_start (K := K) (w := w) vs H Q E h)
    have l2 : C8.Cal PySem.Challenge.pw_movesatonce_k13_written_and_read w K mg base 1 "_law_drawn" (MV.spDrawn K) [] := cal__law_drawn T F__law_drawn b__law_drawn g__law_drawn  (by walk_at "len") (fun vs H Q E h => MV.pure_drawn (K := K) (w := w) vs H Q E h)
    have l3 : C8.Cal PySem.Challenge.pw_movesatonce_k13_written_and_read w K mg base 2 "_law_order" (MV.spOrder K) [] := cal__law_order T F__law_order b__law_order g__law_order l2 (by omega) (by walk_at "len") (fun vs H Q E h => MV.pure_order (K := K) (w := w) vs H Q E h)
    have l4 : C8.Cal PySem.Challenge.pw_movesatonce_k13_written_and_read w K mg base 3 "_law_lead" (MV.spLead K) [] := cal__law_lead T F__law_lead b__law_lead g__law_lead l2 (by omega) l3 (by omega) (by walk_at "len") (fun vs H Q E h => MV.pure_lead (K := K) (w := w) vs H Q E h)
    have l5 : C8.Cal PySem.Challenge.pw_movesatonce_k13_written_and_read w K mg base 2 "_law_boxes" (MV.spBoxes K) [] := cal__law_boxes T F__law_boxes b__law_boxes g__law_boxes l2 (by omega) (by walk_at "len") (fun vs H Q E h => MV.pure_boxes (K := K) (w := w) vs H Q E h)
    have r4 : C8.Cal PySem.Challenge.pw_movesatonce_k13_written_and_read w K mg base 1 "_law_number" (CW.spLawNumber) [] := cal__law_number T F__law_number b__law_number g__law_number  (by walk_at "len") (fun vs H Q E h => CW.pure_law_number (K := K) (w := w) vs Q E h)
    have r5 : C8.Cal PySem.Challenge.pw_movesatonce_k13_written_and_read w K mg base 2 "_law_read" (CW.spLawRead K) [] := cal__law_read T F__law_read b__law_read g__law_read r4 (by omega) (by walk_at "len") (fun vs H Q E h => CW.pure_law_read (K := K) (w := w) vs Q E h)
    have r6 : C8.Cal PySem.Challenge.pw_movesatonce_k13_written_and_read w K mg base 2 "_law_changed" (CW.spLawChanged K) [] := cal__law_changed T F__law_changed b__law_changed g__law_changed l2 (by omega) (by walk_at "len") (fun vs H Q E h => CW.pure_law_changed (K := K) (w := w) vs Q E h)
    have sm : ∀ n, C8.Cal PySem.Challenge.pw_movesatonce_k13_written_and_read w K mg base n "_law_same" (MV.spSame K n) [] := fun n => by
      induction n with
      | zero => exact EX.cal_none F__law_same b__law_same g__law_same (fun vs H Q E h => by obtain ⟨G, d, x, y, _, _, _, _, _, z, _⟩ := h; exact absurd z (Nat.not_lt_zero _))
      | succ n ih => exact cal__law_same T F__law_same b__law_same g__law_same ih (Nat.le_refl _) (by walk_at "len") (fun vs H Q E h => MV.pure_same (K := K) (w := w) vs Q E h)
    exact fn_law T (kl := 4) (by omega) l1 (by omega) l4 (by omega) l5 (by omega) l2 (by omega) r2 (by omega) r6 (by omega) (sm 4) (by omega) r5 (by omega) r3 (by omega) kc F__law_kind b__law_kind g__law_kind
      (fun cls d H Q h σ a D hl ha hD => EX.pure_kind (w := w) kc cls d H Q h σ a D hl ha hD) TB lk hcd (by walk_at "len") (fun vs H Q E h => pure_law (K := K) (w := w) _ vs Q E h)
end K13
open PySem PySem.W PySem.Calls PyProof.Rows
set_option maxHeartbeats 0 in
theorem PySem.Challenge.cw_movesatonce_k13_written_and_read_holds : PySem.Challenge.rw_movesatonce_k13_written_and_read.Holds := by
  w_on; o_law
  refine HandSHeadRun.head_any (r := OpenLaw.row PySem.Challenge.rw_movesatonce_k13_written_and_read) (q := view (OpenLaw.row PySem.Challenge.rw_movesatonce_k13_written_and_read).prog [28]) (H := K13.hk) (ob := K13.ob) (M := 4000) (loose := K13.loose) (d := HandSHeadRun.topDef (OpenLaw.row PySem.Challenge.rw_movesatonce_k13_written_and_read).prog 28) (kwd := []) K13.ob_eq
    (by kernel_rfl) (fun s => by kernel_rfl) K13.run (by kernel_rfl) (by kernel_rfl) (by kernel_rfl) (by rfl) (by first | assumption | decide +kernel) (by decide +kernel) ⟨rfl, rfl, rfl, rfl, rfl, by decide +kernel⟩ ?hw ?hc
  case hw => w_witness2
  case hc =>
    refine LamX.walk_ofTsE (l := PySem.Challenge.rw_movesatonce_k13_written_and_read) (n := 63) (k := 16) (x := "_law_script") (CX := fun _ => L2.CX0) rfl (by decide) (by kernel_rfl) ⟨rfl, by decide, by decide⟩ ?F (fun _ _ _ _ _ z => z)
    intro w mg f0 h Y G hmg0
    obtain ⟨K, KX, c⟩ := Y
    have hmg : mg ("law" : PySem.Str) = some (.ref f0) := by
      have e : (HandSHeadRun.topDef (OpenLaw.row PySem.Challenge.rw_movesatonce_k13_written_and_read).prog 28).name = ("law" : PySem.Str) := by kernel_rfl
      rw [← e]
      exact hmg0
    exact ⟨K, KX, K13.facts KX G hmg c⟩
