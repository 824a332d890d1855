import PyProof.Rows.All
import Wide.All
import OpenK.AllK
import Wide.FinOn
import HandS.ForMost
import HandS.Wide
import HandS.IsInst
import HandS.TupMul
import HandS.TupAny
import HandS.SortInts
import HandS.SortRule
import HandS.Strs
import HandS.Style
import HandS.Evl
import HandS.Iter
import HandS.Walk
import HandS.More
import HandS.Dict
import HandS.DictTup
import HandS.Keys
import HandS.Lambda
import HandS.Conv
import HandS.SortKw
import HandS.EndTab
import KE.SortKeyHeap
import KE.SortData
import KE.KNest
import HandS.Deep
import HandS.Exc
import HandS.ExcOwn
import HandS.ExcInit
import HandS.TryOnly
import HandS.WordsExc
import HandS.Zip
import HandS.WideBits
import PyProof.ReprReads
import KE.DatumIndex
import PyProof.ReprBulk
import PyProof.FitsInt
import PyProof.ReprRoads
import HandS.SetKeys
import HandS.GenBody
import HandS.GenYield
import HandS.GenCall
import HandS.GenList
import HandS.OwnEq
import PyProof.InstNe
import HandS.ExcField
import HandS.ExcIs
import HandS.ExcCtx
import HandS.HotCalls
import KE.KExcIs
import HandS.IterNext
import HandS.DeepEq
import KE.OsRunLaw
import HandS.TryMany
import PySem.Challenge.RW_loopstore_k00_errors_of_the_package
set_option Elab.async false
set_option linter.all false
set_option maxRecDepth 100000
set_option maxHeartbeats 4000000
/-! ## rules that the layer lacks -/
namespace RR
open PySem PySem.Spec PyProof.Rows L2 HT
section
variable {prog : Program} {w : World} {A : Around} {E : Value → Shared → Prop} {s : Shared}
/-- a tuple's items gathered -/
theorem collect_tuple {l : Addr} {vs : List Value} {Q : List Value → Shared → Prop} (hl : IsTup s.heap l vs.toArray)
    (h : Q vs { s with heap := (s.heap.push (seqObj "list" #[] 0)).update s.heap.objs.size (Obj.mapSeq (· ++ vs.toArray)) }) (hsz : vs.length ≤ sizeLine) :
    wpAny (model prog w) A (collect (.ref l)) Q E s := by
  obtain ⟨o, ho, hc, n, hd⟩ := id hl
  unfold collect
  refine wpAny_bind (wpAny_runValue (codeAny_builtin entry_proto_collect' ?_))
  show wpAny _ _ (do again (.builtin "list.__iadd__" ⟨[← newList [], .ref l], []⟩)) _ _ s
  refine wpAny_bind (wpAny_newList (wpAny_pure ⟨Code.quiet_builtin _ (by decide +kernel), codeAny_builtin entry_list_iadd' ?_⟩))
  show wpAny _ _ (Builtin.List.listExtendWith (.ref s.heap.objs.size) (.ref l) (.ref s.heap.objs.size)) _ _ { s with heap := s.heap.push (seqObj "list" #[] 0) }
  unfold Builtin.List.listExtendWith
  have ho' : (s.heap.push (seqObj "list" #[] 0)).get? l = some o := Heap.get?_push_of_some _ ho
  refine wpAny_bind (wpAny_typeOf (T := "tuple") ⟨o, ho', hc⟩ ?_)
  have ht : (Value.type "tuple" == Value.type "tuple") = true := by rfl
  rw [if_pos (by rw [ht]; simp)]
  refine wpAny_bind (listItems_at ho' hd ?_)
  refine wpAny_bind (listItems_at (xs := #[]) (n := 0) (Heap.get?_push_size _ rfl) rfl ?_)
  rw [if_neg (by simp)]
  refine wpAny_bind (listUpdate_at (xs := #[]) (n := 0) (Heap.get?_push_size _ rfl) rfl ?_ (Nat.zero_le _) (by show (#[] ++ vs.toArray).size ≤ sizeLine + 1; simp only [Array.size_append, List.size_toArray, List.length_nil]; omega))
  refine wpAny_pure ?_
  show wpAny (model prog w) A (do
      let o ← load s.heap.objs.size
      match o.data with
      | .seq xs _ => pure xs.toList
      | _ => unsupported "internal:collect") Q E { s with heap := (s.heap.push (seqObj "list" #[] 0)).update s.heap.objs.size (Obj.mapSeq (· ++ vs.toArray)) }
  refine wpAny_bind (wpAny_load (get?_update_seq (Heap.get?_push_size _ rfl) _) ?_)
  show wpAny _ _ (pure ((#[] : Array Value) ++ vs.toArray).toList) Q E _
  rw [show ((#[] : Array Value) ++ vs.toArray).toList = vs by simp]
  exact wpAny_pure h
theorem sorted_ordT {l : Addr} {vs : List Value} {ltv : Value → Value → Bool} {Q : Value → Shared → Prop} (O : SrtO.Swo ltv) (hl : IsTup s.heap l vs.toArray) (hz : vs.length ≤ sizeLine)
    (hS : 2 ≤ vs.length → ∀ (h₁ : Heap) (a : Addr), h₁.get? a = some (seqObj "list" vs.toArray 0) → (∀ b o, s.heap.get? b = some o → b ≠ a ∧ h₁.get? b = some o) → SrtO.SortableO prog w A.in1.in1 { s with heap := h₁ } a vs ltv)
    (h : ∀ out : List Value, SrtO.Srtd ltv out → SrtO.Stb ltv out vs → Q (.ref (s.heap.objs.size + 1)) { s with heap := sortedAll s.heap vs out.toArray }) :
    wpAny (model prog w) A (call (.builtin "sorted") [.ref l]) Q E s := by
  refine Calls.call_function_entry kind_sorted plain_sorted entry_sorted (args_sorted1 _) ?_
  unfold Builtin.«sorted»
  refine wpAny_bind (m := checkCount "sorted" 1 1 _) (wpAny_pure ?_)
  refine wpAny_bind (collect_tuple hl ?_ hz)
  refine wpAny_bind (wpAny_newList ?_ hz)
  have hsz : ((s.heap.push (seqObj "list" #[] 0)).update s.heap.objs.size (Obj.mapSeq (· ++ vs.toArray))).objs.size = s.heap.objs.size + 1 := by
    rw [Heap.size_update, size_push']
  have hoL : (((s.heap.push (seqObj "list" #[] 0)).update s.heap.objs.size (Obj.mapSeq (· ++ vs.toArray))).push (seqObj "list" vs.toArray 0)).get? (s.heap.objs.size + 1) = some (seqObj "list" vs.toArray 0) := by
    rw [← hsz]; exact Heap.get?_push_size _ rfl
  have keep : ∀ b o, s.heap.get? b = some o → b ≠ s.heap.objs.size + 1 ∧ (((s.heap.push (seqObj "list" #[] 0)).update s.heap.objs.size (Obj.mapSeq (· ++ vs.toArray))).push (seqObj "list" vs.toArray 0)).get? b = some o := fun b o q => by
    have hlt : b < s.heap.objs.size := Heap.lt_size q
    refine ⟨Nat.ne_of_lt (Nat.lt_succ_of_lt hlt), Heap.get?_push_of_some _ ?_⟩
    rw [Heap.get?_update_ne _ _ _ _ (Nat.ne_of_lt hlt)]
    exact Heap.get?_push_of_some _ q
  show wpAny _ _ _ _ _ { s with heap := ((s.heap.push (seqObj "list" #[] 0)).update s.heap.objs.size (Obj.mapSeq (· ++ vs.toArray))).push (seqObj "list" vs.toArray 0) }
  rw [hsz]
  refine wpAny_bind (wpAny_holding (wpAny_call_entry slot_list_sort ⟨_, hoL, rfl⟩ entry_list_sort (SrtO.list_sort_ord O hoL hz (fun h2 => hS h2 _ _ hoL keep) fun out hs hb => ⟨_, rfl, ?_⟩) (args_list_sort _)))
  exact wpAny_pure ⟨_, rfl, h out hs hb⟩
end
def rSortedU (K : PySem.W.Frag) : List V → Hp → VK → Prop := fun vs H Q => ∃ (a : Addr) (ns : List Int), vs = [V.ref a] ∧ SqT K H a (ns.map V.int) ∧
  ∀ (ns' : List Int) (p : Addr), ns'.Perm ns → ns'.Pairwise (· ≤ ·) → H p = none → Q (.ref p) (upd H p (.lst (ns'.map V.int)))
section
variable {X : Cx}
/-- sorted(t), t a tuple of ints -/
theorem cr_sortedU : CallR X (.builtin "sorted") (rSortedU X.K) := by
  intro pins s σ H vs us Q I r h
  obtain ⟨a, ns, rfl, hs, q⟩ := h
  obtain ⟨its, rv, hl, hz⟩ := I.tuple hs
  rw [Vals.ref1 r]
  have hi := rv.ints
  refine sorted_ordT SrtO.swo_int hl (by rw [← rv.length]; exact hz) (fun h2 h₁ a' _ _ => SrtO.ints_sortable hi h2) fun out h1 h2 => ?_
  obtain ⟨k1, k2, k3⟩ := SrtO.ints_out hi h1 h2
  obtain ⟨ep, he'⟩ := PyProof.Rows.sortedAll_at s.heap its out.toArray
  have hlen : ((out.map SrtO.iv).map V.int).length ≤ sizeLine := by
    rw [List.length_map, k2.length_eq]
    rw [List.length_map] at hz
    exact hz
  exact ⟨.ref _, upd H (s.heap.objs.size + 1) (.lst ((out.map SrtO.iv).map V.int)), I.laid (t' := s.toks) (fun _ _ => PyProof.Rows.sortedAll_old) (Nat.le_succ _) ⟨hlen, out, ep, vals_of_ints k1, he'⟩, rfl, q _ _ k2 k3 (I.hok.fresh (Nat.le_succ _))⟩
end
/-! ### t[::-1] -/
theorem adj_rev (n : Nat) : Builtin.Slice.sliceAdjust none none (-1) (n : Int) = ((n : Int) - 1, -1) := rfl
theorem pl_rev (n : Nat) : Builtin.Slice.slicePlaces ((n : Int) - 1) (-1) (-1) = n := by
  unfold Builtin.Slice.slicePlaces
  have h1 : ¬ ((-1 : Int) > 0) := by omega
  simp only [h1, if_false]
  split <;> simp <;> omega
theorem pick_rev (xs : List Value) : ((List.range xs.length).filterMap fun (m : Nat) => xs.toArray[(((xs.length : Int) - 1) + (m : Int) * (-1)).toNat]?) = xs.reverse := by
  have key : ∀ m, m ≤ xs.length → ((List.range m).filterMap fun (k : Nat) => xs.toArray[(((xs.length : Int) - 1) + (k : Int) * (-1)).toNat]?) = xs.reverse.take m := by
    intro m
    induction m with
    | zero => intro _; rfl
    | succ m ih =>
      intro hm
      rw [List.range_succ, List.filterMap_append, ih (by omega), List.take_add_one]
      have e : (((xs.length : Int) - 1) + (m : Int) * (-1)).toNat = xs.length - 1 - m := by omega
      have hl : m < xs.reverse.length := by rw [List.length_reverse]; omega
      have e2 : xs.toArray[xs.length - 1 - m]? = some (xs.reverse[m]) := by
        rw [List.getElem?_toArray, List.getElem_reverse, List.getElem?_eq_getElem]
      rw [List.getElem?_eq_getElem hl]
      simp only [List.filterMap_cons, List.filterMap_nil, e, e2, Option.toList_some]
  have := key xs.length (Nat.le_refl _)
  rw [this, List.take_of_length_le (by rw [List.length_reverse]; exact Nat.le_refl _)]
section
variable {prog : Program} {w : World} {A : Around} {E : Value → Shared → Prop} {s : Shared}
theorem sliceApplied_rev {sl : Addr} {vl vu vs : Value} {n : Nat} {Q : Int × Int × Nat → Shared → Prop} (hs : s.heap.IsSliceOf sl vl vu vs) (pl : IsPart vl none) (pu : IsPart vu none) (ps : IsPart vs (some (-1)))
    (h : Q ((n : Int) - 1, -1, n) s) : wpAny (model prog w) A (Builtin.Slice.sliceApplied (.ref sl) (pure (n : Int))) Q E s := by
  obtain ⟨os, hos, hcs, hds⟩ := id hs
  unfold Builtin.Slice.sliceApplied Builtin.Slice.sliceFields
  refine wpAny_bind (wpAny_bind (wpAny_field hos hds (x := vl) rfl (wpAny_bind (wpAny_field hos hds (x := vu) rfl (wpAny_bind (wpAny_field hos hds (x := vs) rfl (wpAny_pure ?_)))))))
  refine wpAny_bind (slicePart_ ps ?_)
  show wpAny _ _ (if ((-1 : Int) == 0) = true then _ else _) _ _ s
  rw [if_neg (by decide)]
  refine wpAny_bind (slicePart_ pl (wpAny_bind (slicePart_ pu (wpAny_bind (wpAny_pure ?_)))))
  show wpAny _ _ (match Builtin.Slice.sliceAdjust none none (-1) (n : Int) with | (lo, hi) => pure (lo, (-1 : Int), Builtin.Slice.slicePlaces lo hi (-1))) _ _ s
  rw [adj_rev n]
  show wpAny _ _ (pure ((n : Int) - 1, (-1 : Int), Builtin.Slice.slicePlaces ((n : Int) - 1) (-1) (-1))) _ _ s
  rw [pl_rev]
  exact wpAny_pure h
theorem getItem_tuple_rev {t sl : Addr} {items : List Value} {vl vu vs : Value} {Q : Value → Shared → Prop} (ht : IsTup s.heap t items.toArray) (hs : s.heap.IsSliceOf sl vl vu vs) (pl : IsPart vl none) (pu : IsPart vu none) (ps : IsPart vs (some (-1)))
    (h : Q (.ref s.heap.objs.size) { s with heap := s.heap.push { cls := .type "tuple", data := .seq items.reverse.toArray } })
    (hsz : items.length ≤ sizeLine) : wpAny (model prog w) A (getItem (.ref t) (.ref sl)) Q E s := by
  have htake : sizeOk (.seq items.reverse.toArray) := by
    show items.reverse.toArray.size ≤ sizeLine
    rw [List.size_toArray, List.length_reverse]
    omega
  obtain ⟨os, hos, hcs, hds⟩ := id hs
  have hTs : s.TypeIs (.ref sl) "slice" := ⟨os, hos, hcs⟩
  unfold getItem
  try with_reducible refine wpAny_holding ?_
  first | refine wpAny_bind (wpAny_pure ?_) | skip
  refine wpAny_bind (wpAny_sequenceKey ht.typeIs (by decide) ?_)
  refine wpAny_bind (wpAny_callSpecial?_slot (name := Str.ofString "__getitem__") ht.typeIs PyProof.Rows.slot_tuple_getitem
    (wpAny_call_entry PyProof.Rows.slot_tuple_getitem ht.typeIs entry_tuple_getitem ?_ (args_tuple_getitem _ _)))
  show wpAny _ _ (Builtin.Tuple.tupleItemsOf (.ref t) >>= _) _ _ s
  refine wpAny_bind (tupleItemsOf_ ht ?_)
  refine wpAny_bind (wpAny_typeOf hTs ?_)
  rw [if_pos (by decide)]
  rw [List.size_toArray]
  refine wpAny_bind (sliceApplied_rev hs pl pu ps ?_)
  have hno : ¬ ((((items.length : Int) - 1) == 0 && (-1 : Int) == 1 && items.length == items.length) = true) := by
    rw [show ((-1 : Int) == 1) = false from rfl, Bool.and_false, Bool.false_and]
    exact Bool.false_ne_true
  show wpAny _ _ (if (((items.length : Int) - 1) == 0 && (-1 : Int) == 1 && items.length == items.length) = true then _ else _) _ _ s
  rw [if_neg hno, pick_rev]
  first
    | exact wpAny_bind (m := Builtin.Tuple.tupleExact _) (wpAny_newObj_type (wpAny_pure ⟨_, rfl, wpAny_pure h⟩) htake)
    | exact wpAny_bind (m := Builtin.Tuple.tupleExact _) (wpAny_newObj_type (wpAny_bind (wpAny_pure (wpAny_pure ⟨_, rfl, wpAny_pure h⟩))) htake)
    | exact wpAny_bind (wpAny_bind (m := Builtin.Tuple.tupleExact _) (wpAny_newObj_type (wpAny_pure (wpAny_pure ⟨_, rfl, wpAny_pure h⟩)) htake))
    | exact wpAny_bind (wpAny_bind (m := Builtin.Tuple.tupleExact _) (wpAny_newObj_type (wpAny_pure ⟨_, rfl, wpAny_pure h⟩) htake))
end
def tRevT (K : PySem.W.Frag) (te : TE) : TE := fun σ H Q => te σ H fun x H1 => ∃ a xs, x = .ref a ∧ SqT K H1 a xs ∧ ∀ p, H1 p = none → Q (.ref p) (upd H1 p (.tup xs.reverse))
section
variable {X : Cx}
theorem pe_revT {e : Expr} {te : TE} {k : Nat} {p1 p2 p3 pos : Pos} (he : PE X e te) : PE X (.Subscript e (.Slice none none (some (.UnaryOp .USub (.Constant (.int 1) k p1) p2)) p3) pos) (tRevT X.K te) := by
  refine ⟨fun pins s σ H Q I h => ?_⟩
  refine Subscript_ (thn (he.run pins s σ H _ I h) fun v s1 ⟨x, H1, I1, r1, q1⟩ => ?_)
  obtain ⟨a, xs, ex, hx, q⟩ := q1
  subst ex
  cases r1
  have hst : PO X (some (.UnaryOp .USub (.Constant (.int 1) k p1) p2)) (tPart (tUn (rU fun i => .int (-i)) (tC (.int 1)))) := po_some (pe_un un_neg pe_int)
  refine wpAny_Slice (thn (po_none.run pins s1 σ H1 (fun o H2 => o = none ∧ H2 = H1) I1 ⟨rfl, rfl⟩) fun vl s2 ⟨l, H2, I2, pl, el, e2⟩ => ?_)
  subst el e2
  refine thn (po_none.run pins s2 σ H2 (fun o H3 => o = none ∧ H3 = H2) I2 ⟨rfl, rfl⟩) fun vu s3 ⟨u, H3, I3, pu, eu, e3⟩ => ?_
  subst eu e3
  refine thn (hst.run pins s3 σ H3 (fun o H4 => o = some (-1) ∧ H4 = H3) I3 ⟨1, rfl, -1, rfl, rfl, rfl⟩) fun vs s4 ⟨o, H4, I4, ps, eo, e4⟩ => ?_
  subst eo e4
  have I5 : Inv X pins σ H4 { s4 with heap := s4.heap.push { cls := .type "slice", data := .fields #[vl, vu, vs] } } := I4.kept (t' := s4.toks) fun b ob q => Heap.get?_push_of_some _ q
  obtain ⟨its, r, ht, hz⟩ := I5.tuple hx
  have hlen := r.length
  show wpAny (model X.prog X.w) X.A (subscriptTail e (.Slice none none (some (.UnaryOp .USub (.Constant (.int 1) k p1) p2)) p3) (.ref a) (.ref s4.heap.objs.size)) (EP X pins σ Q) X.xe { s4 with heap := s4.heap.push { cls := .type "slice", data := .fields #[vl, vu, vs] } }
  refine tail_any (ops := [.ref a, .ref s4.heap.objs.size]) ht.typeIs (PyProof.Rows.slot_tuple_getitem.lookup) ?_ (by with_unfolding_all rfl)
  refine getItem_tuple_rev ht (Heap.IsSliceOf.new _ vl vu vs) pl pu ps ?_ (by rw [← hlen]; exact hz)
  refine ⟨.ref _, _, I5.laid (t' := s4.toks) (o := .tup xs.reverse) (fun b ob q => Heap.get?_push_of_some _ q) (Nat.le_refl _) ?_, rfl, q _ (I5.hok.fresh (Nat.le_refl _))⟩
  exact ⟨by rw [List.length_reverse]; exact hz, _, r.reverse, IsTup.new _ _⟩
end
/-! ### t * k, k from 1 on -/
theorem tuple_mulW1 (l : Addr) (items : Array Value) (n : Nat) (dd : Option Addr) (sl : Array (Option Value)) (u : Tok) :
    Meets (Builtin.«tuple.__mul__» ⟨[.ref l, .int 1 u], []⟩) (fun _ R s => s.heap.get? l = some { cls := .type "tuple", dict := dd, data := .seq items n, slots := sl } ∧ R (.ok (.ret (Value.ref l))) s) :=
  .of_wp fun prog w A R s h => by
    obtain ⟨hp, g, d, tk, os⟩ := s
    obtain ⟨hl, h⟩ := h
    have f1 := AutoSeq1.idx_int
    have c0 : (decide ((1 : Int) < -(2 ^ 63)) || decide ((1 : Int) ≥ 2 ^ 63)) = false := by decide
    have c1 : (items.isEmpty || (1 : Int) == 1) = true := by rw [show ((1 : Int) == 1) = true from rfl, Bool.or_true]
    wp_walk using wpAny_loadPart' hl
    repeat (first
      | (refine wpAny_ite_false (decide_eq_false (by rw [c0]; exact Bool.false_ne_true)) ?_; wp_walk using wpAny_loadPart' hl)
      | (refine wpAny_ite_true (decide_eq_true c1) ?_; wp_walk using wpAny_loadPart' hl))
    exact ⟨_, rfl, h⟩
def rRepA (K : PySem.W.Frag) : R2 := fun x y H Q => ∃ l k xs, x = .ref l ∧ y = .int k ∧ SqT K H l xs ∧ xs ≠ [] ∧ 1 ≤ k ∧ k ≤ 1000 ∧ xs.length ≤ 1000 ∧ (k = 1 → Q (.ref l) H) ∧ (k ≠ 1 → ∀ p, H p = none → Q (.ref p) (upd H p (.tup (List.replicate k.toNat xs).flatten)))
section
variable {X : Cx}
theorem op_repA : OpR X (binaryOp .Mult) (rRepA X.K) := by
  intro pins s σ H x y v u Q I rx ry h
  obtain ⟨l, k, xs, rfl, rfl, hT, hne, h1, h2, hz, q1, q2⟩ := h
  by_cases hk : k = 1
  · subst hk
    cases rx
    obtain ⟨t, rfl⟩ := ry
    obtain ⟨its, r, ⟨⟨cls, dd, data, sl⟩, ho, hc, n, hd⟩, hs⟩ := I.tuple hT
    simp only at hc hd
    subst hc hd
    refine wpAny_binaryOp_repeat_ref (T := "tuple") (U := "int") (by decide) ⟨_, ho, rfl⟩ (fun s' => typeIs_int s' 1 t) noFill_tuple_mul F.fills_int_mul F.slot_int_rmul repeat_tuple F.slot_int_index.lookup
      (call_meets F.slot_int_rmul (typeIs_int s 1 t) F.entry_int_rmul (F.args_int_rmul_2 _ _) (int_rmul_tuple 1 t l its.toArray n dd sl)
        ⟨ho, rfl, ⟨_, ho, rfl⟩, call_meets F.slot_tuple_mul ⟨_, ho, rfl⟩ F.entry_tuple_mul (F.args_tuple_mul_2 _ _) (tuple_mulW1 l its.toArray n dd sl t) ⟨ho, ?_⟩⟩)
    exact ⟨.ref l, H, I, rfl, q1 rfl⟩
  · exact op_repT pins s σ H _ _ v u Q I rx ry ⟨l, k, xs, rfl, rfl, hT, hne, by omega, h2, hz, q2 hk⟩
end
end RR

/-! ## enumerate over a tuple; an empty tuple times k -/
namespace RR
open PySem PySem.Spec PyProof.Rows L2 HT
open Sem (wp)
open AutoSeq1 (wpAny_loadPart')
section
variable {prog : Program} {w : World} {A : Around} {E : Value → Shared → Prop} {s : Shared}
theorem next_tuple_item {it t : Addr} {i : Nat} {items} {x : Value} {Q : Value → Shared → Prop} (hit : s.heap.IsTupleIter it t i)
    (ht : s.heap.IsTuple t items) (hx : items[i]? = some x)
    (hQ : ∀ h', h'.IsTupleIter it t (i + 1) → Heap.SameBut it s.heap h' → Q x { s with heap := h' }) :
    wpAny (model prog w) A (Builtin.SmallTypes.nextOf (.ref it)) Q E s := by
  obtain ⟨o, ho, hc, hd⟩ := id hit
  obtain ⟨ol, hol, _, nl, hdl⟩ := ht
  unfold Builtin.SmallTypes.nextOf
  refine wpAny_bind (wpAny_callSpecial?_slot (name := Str.ofString "__next__") hit.typeIs F.slot_tuple_iterator_next
    (wpAny_call_entry F.slot_tuple_iterator_next hit.typeIs F.entry_tuple_iterator_next ?_ (F.args_tuple_iterator_next_1 _)))
  show wpAny _ _ (field (.ref it) 0 >>= _) _ _ s
  refine wpAny_bind (wpAny_field ho hd (x := .ref t) rfl ?_)
  show wpAny _ _ (if (Value.ref t == Value.none) = true then _ else _) _ _ s
  rw [if_neg (show ¬ ((Value.ref t == Value.none) = true) from Bool.false_ne_true)]
  show wpAny _ _ (field (.ref it) 1 >>= _) _ _ s
  refine wpAny_bind (wpAny_field ho hd (x := .int i 0) rfl ?_)
  show wpAny _ _ (seqItems? (.ref t) >>= _) _ _ s
  refine wpAny_bind (wpAny_seqItems hol hdl ?_)
  simp only [Int.toNat_natCast, hx]
  refine wpAny_bind (wpAny_setField ho hd (by simp) (wpAny_pure ⟨x, rfl, wpAny_pure (hQ _ ?_ (Heap.SameBut.update ..))⟩))
  exact ⟨_, Heap.get?_update_self _ ho (Obj.isFreed_of_fields (Obj.data_mapFields hd _)), (Obj.cls_mapFields ..).trans hc, by
    rw [Obj.data_mapFields hd]; simp [rawInt]⟩
theorem next_tuple_end {it t : Addr} {i : Nat} {items} {Q : Value → Shared → Prop} (hh : A.handled = none)
    (hit : s.heap.IsTupleIter it t i) (ht : s.heap.IsTuple t items) (hx : items[i]? = none)
    (hE : ∀ h' e, Heap.ExtBut it s.heap h' → (∃ o, h'.get? e = some o ∧ o.cls = .type "StopIteration") → E (.ref e) { s with heap := h' }) :
    wpAny (model prog w) A (Builtin.SmallTypes.nextOf (.ref it)) Q E s := by
  obtain ⟨o, ho, hc, hd⟩ := id hit
  obtain ⟨ol, hol, _, nl, hdl⟩ := ht
  unfold Builtin.SmallTypes.nextOf
  refine wpAny_bind (wpAny_callSpecial?_slot (name := Str.ofString "__next__") hit.typeIs F.slot_tuple_iterator_next
    (wpAny_call_entry F.slot_tuple_iterator_next hit.typeIs F.entry_tuple_iterator_next ?_ (F.args_tuple_iterator_next_1 _)))
  show wpAny _ _ (field (.ref it) 0 >>= _) _ _ s
  refine wpAny_bind (wpAny_field ho hd (x := .ref t) rfl ?_)
  show wpAny _ _ (if (Value.ref t == Value.none) = true then _ else _) _ _ s
  rw [if_neg (show ¬ ((Value.ref t == Value.none) = true) from Bool.false_ne_true)]
  show wpAny _ _ (field (.ref it) 1 >>= _) _ _ s
  refine wpAny_bind (wpAny_field ho hd (x := .int i 0) rfl ?_)
  show wpAny _ _ (seqItems? (.ref t) >>= _) _ _ s
  refine wpAny_bind (wpAny_seqItems hol hdl ?_)
  simp only [Int.toNat_natCast, hx]
  refine wpAny_bind (wpAny_rule (wpAny_bind (wpAny_setField ho hd (by simp) ?_)))
  show wpAny _ _ (newExc (.type "StopIteration") [] >>= _) _ _ _
  refine wpAny_bind ?_
  simp only [newExc, newTuple]
  refine wpAny_bind (wpAny_newObj_type ?_ (by size_fits))
  refine wpAny_bind (m := firstArgMember _ _) (wpAny_of_eq (a := Value.none) (by first | rfl | (simp only [firstArgMember]; rfl)) ?_)
  refine wpAny_newObj_type ?_ (by size_fits)
  simp only [raiseNew]
  refine wpAny_bind (wpAny_handled ?_)
  first | rw [show A.in1.handled = none from hh] | rw [hh]
  refine wpAny_bind (wpAny_pure (wpAny_throw ?_))
  exact hE _ _ (((Heap.SameBut.update ..).extBut.push _).push _) ⟨_, Heap.get?_push_size _ rfl, rfl⟩
end
theorem tup_at {h h' : Heap} {a : Addr} {items} (x : h.IsTuple a items) (e : ∀ o, h.get? a = some o → h'.get? a = some o) : h'.IsTuple a items := let ⟨o, ho, r⟩ := x; ⟨o, e _ ho, r⟩
theorem draws_tuple {prog : Program} {w : World} {A : Around} (hh : A.handled = none) (it l : Addr) (hne : l ≠ it) (items : Array Value) :
    Draws prog w A it [it, l] items.size (fun i v => items[i]? = some v) (fun i h => h.IsTupleIter it l i ∧ h.IsTuple l items) where
  live := fun _ _ st => let ⟨o, ho, _⟩ := st.1; ⟨o, ho⟩
  frame := fun _ _ _ st hk => ⟨st.1.at fun o e => hk it (by simp) o e, tup_at st.2 fun o e => hk l (by simp) o e⟩
  item := fun i s Q E hi st hQ => by
    refine next_tuple_item st.1 st.2 (x := items[i]) (by simp [hi]) fun h' hit' hs' => ?_
    exact hQ _ h' s.toks (by simp [hi]) ⟨hit', st.2.extBut hs'.extBut hne⟩ hs'
  done := fun s Q E st hE => next_tuple_end hh st.1 st.2 (by simp) hE
theorem enumerate_newT (l : Addr) (items : Array Value) (n : Nat) (dct : Option Addr) (sl : Array (Option Value)) :
    Meets (Builtin.«enumerate.__new__» ⟨[.type "enumerate", .ref l], []⟩) (fun _ R s => s.heap.get? l = some { cls := .type "tuple", dict := dct, data := .seq items n, slots := sl } ∧
      R (.ok (.ret (.ref (s.heap.push { cls := .type "tuple_iterator", data := .fields #[.ref l, .int 0 0] }).objs.size)))
        { s with heap := (s.heap.push { cls := .type "tuple_iterator", data := .fields #[.ref l, .int 0 0] }).push { cls := .type "enumerate", data := .fields #[.none, .bool false, .ref s.heap.objs.size, rawInt 0, .none, .none] } }) :=
  .of_wp fun prog w A R s h => by
    obtain ⟨hp, g, d, tk, os⟩ := s; obtain ⟨hl, h⟩ := h
    have hsub := sub_enumerate
    have hL : Heap.IsTuple (Shared.heap ⟨hp, g, d, tk, os⟩) l items := ⟨_, hl, rfl, n, rfl⟩
    wp_walk using wpAny_loadPart' hl
    refine wpAny_stack_any fun st => wpAny_pure ?_
    split
    · rename_i c _ _ _ _ _
      cases (c == Value.type "enumerate")
      · wp_walk using wpAny_loadPart' hl, wpAny_pyIter_tuple hL
        exact ⟨_, rfl, h⟩
      · wp_walk using wpAny_loadPart' hl, wpAny_pyIter_tuple hL
        exact ⟨_, rfl, h⟩
    · wp_walk using wpAny_loadPart' hl, wpAny_pyIter_tuple hL
      exact ⟨_, rfl, h⟩
section
variable {prog : Program} {w : World} {A : Around} {E : Value → Shared → Prop} {s : Shared}
theorem call_enumerate_tuple {l : Addr} {items : Array Value} {Q : Value → Shared → Prop} (hL : s.heap.IsTuple l items)
    (h : ∀ h', IsEnum h' (s.heap.objs.size + 1) s.heap.objs.size 0 .none → h'.IsTupleIter s.heap.objs.size l 0 → h'.objs.size = s.heap.objs.size + 2 →
      (∀ b o, s.heap.get? b = some o → h'.get? b = some o) → Q (.ref (s.heap.objs.size + 1)) { s with heap := h' }) :
    wpAny (model prog w) A (call (.type "enumerate") [.ref l]) Q E s := by
  obtain ⟨⟨c, dct, dt, sl⟩, hl, hc, n, hd⟩ := hL
  replace hc : c = .type "tuple" := hc
  replace hd : dt = .seq items n := hd
  subst hc hd
  refine callType_new F.called_enumerate (by decide) (F.typeCall_enumerate_1 _) (F.newCall_enumerate_1 _) (fun obj => F.args_object_init_2 obj _) F.entry_enumerate_new
    (enumerate_newT l items n dct sl) ⟨hl, ?_⟩
  have hz : (s.heap.push { cls := .type "tuple_iterator", data := .fields #[.ref l, .int 0 0] }).objs.size = s.heap.objs.size + 1 := Heap.size_push ..
  show _ ∧ _
  rw [hz]
  have he : IsEnum ((s.heap.push { cls := .type "tuple_iterator", data := .fields #[.ref l, .int 0 0] }).push
      { cls := .type "enumerate", data := .fields #[.none, .bool false, .ref s.heap.objs.size, rawInt 0, .none, .none] }) (s.heap.objs.size + 1) s.heap.objs.size 0 .none := by
    have := Heap.get?_push_size (s.heap.push { cls := .type "tuple_iterator", data := .fields #[.ref l, .int 0 0] })
      (o := { cls := .type "enumerate", data := .fields #[.none, .bool false, .ref s.heap.objs.size, rawInt 0, .none, .none] }) rfl
    rw [hz] at this; exact this
  refine ⟨⟨_, he, rfl⟩, h _ he ⟨_, Heap.get?_push_of_some _ (Heap.get?_push_size _ rfl), rfl, rfl⟩ (by rw [Heap.size_push, hz]) fun b o x => Heap.get?_push_of_some _ (Heap.get?_push_of_some _ x)⟩
end
/-- the tuple at a, each item in a new pair -/
def IteT (K : PySem.W.Frag) (a : Addr) : It :=
  ⟨fun i H => ∃ (xs : List V) (x : V), SqT K H a xs ∧ xs[i]? = some x, fun i H v H' => ∃ T x, v = .ref T ∧ H T = none ∧ H' = upd H T (.tup [.int (i : Nat), x]) ∧ ∀ xs, SqT K H a xs → xs[i]? = some x, fun i H => ∃ xs : List V, SqT K H a xs ∧ xs.length ≤ i⟩
theorem turn_enumT {P : Program} {w : World} {K : PySem.W.Frag} {elts : List Expr} {kk : Nat} {tpos : Pos} (a e it : Addr) :
    Turn P w K (.Tuple elts kk tpos) (IteT K a) [e, it] e (fun i h => (∃ old, IsEnum h e it ((i : Nat) : Int) old) ∧ h.IsTupleIter it a i ∧ e ≠ it ∧ a ≠ it ∧ a ≠ e) where
  mem := by simp
  obj := fun i h st b hb => by
    obtain ⟨⟨old, he⟩, ⟨o, ho, hc, hd⟩, _⟩ := st
    have e' : b = e ∨ b = it := by simpa using hb
    rcases e' with z | z
    · rw [z]; exact ⟨_, he, fun v q => nomatch q⟩
    · rw [z]; exact ⟨o, ho, fun v q => by rw [hd] at q; cases q⟩
  keep := fun i h h' st k => let ⟨⟨old, he⟩, hi, hne⟩ := st; ⟨⟨old, k e (by simp) _ he⟩, hi.at fun o q => k it (by simp) o q, hne⟩
  item := by
    intro X hP hw hK hc i pins s σ H E I hf st hg
    subst hP hw hK
    obtain ⟨⟨old, he⟩, hit, hne, hai, hae⟩ := st
    obtain ⟨xs, x, hq, hx⟩ := hg
    obtain ⟨its, rv, p, hz⟩ := I.tuple hq
    obtain ⟨u, hu, ru⟩ := rv.get hx
    have hel : e < s.heap.objs.size := Heap.lt_size he
    have hil : it < s.heap.objs.size := by obtain ⟨_, q, _⟩ := hit; exact Heap.lt_size q
    have hlt : i < its.toArray.size := by
      have := (List.getElem?_eq_some_iff.mp hu).1
      simpa using this
    refine wpAny_pyNext_enum_itemD (draws_tuple (prog := X.prog) (w := X.w) (A := X.A.in1) (show X.A.in1.handled = none from I.ok.hd hc) it a hai its.toArray) he ⟨hit, (show s.heap.IsTuple a its.toArray from p)⟩ hlt hne (by simp [hne, Ne.symm hae]) fun y h' tk hy ho hst' hT hsz hk => ?_
    have hyu : y = u := by
      have h2 : its.toArray[i]? = some u := by simpa using hu
      exact Option.some.inj (hy.symm.trans h2)
    subst hyu
    refine ⟨_, rfl, wpAny_letOwnedTupleGo_enum (s := { s with heap := h', toks := tk + 1 }) ho fun h'' he' sb => ?_⟩
    have hT2 : h''.get? s.heap.objs.size = some { cls := .type "tuple", data := .seq #[.int i tk, y] } := (sb.2 _ (Nat.ne_of_gt hel)).trans hT
    have new : ObjOk X.prog X.w (upd H s.heap.objs.size (.tup [.int (i : Nat), x])) h'' s.heap.objs.size (.tup [.int (i : Nat), x]) :=
      ⟨by show 2 ≤ sizeLine; decide, [.int i tk, y], .cons ⟨_, rfl⟩ (.cons ru .nil), ⟨_, hT2, rfl, _, rfl⟩⟩
    have I1 : Inv X pins σ (upd H s.heap.objs.size (.tup [.int (i : Nat), x])) { s with heap := h'', toks := tk + 1 } :=
      I.turnedNew (ch := [e, it]) (fun b ob hb q => (sb.2 b (fun z => hb (by simp [z]))).trans (hk b ob (fun z => hb (by simp [z])) (fun z => hb (by simp [z])) q)) hf (Nat.le_refl _) new
    refine ⟨.ref s.heap.objs.size, _, I1, rfl, ⟨_, x, rfl, I.hok.fresh (Nat.le_refl _), rfl, fun ys hy => by rw [I.tuple_inj hy hq]; exact hx⟩, ⟨⟨y, ?_⟩, hst'.1.at fun o q => (sb.2 it (Ne.symm hne)).trans q, hne, hai, hae⟩, fun b hb => ?_⟩
    · have e1 : ((i + 1 : Nat) : Int) = (i : Int) + 1 := by omega
      rw [e1]; exact he'
    · have hb' : b < s.heap.objs.size := by
        have e' : b = e ∨ b = it := by simpa using hb
        rcases e' with z | z
        · rw [z]; exact hel
        · rw [z]; exact hil
      rw [upd_ne (Nat.ne_of_lt hb')]
      exact (hf b hb).1
  done := by
    intro X hP hw hK hc i pins s σ H E I hf st hg
    subst hP hw hK
    obtain ⟨⟨old, he⟩, hit, hne, hai, hae⟩ := st
    obtain ⟨xs, hq, hx⟩ := hg
    obtain ⟨its, rv, p, hz⟩ := I.tuple hq
    obtain ⟨f0, f1, f2, f3, f4, f5⟩ := hf it (by simp)
    have hl := rv.length
    have hT : s.TypeIs (.ref e) "enumerate" := ⟨_, he, rfl⟩
    unfold pyNext
    refine wpAny_bind (wpAny_attempt (wpAny_callSpecial?_slot (name := Str.ofString "__next__") hT F.slot_enumerate_next
      (wpAny_call_entry F.slot_enumerate_next hT F.entry_enumerate_next ?_ (F.args_enumerate_next_1 _))))
    show wpAny _ _ (field (.ref e) 2 >>= _) _ _ _
    refine wpAny_bind (wpAny_field he rfl (x := .ref it) rfl ?_)
    refine wpAny_bind (next_tuple_end (I.ok.hd hc) hit (show s.heap.IsTuple a its.toArray from p) (by simp; omega) fun h' x eb hx' => ?_)
    obtain ⟨o, ho, hc'⟩ := hx'
    refine wpAny_bind (wpAny_isInstance (T := "StopIteration") (b := true) ⟨o, ho, hc'⟩ isSubtype_stop ?_)
    exact wpAny_pure ⟨rfl, I.turned (t' := s.toks) (fun b o hb q => eb b o hb q) f0 f1 f3 f4 f5⟩
  self := fun A i s Q E st h => let ⟨⟨_, he⟩, _⟩ := st; wpAny_pyIter_enum he h
def iEnumT (K : PySem.W.Frag) (ta : TA) : TI := fun σ H R => ta σ H fun vs H1 => ∃ a xs, vs = [.ref a] ∧ SqT K H1 a xs ∧ R (IteT K a) H1
theorem pi_enumT {X : Cx} {e : Expr} {ta : TA} {p pos tpos : Pos} {elts : List Expr} {kk : Nat} (hg : Gl X "enumerate") (hm : X.mg "enumerate" = none) (ha : PA X [e] ta) (hs : starEach [e] X.env = [(false, eval e X.env)] := by rfl) :
    PI X (.Tuple elts kk tpos) (.Call (.Name "enumerate" p) [e] [] pos) (iEnumT X.K ta) := by
  refine ⟨fun pins s σ H R I h => ?_⟩
  refine Call_ (ld_blt I hg hm boot_enumerate (PyProof.Rows.callWith_type1 (thn (ha.run pos pins s σ H _ I h) fun us s1 ⟨vs, H1, I1, r1, q1⟩ => ?_) hs rfl))
  obtain ⟨a, xs, ex, hq, q⟩ := q1
  subst ex
  cases r1 with
  | cons r rr =>
    cases rr
    cases r
    obtain ⟨its, rv, p', hz⟩ := I1.tuple hq
    have hp : s1.heap.IsTuple a its.toArray := p'
    have hal : a < s1.heap.objs.size := by obtain ⟨_, q, _⟩ := hp; exact Heap.lt_size q
    refine call_enumerate_tuple hp fun h' he hit hsz hk => wpAny_pyIter_enum he ?_
    have I2 : Inv X pins σ H1 { s1 with heap := h' } := I1.kept (t' := s1.toks) hk
    refine ⟨s1.heap.objs.size + 1, [s1.heap.objs.size + 1, s1.heap.objs.size], _, _, H1, rfl, I2, turn_enumT a (s1.heap.objs.size + 1) s1.heap.objs.size, ⟨⟨.none, he⟩, hit, Nat.succ_ne_self _, Nat.ne_of_lt hal, Nat.ne_of_lt (Nat.lt_succ_of_lt hal)⟩, fun b hb => ?_, q⟩
    have e' : b = s1.heap.objs.size + 1 ∨ b = s1.heap.objs.size := by simpa using hb
    have hle : s1.heap.objs.size ≤ b := by
      rcases e' with z | z
      · rw [z]; exact Nat.le_add_right _ _
      · rw [z]; exact Nat.le_refl _
    exact I1.fpOk hle (I1.hok.fresh hle)
theorem for_enumT {K : PySem.W.Frag} {a : Addr} {xs : List V} {g : TG} {tb : TS} {D : Ends} {σ : L2.St} {H : Hp} (Pv : Nat → L2.St → Hp → Prop) (h0 : Pv 0 σ H) (hl : ∀ i σ H, i ≤ xs.length → Pv i σ H → SqT K H a xs)
    (hs : ∀ i x T σ H, xs[i]? = some x → Pv i σ H → H T = none → g (.ref T) σ (upd H T (.tup [.int (i : Nat), x])) fun σ2 H2 => tb { D with nx := Pv (i + 1), ct := Pv (i + 1), bk := D.nx } σ2 H2) (hd : ∀ σ H, Pv xs.length σ H → D.nx σ H) :
    ∃ W : Nat → Nat → L2.St → Hp → Prop, (∃ m, W 0 m σ H) ∧ ∀ i m σ H, W i m σ H →
      ((IteT K a).stop i H ∧ D.nx σ H) ∨ ((IteT K a).go i H ∧ ∃ N : L2.St → Hp → Prop, (∀ σ' H', N σ' H' → ∃ m', m' < m ∧ W (i + 1) m' σ' H') ∧ ∀ x H', (IteT K a).yld i H x H' → g x σ H' fun σ2 H2 => tb { D with nx := N, ct := N, bk := D.nx } σ2 H2) := by
  refine ⟨fun i m σ H => m = xs.length - i ∧ i ≤ xs.length ∧ Pv i σ H, ⟨xs.length, by simp, Nat.zero_le _, h0⟩, ?_⟩
  rintro i m σ H ⟨rfl, hi, p⟩
  have hL := hl i σ H hi p
  by_cases h : i < xs.length
  · refine .inr ⟨⟨xs, xs[i], hL, List.getElem?_eq_getElem h⟩, Pv (i + 1), fun σ' H' n => ⟨xs.length - (i + 1), by omega, rfl, by omega, n⟩, ?_⟩
    rintro v H' ⟨T, x, rfl, nT, rfl, hx⟩
    exact hs i x T σ H (hx xs hL) p nT
  · have e : i = xs.length := by omega
    subst e
    exact .inl ⟨⟨xs, hL, Nat.le_refl _⟩, hd σ H p⟩
theorem for_enumL {K : PySem.W.Frag} {a : Addr} {xs : List V} {g : TG} {tb : TS} {D : Ends} {σ : L2.St} {H : Hp} (Pv : Nat → L2.St → Hp → Prop) (h0 : Pv 0 σ H) (hl : ∀ i σ H, i ≤ xs.length → Pv i σ H → SqL K H a xs)
    (hs : ∀ i x T σ H, xs[i]? = some x → Pv i σ H → H T = none → g (.ref T) σ (upd H T (.tup [.int (i : Nat), x])) fun σ2 H2 => tb { D with nx := Pv (i + 1), ct := Pv (i + 1), bk := D.nx } σ2 H2) (hd : ∀ σ H, Pv xs.length σ H → D.nx σ H) :
    ∃ W : Nat → Nat → L2.St → Hp → Prop, (∃ m, W 0 m σ H) ∧ ∀ i m σ H, W i m σ H →
      ((Ite K a).stop i H ∧ D.nx σ H) ∨ ((Ite K a).go i H ∧ ∃ N : L2.St → Hp → Prop, (∀ σ' H', N σ' H' → ∃ m', m' < m ∧ W (i + 1) m' σ' H') ∧ ∀ x H', (Ite K a).yld i H x H' → g x σ H' fun σ2 H2 => tb { D with nx := N, ct := N, bk := D.nx } σ2 H2) := by
  refine ⟨fun i m σ H => m = xs.length - i ∧ i ≤ xs.length ∧ Pv i σ H, ⟨xs.length, by simp, Nat.zero_le _, h0⟩, ?_⟩
  rintro i m σ H ⟨rfl, hi, p⟩
  have hL := hl i σ H hi p
  by_cases h : i < xs.length
  · refine .inr ⟨⟨xs, xs[i], hL, List.getElem?_eq_getElem h⟩, Pv (i + 1), fun σ' H' n => ⟨xs.length - (i + 1), by omega, rfl, by omega, n⟩, ?_⟩
    rintro v H' ⟨T, x, rfl, nT, rfl, hx⟩
    exact hs i x T σ H (hx xs hL) p nT
  · have e : i = xs.length := by omega
    subst e
    exact .inl ⟨⟨xs, hL, Nat.le_refl _⟩, hd σ H p⟩
/-! ### () * k -/
theorem tuple_mul0 (l : Addr) (n : Nat) (dd : Option Addr) (sl : Array (Option Value)) (x : Int) (u : Tok) (c0 : (decide (x < -(2 ^ 63)) || decide (x ≥ 2 ^ 63)) = false) :
    Meets (Builtin.«tuple.__mul__» ⟨[.ref l, .int x u], []⟩) (fun _ R s => s.heap.get? l = some { cls := .type "tuple", dict := dd, data := .seq #[] n, slots := sl } ∧ R (.ok (.ret (Value.ref l))) s) :=
  .of_wp fun prog w A R s h => by
    obtain ⟨hp, g, d, tk, os⟩ := s
    obtain ⟨hl, h⟩ := h
    have f1 := AutoSeq1.idx_int
    have c1 : ((#[] : Array Value).isEmpty || x == 1) = true := rfl
    wp_walk using wpAny_loadPart' hl
    repeat (first
      | (refine wpAny_ite_false (decide_eq_false (by rw [c0]; exact Bool.false_ne_true)) ?_; wp_walk using wpAny_loadPart' hl)
      | (refine wpAny_ite_true (decide_eq_true c1) ?_; wp_walk using wpAny_loadPart' hl))
    exact ⟨_, rfl, h⟩
def rRepZ (K : PySem.W.Frag) : R2 := fun x y H Q => ∃ l k xs, x = .ref l ∧ y = .int k ∧ SqT K H l xs ∧ 1 ≤ k ∧ k ≤ 1000 ∧ xs.length ≤ 1000 ∧ ∀ p H', (∀ b o, H b = some o → H' b = some o) → SqT K H' p (List.replicate k.toNat xs).flatten → Q (.ref p) H'
theorem flat_nil {α : Type} (k : Nat) : (List.replicate k ([] : List α)).flatten = [] := by
  induction k with
  | zero => rfl
  | succ k ih => rw [List.replicate_succ, List.flatten_cons, ih]; rfl
theorem op_repZ {X : Cx} : OpR X (binaryOp .Mult) (rRepZ X.K) := by
  intro pins s σ H x y v u Q I rx ry h
  obtain ⟨l, k, xs, rfl, rfl, hT, h1, h2, hz, q⟩ := h
  by_cases hne : xs = []
  · subst hne
    cases rx
    obtain ⟨t, rfl⟩ := ry
    obtain ⟨its, r, ⟨⟨cls, dd, data, sl⟩, ho, hc, n, hd⟩, hs⟩ := I.tuple hT
    simp only at hc hd
    subst hc hd
    cases r
    have c0 : (decide (k < -(2 ^ 63)) || decide (k ≥ 2 ^ 63)) = false := by
      rw [decide_eq_false (by omega), decide_eq_false (by omega)]
      rfl
    refine wpAny_binaryOp_repeat_ref (T := "tuple") (U := "int") (by decide) ⟨_, ho, rfl⟩ (fun s' => typeIs_int s' k t) noFill_tuple_mul F.fills_int_mul F.slot_int_rmul repeat_tuple F.slot_int_index.lookup
      (call_meets F.slot_int_rmul (typeIs_int s k t) F.entry_int_rmul (F.args_int_rmul_2 _ _) (int_rmul_tuple k t l #[] n dd sl)
        ⟨ho, rfl, ⟨_, ho, rfl⟩, call_meets F.slot_tuple_mul ⟨_, ho, rfl⟩ F.entry_tuple_mul (F.args_tuple_mul_2 _ _) (tuple_mul0 l n dd sl k t c0) ⟨ho, ?_⟩⟩)
    exact ⟨.ref l, H, I, rfl, q l H (fun _ _ h => h) (by rw [flat_nil]; exact hT)⟩
  · refine op_repA pins s σ H _ _ v u Q I rx ry ⟨l, k, xs, rfl, rfl, hT, hne, h1, h2, hz, fun e => ?_, fun e p np => ?_⟩
    · refine q l H (fun _ _ h => h) ?_
      subst e
      show SqT X.K H l ([xs]).flatten
      simpa using hT
    · refine q p _ (fun b o e => by rw [upd_ne (ne_of_none e np)]; exact e) (SqT.of upd_same)
end RR

/-! ## heaps, tuples, data, sorts -/
namespace My
open PySem PySem.Spec PyProof.Rows L2
--ANN _law_pick | cut if tape[1] < len(tape[0]): | cut
/-! ### heaps -/
theorem same_upd {H : Hp} {p : Addr} {o : HO} (h : H p = none) : Same H (upd H p o) := fun b x e => by
  rw [upd_ne (ne_of_none e h)]
  exact e
/-- all but t stays -/
def Moved (t : Addr) (H H' : Hp) : Prop := ∀ b o, b ≠ t → H b = some o → H' b = some o
theorem Moved.refl {t : Addr} {H : Hp} : Moved t H H := fun _ _ _ h => h
theorem Moved.trans {t : Addr} {H H1 H2 : Hp} (a : Moved t H H1) (b : Moved t H1 H2) : Moved t H H2 := fun c o n h => b c o n (a c o n h)
theorem Moved.upd {t : Addr} {H : Hp} {o : HO} : Moved t H (upd H t o) := fun b x n e => by
  rw [upd_ne n]
  exact e
theorem Moved.same {t : Addr} {H H' : Hp} (h : Same H H') : Moved t H H' := fun b o _ e => h b o e
theorem Moved.free {t : Addr} {H H' : Hp} (h : Moved t H H') {p : Addr} (n : p ≠ t) (e : H' p = none) : H p = none := by
  cases q : H p with
  | none => rfl
  | some o =>
    rw [h p o n q] at e
    cases e
/-! ### the tape: where the draws stand -/
def Tape (H : Hp) (t s : Addr) : Prop := ∃ (ns : List Int) (pos rest mx ct : Int), s ≠ t ∧ H t = some (.lst [.ref s, .int pos, .int rest, .int mx, .int ct]) ∧ H s = some (.lst (ns.map V.int)) ∧ 0 ≤ pos
theorem Tape.keep {t s : Addr} {H H' : Hp} (h : Tape H t s) (e : Same H H') : Tape H' t s := by
  obtain ⟨ns, a, b, c, d, h1, h2, h3, h4⟩ := h
  exact ⟨ns, a, b, c, d, h1, e _ _ h2, e _ _ h3, h4⟩
theorem Tape.ne {t s p : Addr} {H : Hp} (h : Tape H t s) (np : H p = none) : p ≠ t := fun e => by
  obtain ⟨ns, a, b, c, d, h1, h2, h3, h4⟩ := h
  rw [e, h2] at np
  cases np
theorem Tape.ne2 {t s p : Addr} {H : Hp} (h : Tape H t s) (np : H p = none) : p ≠ s := fun e => by
  obtain ⟨ns, a, b, c, d, h1, h2, h3, h4⟩ := h
  rw [e, h3] at np
  cases np
theorem Tape.but {t s r : Addr} {H : Hp} {o : HO} (h : Tape H t s) (n : r ≠ t) (n2 : r ≠ s) : Tape (upd H r o) t s := by
  obtain ⟨ns, a, b, c, d, h1, h2, h3, h4⟩ := h
  refine ⟨ns, a, b, c, d, h1, ?_, ?_, h4⟩
  · rw [upd_ne n.symm]
    exact h2
  · rw [upd_ne n2.symm]
    exact h3
section
variable {K : PySem.W.Frag} {H : Hp}
theorem tyTup {a : Addr} {xs : List V} (h : SqT K H a xs) : TyX K H (.ref a) (.type "tuple") := by
  rcases h with (h | ⟨o, h⟩) | h
  · exact .base (.tup h)
  · exact .fTuple h
  · obtain ⟨o, n, vs, e, c, _⟩ := h
    exact .kTuple e c
theorem sT {H' : Hp} {a : Addr} {xs : List V} (e : Same H H') (h : SqT K H a xs) : SqT K H' a xs := by
  rcases h with (h | ⟨o, h⟩) | h
  · exact .inl (.inl (e _ _ h))
  · exact .inl (.inr ⟨o, e _ _ h⟩)
  · exact .inr h
end
/-! ### new tuples, one for each -/
theorem small2000 {n : Nat} (h : n ≤ 2000) : n < sizeLine := by
  show n < 2 ^ 24
  omega
inductive Tups {α : Type} (f : α → List V) (H : Hp) : List Addr → List α → Prop
  | nil : Tups f H [] []
  | cons {p : Addr} {x : α} {ps : List Addr} {xs : List α} : H p = some (.tup (f x)) → Tups f H ps xs → Tups f H (p :: ps) (x :: xs)
section
variable {α : Type} {f : α → List V} {H H' : Hp}
theorem Tups.keep {ps : List Addr} {xs : List α} (h : Tups f H ps xs) (e : ∀ b ys, H b = some (.tup ys) → H' b = some (.tup ys)) : Tups f H' ps xs := by
  induction h with
  | nil => exact .nil
  | cons a _ ih => exact .cons (e _ _ a) ih
theorem Tups.same {ps : List Addr} {xs : List α} (h : Tups f H ps xs) (e : Same H H') : Tups f H' ps xs := h.keep fun b ys z => e _ _ z
theorem Tups.put {ps : List Addr} {xs : List α} (h : Tups f H ps xs) {L : Addr} {ys : List V} {o : HO} (e : H L = some (.lst ys)) : Tups f (upd H L o) ps xs := h.keep fun b zs z => by
  rw [upd_ne (fun q => by rw [q, e] at z; cases z)]
  exact z
theorem Tups.new {ps : List Addr} {xs : List α} (h : Tups f H ps xs) {p : Addr} {o : HO} (e : H p = none) : Tups f (upd H p o) ps xs := h.same (same_upd e)
theorem Tups.snoc {ps : List Addr} {xs : List α} {p : Addr} {x : α} (h : Tups f H ps xs) (e : H p = some (.tup (f x))) : Tups f H (ps ++ [p]) (xs ++ [x]) := by
  induction h with
  | nil => exact .cons e .nil
  | cons a _ ih => exact .cons a ih
theorem Tups.append {ps qs : List Addr} {xs ys : List α} (h : Tups f H ps xs) (k : Tups f H qs ys) : Tups f H (ps ++ qs) (xs ++ ys) := by
  induction h with
  | nil => exact k
  | cons a _ ih => exact .cons a ih
theorem Tups.length {ps : List Addr} {xs : List α} (h : Tups f H ps xs) : ps.length = xs.length := by
  induction h with
  | nil => rfl
  | cons a _ ih => rw [List.length_cons, List.length_cons, ih]
theorem Tups.get {ps : List Addr} {xs : List α} (h : Tups f H ps xs) : ∀ {i : Nat} {v : V}, (ps.map V.ref)[i]? = some v → ∃ p x, v = .ref p ∧ xs[i]? = some x ∧ H p = some (.tup (f x)) := by
  induction h with
  | nil =>
    intro i v h
    simp at h
  | cons a _ ih =>
    intro i v h
    cases i with
    | zero =>
      simp at h
      exact ⟨_, _, h.symm, rfl, a⟩
    | succ i =>
      simp only [List.map_cons, List.getElem?_cons_succ] at h ⊢
      exact ih h
end
def wv : Option Int → V
  | none => .non
  | some w => .int w
def pv2 (p : Int × Int) : List V := [.int p.1, .int p.2]
/-! ### data that is compared -/
def wd : Option Int → PyData
  | none => .none
  | some w => .int w
def pd2 (p : Int × Int) : PyData := .tuple [.int p.1, .int p.2]
def dInts (ns : List Int) : PyData := .list (ns.map PyData.int)
def dWs (ws : List (Option Int)) : PyData := .list (ws.map wd)
def dPrs (ps : List (Int × Int)) : PyData := .list (ps.map pd2)
section
variable {K : PySem.W.Frag} {H : Hp}
theorem dpa_ints : ∀ ns : List Int, DpAll K H (ns.map V.int) (ns.map PyData.int)
  | [] => .nil
  | n :: ns => .cons (.int n) (dpa_ints ns)
theorem dp_wd : ∀ w : Option Int, Dp K H (wv w) (wd w)
  | none => .non
  | some w => .int w
theorem dpa_ws : ∀ ws : List (Option Int), DpAll K H (ws.map wv) (ws.map wd)
  | [] => .nil
  | w :: ws => .cons (dp_wd w) (dpa_ws ws)
theorem dpa_prs {ps : List Addr} {xs : List (Int × Int)} (h : Tups pv2 H ps xs) : DpAll K H (ps.map V.ref) (xs.map pd2) := by
  induction h with
  | nil => exact .nil
  | cons a _ ih => exact .cons (.tup (SqT.of a) (.cons (.int _) (.cons (.int _) .nil))) ih
end
theorem lay_all {α : Type} {f : α → PyData} (h : ∀ x, (f x).canLay0 = true) : ∀ xs : List α, PyData.canLayAll0 (xs.map f) = true
  | [] => by simp [PyData.canLayAll0]
  | x :: xs => by
    rw [List.map_cons, PyData.canLayAll0, h x, lay_all h xs]
    rfl
theorem dep_all {α : Type} {f : α → PyData} {d : Nat} (h : ∀ x, (f x).depth ≤ d) : ∀ xs : List α, PyData.depthAll (xs.map f) ≤ d
  | [] => by simp [PyData.depthAll]
  | x :: xs => by
    have h1 := h x
    have h2 := dep_all h xs
    rw [List.map_cons, PyData.depthAll]
    omega
/-- can be laid, and is at most d deep -/
def Shp (d : Nat) (x : PyData) : Prop := x.canLay0 = true ∧ x.depth ≤ d
theorem Shp.ok {d : Nat} {x : PyData} (h : Shp d x) (hd : d ≤ 64) : SeqAt.shaped x = true := by
  show (x.canLay0 && decide (x.depth ≤ 64)) = true
  rw [Bool.and_eq_true]
  exact ⟨h.1, decide_eq_true (Nat.le_trans h.2 hd)⟩
theorem Shp.int (i : Int) : Shp 1 (.int i) := ⟨by simp [PyData.canLay0], by simp [PyData.depth]⟩
theorem Shp.wd (w : Option Int) : Shp 1 (wd w) := by
  cases w <;> exact ⟨by simp [My.wd, PyData.canLay0], by simp [My.wd, PyData.depth]⟩
theorem Shp.list {α : Type} {f : α → PyData} {d : Nat} (h : ∀ x, Shp d (f x)) (xs : List α) : Shp (d + 1) (.list (xs.map f)) := by
  have h1 := lay_all (fun x => (h x).1) xs
  have h2 := dep_all (fun x => (h x).2) xs
  exact ⟨by simp only [PyData.canLay0]; exact h1, by simp only [PyData.depth]; omega⟩
theorem Shp.tup0 : Shp 1 (.tuple []) := ⟨by simp [PyData.canLay0, PyData.canLayAll0], by simp [PyData.depth, PyData.depthAll]⟩
theorem Shp.tupC {d : Nat} {x : PyData} {xs : List PyData} (h : Shp d x) (t : Shp (d + 1) (.tuple xs)) : Shp (d + 1) (.tuple (x :: xs)) := by
  obtain ⟨a, b⟩ := h
  obtain ⟨c, e⟩ := t
  simp only [PyData.canLay0] at c
  simp only [PyData.depth] at e
  refine ⟨?_, ?_⟩
  · simp only [PyData.canLay0, PyData.canLayAll0, a, c, Bool.and_self]
  · simp only [PyData.depth, PyData.depthAll]
    omega
theorem Shp.up {d e : Nat} {x : PyData} (h : Shp d x) (le : d ≤ e) : Shp e x := ⟨h.1, Nat.le_trans h.2 le⟩
theorem Shp.pd2 (p : Int × Int) : Shp 2 (pd2 p) := .tupC (.int _) (.tupC (.int _) (Shp.tup0.up (by decide)))
theorem Shp.ints (ns : List Int) : Shp 2 (dInts ns) := .list Shp.int ns
theorem Shp.ws (ws : List (Option Int)) : Shp 2 (dWs ws) := .list Shp.wd ws
theorem Shp.prs (ps : List (Int × Int)) : Shp 3 (dPrs ps) := .list Shp.pd2 ps
theorem eqv_same {d : Nat} {x : PyData} (h : Shp d x) : PyData.eqv x x = true := SeqAt.eqv_refl x h.1
theorem iteNE {b : Bool} {A B : Prop} (hb : b = true) (h : B) : if (!b) = true then A else B := by
  subst hb
  exact iteF h
theorem ne_same {d : Nat} {x : PyData} (h : Shp d x) : V.bl (!PyData.eqv x x) = V.bl false := by
  rw [eqv_same h]
  rfl
theorem eq_same {d : Nat} {x : PyData} (h : Shp d x) : V.bl (PyData.eqv x x) = V.bl true := by
  rw [eqv_same h]

theorem flat_one {α : Type} (n : Nat) (x : α) : (List.replicate n [x]).flatten = List.replicate n x := by
  induction n with
  | zero => rfl
  | succ n ih => rw [List.replicate_succ, List.flatten_cons, ih]; rfl
theorem take_snoc {α : Type} {l : List α} {i : Nat} {x : α} (h : l[i]? = some x) : l.take (i + 1) = l.take i ++ [x] := by
  rw [List.take_add_one, h]
  rfl
theorem same_put {H H' : Hp} {p : Addr} {o : HO} (sm : Same H H') (n : H p = none) : Same H (upd H' p o) := fun b x e => (upd_ne (ne_of_none e n)).trans (sm b x e)
theorem ne_no {a b : Int} (h : a = b) : V.bl (!decide (V.int a = V.int b)) = V.bl false := by
  subst h
  rw [decide_eq_true rfl]
  rfl
theorem ixN_nat {n : Nat} {p : Int} (h0 : 0 ≤ p) (h1 : p < (n : Int)) : ixN n p = some p.toNat := by
  unfold ixN
  rw [if_pos h0, if_pos h1]
theorem atI_of {xs : List V} {p : Int} {v : V} (h0 : 0 ≤ p) (h : xs[p.toNat]? = some v) : atI xs p = some v := by
  have e := atI_nat h
  rw [show ((p.toNat : Nat) : Int) = p by omega] at e
  exact e
theorem ixTK {X : Cx} {K : PySem.W.Frag} (h : X.K = K) : IxR X (rIxT K) := h ▸ ix_tup
theorem ixLK {X : Cx} {K : PySem.W.Frag} (h : X.K = K) : IxR X (rIxL K) := h ▸ ix_list
def rLenS (K : PySem.W.Frag) : List V → Hp → VK → Prop := fun xs H Q => ∃ p ys, xs = [.ref p] ∧ (SqL K H p ys ∨ SqT K H p ys) ∧ Q (.int ys.length) H
theorem lenK {X : Cx} {K : PySem.W.Frag} (h : X.K = K) : CallR X (.builtin "len") (rLenS K) := h ▸ call_len_seq
theorem isiK {X : Cx} {K : PySem.W.Frag} (h : X.K = K) : CallR X (.builtin "isinstance") (rIsi K) := h ▸ call_isi
theorem notInK {X : Cx} {K : PySem.W.Frag} (h : X.K = K) : OpR X (compareOp .NotIn) (rIn K true) := h ▸ op_notIn_seq
theorem inK {X : Cx} {K : PySem.W.Frag} (h : X.K = K) : OpR X (compareOp .In) (rIn K false) := h ▸ op_in_seq
/-! ### tuples of ints as data -/
def fI (r : List Int) : List V := r.map V.int
def dI (r : List Int) : PyData := .tuple (r.map PyData.int)
def dT (rs : List (List Int)) : PyData := .list (rs.map dI)
theorem units65 {k : Nat} {A : Around} (r : Room k A) : A.units + 65 < cLine := by
  have := r.un
  omega
theorem Shp.tuple {α : Type} {f : α → PyData} {d : Nat} (h : ∀ x, Shp d (f x)) (xs : List α) : Shp (d + 1) (.tuple (xs.map f)) := by
  have h1 := lay_all (fun x => (h x).1) xs
  have h2 := dep_all (fun x => (h x).2) xs
  exact ⟨by simp only [PyData.canLay0]; exact h1, by simp only [PyData.depth]; omega⟩
theorem Shp.dI (r : List Int) : Shp 2 (dI r) := .tuple Shp.int r
theorem Shp.dT (rs : List (List Int)) : Shp 3 (dT rs) := .list Shp.dI rs
theorem dp_dI {K : PySem.W.Frag} {H : Hp} {p : Addr} {r : List Int} (h : SqT K H p (r.map V.int)) : Dp K H (.ref p) (My.dI r) := .tup h (dpa_ints r)
theorem dpa_dT {K : PySem.W.Frag} {H : Hp} {ps : List Addr} {rs : List (List Int)} (h : Tups fI H ps rs) : DpAll K H (ps.map V.ref) (rs.map My.dI) := by
  induction h with
  | nil => exact .nil
  | cons a _ ih => exact .cons (dp_dI (SqT.of a)) ih
theorem dp_dT {K : PySem.W.Frag} {H : Hp} {L : Addr} {ps : List Addr} {rs : List (List Int)} (e : H L = some (.lst (ps.map V.ref))) (h : Tups fI H ps rs) : Dp K H (.ref L) (My.dT rs) := .lst (SqL.of e) (dpa_dT h)
theorem eqvA : ∀ a b : List Int, PyData.eqvAll (a.map PyData.int) (b.map PyData.int) = decide (a = b)
  | [], [] => by simp [PyData.eqvAll]
  | [], _ :: _ => by simp [PyData.eqvAll]
  | _ :: _, [] => by simp [PyData.eqvAll]
  | x :: a, y :: b => by
    rw [List.map_cons, List.map_cons, PyData.eqvAll, eqvA a b]
    simp only [PyData.eqv]
    by_cases h : x = y
    · subst h
      simp
    · simp [h]
theorem eqvI (a b : List Int) : PyData.eqv (My.dI a) (My.dI b) = decide (a = b) := by
  unfold My.dI
  rw [PyData.eqv]
  exact eqvA a b
theorem not_any {rs : List (List Int)} {r : List Int} (h : r ∉ rs) : ((rs.map My.dI).any fun z => PyData.eqv z (My.dI r)) = false := by
  rw [List.any_map, List.any_eq_false]
  intro x hx
  show ¬ PyData.eqv (My.dI x) (My.dI r) = true
  rw [eqvI]
  intro z
  exact h (of_decide_eq_true z ▸ hx)
/-! ### a tuple whose object is known: its methods -/
def Frz (H : Hp) (p : Addr) (xs : List V) : Prop := ∃ o : Obj, H p = some (.frz o (.tup xs)) ∧ o.dict = none
theorem Frz.sq {K : PySem.W.Frag} {H : Hp} {p : Addr} {xs : List V} (h : Frz H p xs) : SqT K H p xs := let ⟨o, e, _⟩ := h; .inl (.inr ⟨o, e⟩)
theorem Frz.same {H H' : Hp} {p : Addr} {xs : List V} (h : Frz H p xs) (e : Same H H') : Frz H' p xs := let ⟨o, a, b⟩ := h; ⟨o, e _ _ a, b⟩
theorem Frz.moved {t : Addr} {H H' : Hp} {p : Addr} {xs : List V} (h : Frz H p xs) (n : p ≠ t) (e : Moved t H H') : Frz H' p xs := let ⟨o, a, b⟩ := h; ⟨o, e _ _ n a, b⟩
theorem Frz.of {H H' : Hp} {p : Addr} {xs : List V} (h : Frz H p xs) (e : ∀ o, H p = some o → H' p = some o) : Frz H' p xs := let ⟨o, a, b⟩ := h; ⟨o, e _ a, b⟩
theorem Frz.ne {H : Hp} {p q : Addr} {xs : List V} (h : Frz H p xs) (n : H q = none) : p ≠ q := let ⟨_, a, _⟩ := h; ne_of_none a n
theorem Frz.tape {H : Hp} {p t s : Addr} {xs : List V} (h : Frz H p xs) (tp : Tape H t s) : p ≠ t := fun e => by
  obtain ⟨o, a, _⟩ := h
  obtain ⟨_, _, _, _, _, _, e2, _⟩ := tp
  rw [e, e2] at a
  cases a
theorem call_tupleF {X : Cx} : CallR X (.type "tuple") (fun xs H Q => ∃ p ys, xs = [.ref p] ∧ SqL X.K H p ys ∧ ∀ l H', H l = none → Same H H' → Frz H' l ys → (∀ b, b ≠ l → H' b = H b) → Q (.ref l) H') := by
  intro pins s σ H xs us Q I r h
  obtain ⟨p, ys, rfl, hq, q⟩ := h
  obtain ⟨u, rfl, rx⟩ := vals1 r
  cases rx
  obtain ⟨its, r', pl, hz⟩ := I.list hq
  have hlen := r'.length
  refine call_tuple_list pl.isList (fun h' kp => ?_) (by simp only [List.size_toArray] <;> omega)
  have I1 : Inv X pins σ H { s with heap := h' } := I.kept (t' := s.toks) kp
  have I2 : Inv X pins σ (upd H h'.objs.size (.frz { cls := .type "tuple", data := .seq its.toArray } (.tup ys))) { s with heap := h'.push { cls := .type "tuple", data := .seq its.toArray } } :=
    I1.laid (t' := s.toks) (fun b o e => Heap.get?_push_of_some _ e) (Nat.le_refl _) (show ObjOk X.prog X.w _ _ _ (.frz _ (.tup ys)) from ⟨Heap.get?_push_size _ rfl, hz, its, r', IsTup.new _ _⟩)
  have nl := I1.hok.fresh (Nat.le_refl _)
  exact ⟨.ref h'.objs.size, _, I2, rfl, q _ _ nl (same_upd nl) ⟨_, upd_same, rfl⟩ fun b n => upd_ne n⟩
def tTM (r : V → List V → Hp → VK → Prop) (to : TE) (t : TA) : TE := fun σ H Q => to σ H fun x H1 => (∃ p xs, x = .ref p ∧ Frz H1 p xs) ∧ t σ H1 fun xs H2 => r x xs H2 Q
theorem pe_tm {X : Cx} {o e : Expr} {es : List Expr} {to : TE} {t : TA} {name : Str} {apos cpos : Pos} {id : String} {r : V → List V → Hp → VK → Prop} (pa : PlainAttrs "tuple") (slot : Slot "tuple" name id) (hty : typeOf (.builtin id) = pure (.type "method_descriptor")) (hm : MtR X id r) (ho : PE X o to) (ha : PA X (e :: es) t)
    (hbase : attributeBase o name X.env (eval o X.env) = eval o X.env := by rfl)
    (hfew : ((backTo cpos (starEach (e :: es) X.env)).all (fun x => !x.1) && (backToKw cpos (keywordEach [] X.env)).all (fun x => x.1.isSome)
      && decide ((e :: es).length + ([] : List Keyword).length + (if ([] : List Keyword).isEmpty then 0 else 1) < 30)) = true := by rfl)
    (hline : (apos.endLine == cpos.line) = true := by rfl) (hs : starEach (e :: es) X.env = (false, eval e X.env) :: starEach es X.env := by rfl) (hplain : (backTo cpos (starEach es X.env)).any (·.1) = false := by rfl) :
    PE X (.Call (.Attribute o name apos) (e :: es) [] cpos) (tTM r to t) := by
  refine ⟨fun pins s σ H Q I h => ?_⟩
  refine wpAny_Call_method_late hbase hfew hline rfl (thn (ho.run pins s σ H _ I h) fun v s1 ⟨x, H1, I1, r1, ty, q1⟩ => ?_)
  obtain ⟨p, xs, rfl, ob, hp, hd⟩ := ty
  cases r1
  obtain ⟨hob, _, its, _, ⟨o2, ho2, hc2, _⟩⟩ := I1.hok _ _ hp
  have eo : o2 = ob := Option.some.inj (ho2.symm.trans hob)
  subst eo
  refine ⟨"tuple", id, pa, slot, hty, ⟨_, hob, hc2⟩, fun a ea => ?_, ?_⟩
  · cases ea
    exact ⟨_, hob, hd⟩
  have hA := ha.run cpos pins s1 σ H1 _ I1 q1
  rw [hs] at hA ⊢
  refine Calls.callWith_builtin (by show (false || (backTo cpos (starEach es X.env)).any (·.1)) = false; rw [hplain] <;> rfl) (Calls.evalArgs_plain ?_)
  exact thn hA fun us s2 ⟨vs, H2, I2, r2, q2⟩ => hm pins s2 σ H2 (.ref p) vs _ us Q I2 rfl r2 q2
/-! ### t.index(k), t a tuple of ints -/
theorem flat_ints (ys : List Int) : (ys.map V.int).all flatV = true := by
  rw [List.all_map]
  exact List.all_eq_true.mpr fun _ _ => rfl
def rTIndex (K : PySem.W.Frag) : V → List V → Hp → VK → Prop := fun x xs H Q => ∃ p, ∃ ys : List Int, ∃ z j, x = .ref p ∧ xs = [.int z] ∧ SqT K H p (ys.map V.int) ∧ ys[j]? = some z ∧ (∀ m, m < j → ys[m]? ≠ some z) ∧ Q (.int (j : Nat)) H
theorem mt_tindex {X : Cx} : MtR X "tuple.index" (rTIndex X.K) := by
  intro pins s σ H x xs v us Q I rx rs h
  obtain ⟨p, ys, z, j, rfl, rfl, hq, hy, hno, q⟩ := h
  cases rx
  obtain ⟨u, rfl, t, rfl⟩ := vals1 rs
  obtain ⟨its, r, pl, hz⟩ := I.tuple hq
  obtain ⟨⟨cls, dd, dt, sl⟩, ho, hc, n, hd⟩ := pl
  simp only at hc hd
  subst hc
  subst hd
  have hl : its.toArray.size = ys.length := by rw [List.size_toArray, ← r.length, List.length_map]
  have hj : j < its.toArray.size := by rw [hl]; exact (List.getElem?_eq_some_iff.mp hy).1
  have at' : ∀ (m : Nat) (hm : m < its.toArray.size), ∃ y t', ys[m]? = some y ∧ its.toArray[m] = Value.int y t' := fun m hm => by
    have hm' : m < ys.length := by rw [← hl]; exact hm
    obtain ⟨w, hw, t', hw'⟩ := r.get (i := m) (x := .int ys[m]) (by simp [hm'])
    refine ⟨ys[m], t', List.getElem?_eq_getElem hm', ?_⟩
    have e := (List.getElem?_eq_some_iff.mp hw).2
    rw [← hw', ← e]
    simp
  refine call_meets PySem.F.slot_tuple_index ⟨_, ho, rfl⟩ PySem.F.entry_tuple_index (PySem.F.args_tuple_index_2 _ _) (TI.tuple_indexAt p its.toArray n dd sl (.int z t) (eqU (.int z)) j hj ?_ ?_)
    ⟨ho, fun w hw => mem_eqAt (x := .int z) ⟨t, rfl⟩ rfl r (flat_ints ys) w (by simpa using hw), ⟨.int (j : Nat), H, I.tok _, ⟨_, rfl⟩, q⟩⟩
  · obtain ⟨y, t', h1, h2⟩ := at' j hj
    rw [hy] at h1
    cases h1
    rw [h2]
    show (z == z) = true
    exact beq_self_eq_true z
  · intro m hm hmj
    obtain ⟨y, t', h1, h2⟩ := at' m hm
    rw [h2]
    show (y == z) = false
    exact beq_eq_false_iff_ne.mpr fun e => hno m hmj (e ▸ h1)
/-! ### sorted(xs), xs a list of tuples of d ints from 0 to B, of any length -/
/-- the ints of a tuple that H tracks -/
def intsV (H : Hp) : V → List Int
  | .ref a => match H a with
    | some (.tup xs) => xs.filterMap fun v => match v with
      | .int i => some i
      | _ => none
    | _ => []
  | _ => []
theorem ints_fI (r : List Int) : ((fI r).filterMap fun v => match v with
      | V.int i => some i
      | _ => none) = r := by
  unfold fI
  induction r with
  | nil => rfl
  | cons x r ih => simp [ih]
theorem intsV_of {H : Hp} {a : Addr} {r : List Int} (h : H a = some (.tup (fI r))) : intsV H (.ref a) = r := by
  show (match H a with
    | some (.tup xs) => xs.filterMap fun v => match v with
      | V.int i => some i
      | _ => none
    | _ => []) = r
  rw [h]
  exact ints_fI r
abbrev ltC (B : Int) (k : V → List Int) (x y : V) : Bool := decide (TS.code B (k x) < TS.code B (k y))
theorem swoC {α : Type} (f : α → Int) : SrtO.Swo fun x y => decide (f x < f y) := by
  refine ⟨fun x y h => ?_, fun x y z h1 h2 => ?_⟩
  · have a := of_decide_eq_true h
    exact decide_eq_false (by omega)
  · have a := of_decide_eq_false h1
    have b := of_decide_eq_false h2
    exact decide_eq_false (by omega)
def rSortC (K : PySem.W.Frag) (B : Int) (d : Nat) : List V → Hp → VK → Prop := fun vs H Q => ∃ (a : Addr) (ps : List Addr) (rs : List (List Int)), vs = [V.ref a] ∧ SqL K H a (ps.map V.ref) ∧ Tups fI H ps rs ∧ (∀ r ∈ rs, r.length = d ∧ TS.Bd B r) ∧
  ∀ ps' rs' p, Tups fI H ps' rs' → rs'.Perm rs → rs'.Pairwise (fun x y => TS.code B x ≤ TS.code B y) → H p = none → Q (.ref p) (upd H p (.lst (ps'.map V.ref)))
theorem tups_of {H : Hp} : ∀ {ps : List Addr}, (∀ p ∈ ps, ∃ r, H p = some (.tup (fI r))) → Tups fI H ps (ps.map fun p => intsV H (.ref p))
  | [], _ => .nil
  | p :: ps, h => by
    obtain ⟨r, hr⟩ := h p List.mem_cons_self
    refine .cons ?_ (tups_of fun q hq => h q (List.mem_cons_of_mem _ hq))
    show H p = some (.tup (fI (intsV H (.ref p))))
    rw [intsV_of hr]
    exact hr
theorem Tups.ints {H : Hp} {ps : List Addr} {rs : List (List Int)} (h : Tups fI H ps rs) : rs = ps.map fun p => intsV H (.ref p) := by
  induction h with
  | nil => rfl
  | cons a _ ih => rw [List.map_cons, intsV_of a, ← ih]
theorem Tups.mem {α : Type} {f : α → List V} {H : Hp} {ps : List Addr} {rs : List α} (h : Tups f H ps rs) : ∀ p ∈ ps, ∃ r ∈ rs, H p = some (.tup (f r)) := by
  induction h with
  | nil => exact fun _ h => absurd h (by simp)
  | cons a _ ih =>
    intro p hp
    rcases List.mem_cons.mp hp with rfl | hp
    · exact ⟨_, List.mem_cons_self, a⟩
    · obtain ⟨r, hr, e⟩ := ih p hp
      exact ⟨r, List.mem_cons_of_mem _ hr, e⟩
theorem cr_sortC {X : Cx} {B : Int} {d : Nat} (hd : 1 ≤ d) : CallR X (.builtin "sorted") (rSortC X.K B d) := by
  intro pins s σ H vs us Q I r h
  obtain ⟨a, ps, rs, rfl, hs, tu, hb, q⟩ := h
  obtain ⟨its, rv, hl, hz⟩ := I.list hs
  obtain ⟨u, rfl, ru⟩ := vals1 r
  obtain rfl : u = Value.ref a := ru
  obtain ⟨e1, e2⟩ := refs_back rv fun x m => by
    obtain ⟨t, _, e⟩ := List.mem_map.mp m
    exact ⟨t, e.symm⟩
  have key : ∀ v ∈ its, ∃ p, v = Value.ref p ∧ p ∈ ps := fun v hv => by
    obtain ⟨t, rfl⟩ := e2 v hv
    have hm : V.ref t ∈ ps.map V.ref := by rw [e1]; exact List.mem_map.mpr ⟨_, hv, rfl⟩
    obtain ⟨p, hp, e⟩ := List.mem_map.mp hm
    cases e
    exact ⟨t, rfl, hp⟩
  have tin : ∀ v ∈ its, TS.TupInts s.heap v (intsV H (backV v)) ∧ (intsV H (backV v)).length = d ∧ TS.Bd B (intsV H (backV v)) := fun v hv => by
    obtain ⟨p, rfl, hp⟩ := key v hv
    obtain ⟨r, hr, ep⟩ := tu.mem p hp
    have ei : intsV H (backV (Value.ref p)) = r := intsV_of ep
    rw [ei]
    obtain ⟨its2, r2, pt, _⟩ := I.tuple (SqT.of ep)
    have hb' := hb r hr
    exact ⟨⟨p, its2.toArray, rfl, pt, intsAre_of r2⟩, hb'.1, hb'.2⟩
  refine SrtO.sorted_ord (ltv := fun v u => decide (TS.code B (intsV H (backV v)) < TS.code B (intsV H (backV u)))) (swoC fun v => TS.code B (intsV H (backV v))) hl.isList (by rw [← rv.length]; exact hz) (fun h2 h₁ a' ha' kk => ?_) fun out h1 h2 => ?_
  · intro h' keep
    have keep2 : ∀ b o, s.heap.get? b = some o → o.cls = .type "tuple" → h'.get? b = some o := fun b o e c => keep b o (kk b o e).1 (kk b o e).2
    have tin' : ∀ v ∈ its, TS.TupInts h' v (intsV H (backV v)) ∧ (intsV H (backV v)).length = d ∧ TS.Bd B (intsV H (backV v)) := fun v hv => let ⟨x, y, z⟩ := tin v hv; ⟨x.keeps keep2, y, z⟩
    obtain ⟨fs, k1, k2, k3⟩ := TS.firsts_of (h := h') (d := d) (B := B) hd its fun v hv => ⟨_, tin' v hv⟩
    refine ⟨tuples' true, fun Q E hq => ?_, ?_⟩
    · refine PySem.W.kat_kind (T := .type "int") k1 (by omega) (fun f hm => ?_) (by rfl) ?_
      · obtain ⟨x, t, rfl⟩ := k3 f hm
        exact PySem.W.Looks.now
      · have e : (Value.type "int" != Value.type "tuple") = true := by first | decide +kernel | rfl | decide
        rw [e]
        exact hq
    · intro p q hm hm'
      obtain ⟨⟨a1, xs, x1, ⟨o1, ho1, hc1, n1, hd1⟩, i1⟩, l1, b1⟩ := tin' _ hm
      obtain ⟨⟨a2, ys, x2, ⟨o2, ho2, hc2, n2, hd2⟩, i2⟩, l2, b2⟩ := tin' _ hm'
      show wpAny _ _ (keyLt' _ p.1 q.1) (fun r s' => s' = _ ∧ r = decide (TS.code B (intsV H (backV p.1)) < TS.code B (intsV H (backV q.1)))) (fun _ _ => False) _
      generalize intsV H (backV p.1) = ns at *
      generalize intsV H (backV q.1) = ms at *
      rw [x1, x2]
      refine PySem.W.kat_lt ho1 hd1 ho2 hd2 ?_
      have el : xs.size = ys.size := by
        have z1 := i1.length
        have z2 := i2.length
        simp at z1 z2
        omega
      rw [el, decide_eq_false (Nat.lt_irrefl _)]
      exact TS.lex_ints 0 i1 i2 (by omega) b1 b2 ⟨rfl, rfl⟩
  · obtain ⟨ep, he'⟩ := PyProof.Rows.sortedAll_at s.heap its out.toArray
    have h3 : ∀ u ∈ out, ∃ p, u = Value.ref p ∧ p ∈ ps := fun u hu => key u (h2.perm.mem_iff.mp hu)
    have eo : out.map backV = (out.map fun u => match u with
      | Value.ref a => a
      | _ => 0).map V.ref := by
      rw [List.map_map]
      refine List.map_congr_left fun u hu => ?_
      obtain ⟨p, rfl, _⟩ := h3 u hu
      rfl
    have hp : (out.map backV).Perm (ps.map V.ref) := by
      rw [e1]
      exact h2.perm.map backV
    have hlen : (out.map backV).length ≤ sizeLine := by
      rw [hp.length_eq]
      exact hz
    generalize eps : (out.map fun u => match u with
      | Value.ref a => a
      | _ => 0) = ps' at eo
    have pp : ps'.Perm ps := by
      rw [eo] at hp
      have z := hp.map fun v => match v with
        | V.ref a => a
        | _ => 0
      rw [List.map_map, List.map_map] at z
      have id1 : ∀ l : List Addr, l.map ((fun v => match v with
        | V.ref a => a
        | _ => 0) ∘ V.ref) = l := fun l => by
        induction l with
        | nil => rfl
        | cons x l ih => rw [List.map_cons, ih]; rfl
      rw [id1, id1] at z
      exact z
    have tu' : Tups fI H ps' (ps'.map fun p => intsV H (.ref p)) := tups_of fun p hp => by
      obtain ⟨r, _, e⟩ := tu.mem p (pp.mem_iff.mp hp)
      exact ⟨r, e⟩
    have pw : (ps'.map fun p => intsV H (.ref p)).Pairwise (fun x y => TS.code B x ≤ TS.code B y) := by
      have z : (out.map backV).Pairwise (fun x y => TS.code B (intsV H x) ≤ TS.code B (intsV H y)) := List.pairwise_map.mpr (h1.imp fun {x y} h => Int.not_lt.mp (of_decide_eq_false h))
      rw [eo] at z
      rw [List.pairwise_map] at z ⊢
      exact z
    rw [eo] at hlen
    refine ⟨.ref _, upd H (s.heap.objs.size + 1) (.lst (ps'.map V.ref)), I.laid (t' := s.toks) (fun _ _ => PyProof.Rows.sortedAll_old) (Nat.le_succ _) ⟨hlen, out, ep, ?_, he'⟩, rfl, q ps' _ _ tu' ?_ pw (I.hok.fresh (Nat.le_succ _))⟩
    · rw [← eo]
      exact vals_back fun u hu => by
        obtain ⟨p, e, _⟩ := h3 u hu
        exact ⟨p, e⟩
    · rw [tu.ints]
      exact pp.map _
/-- there is just one such list -/
theorem code_inj {B : Int} : ∀ {d : Nat} {x y : List Int}, x.length = d → y.length = d → TS.Bd B x → TS.Bd B y → TS.code B x = TS.code B y → x = y
  | _, [], [], _, _, _, _, _ => rfl
  | _, [], _ :: _, h1, h2, _, _, _ => by
    subst h1
    cases h2
  | _, _ :: _, [], h1, h2, _, _, _ => by
    subst h2
    cases h1
  | _, a :: x, b :: y, h1, h2, b1, b2, e => by
    have hl : x.length = y.length := by
      rw [List.length_cons] at h1 h2
      omega
    rcases Int.lt_trichotomy a b with z | z | z
    · have := TS.code_lt hl b1.tail b2.tail z
      omega
    · subst z
      have e' : TS.code B x = TS.code B y := by
        have n1 := (TS.code_same (B := B) (d := a) hl).symm
        have n2 := (TS.code_same (B := B) (d := a) hl.symm).symm
        have k1 : ¬ TS.code B x < TS.code B y := fun z => by
          have := n1.mp z
          omega
        have k2 : ¬ TS.code B y < TS.code B x := fun z => by
          have := n2.mp z
          omega
        omega
      rw [code_inj (d := x.length) rfl hl.symm b1.tail b2.tail e']
    · have := TS.code_lt hl.symm b2.tail b1.tail z
      omega
theorem sorted_uniq {B : Int} {d : Nat} : ∀ {l m : List (List Int)}, l.Perm m → (∀ r ∈ m, r.length = d ∧ TS.Bd B r) → l.Pairwise (fun x y => TS.code B x ≤ TS.code B y) → m.Pairwise (fun x y => TS.code B x ≤ TS.code B y) → l = m
  | [], m, p, _, _, _ => (List.nil_perm.mp p).symm
  | x :: l, [], p, _, _, _ => absurd p.length_eq (by simp)
  | x :: l, y :: m, p, hb, a, b => by
    have a' := List.pairwise_cons.mp a
    have b' := List.pairwise_cons.mp b
    have hx : x ∈ y :: m := p.mem_iff.mp List.mem_cons_self
    have hy : y ∈ x :: l := p.mem_iff.mpr List.mem_cons_self
    have e1 : TS.code B x ≤ TS.code B y := by
      rcases List.mem_cons.mp hy with e | h
      · rw [e]
        exact Int.le_refl _
      · exact a'.1 y h
    have e2 : TS.code B y ≤ TS.code B x := by
      rcases List.mem_cons.mp hx with e | h
      · rw [e]
        exact Int.le_refl _
      · exact b'.1 x h
    have e : x = y := code_inj (hb x hx).1 (hb y List.mem_cons_self).1 (hb x hx).2 (hb y List.mem_cons_self).2 (Int.le_antisymm e1 e2)
    subst e
    rw [sorted_uniq (List.Perm.cons_inv p) (fun r hr => hb r (List.mem_cons_of_mem _ hr)) a'.2 b'.2]
end My

/-! ### the mathematics of reach -/
namespace Rch
def ins (x : Int) : List Int → List Int
  | [] => [x]
  | y :: r => if x ≤ y then x :: y :: r else y :: ins x r
def isort : List Int → List Int
  | [] => []
  | x :: r => ins x (isort r)
theorem ins_perm (x : Int) : ∀ l : List Int, (ins x l).Perm (x :: l)
  | [] => .refl _
  | y :: r => by
    unfold ins
    split
    · exact .refl _
    · exact ((ins_perm x r).cons y).trans (.swap x y r)
theorem isort_perm : ∀ l : List Int, (isort l).Perm l
  | [] => .refl _
  | x :: r => (ins_perm x (isort r)).trans ((isort_perm r).cons x)
theorem ins_sorted (x : Int) : ∀ l : List Int, l.Pairwise (· ≤ ·) → (ins x l).Pairwise (· ≤ ·)
  | [], _ => List.pairwise_singleton _ _
  | y :: r, h => by
    unfold ins
    have h' := List.pairwise_cons.mp h
    split
    · next hx =>
      refine List.pairwise_cons.mpr ⟨fun z hz => ?_, h⟩
      rcases List.mem_cons.mp hz with e | hz
      · subst e
        exact hx
      · exact Int.le_trans hx (h'.1 z hz)
    · next hx =>
      refine List.pairwise_cons.mpr ⟨fun z hz => ?_, ins_sorted x r h'.2⟩
      rcases List.mem_cons.mp ((ins_perm x r).mem_iff.mp hz) with e | hz
      · subst e
        omega
      · exact h'.1 z hz
theorem isort_sorted : ∀ l : List Int, (isort l).Pairwise (· ≤ ·)
  | [] => .nil
  | x :: r => ins_sorted x _ (isort_sorted r)
theorem uniq : ∀ {l m : List Int}, l.Perm m → l.Pairwise (· ≤ ·) → m.Pairwise (· ≤ ·) → l = m
  | [], m, p, _, _ => (List.nil_perm.mp p).symm
  | x :: l, [], p, _, _ => absurd p.length_eq (by simp)
  | x :: l, y :: m, p, a, b => by
    have a' := List.pairwise_cons.mp a
    have b' := List.pairwise_cons.mp b
    have e : x = y := by
      have h1 : x ∈ y :: m := p.mem_iff.mp List.mem_cons_self
      have h2 : y ∈ x :: l := p.mem_iff.mpr List.mem_cons_self
      rcases List.mem_cons.mp h1 with e | h1
      · exact e
      · rcases List.mem_cons.mp h2 with e | h2
        · exact e.symm
        · exact Int.le_antisymm (a'.1 y h2) (b'.1 x h1)
    subst e
    rw [uniq (List.Perm.cons_inv p) a'.2 b'.2]
theorem isort_of {l m : List Int} (p : m.Perm l) (h : m.Pairwise (· ≤ ·)) : m = isort l := uniq (p.trans (isort_perm l).symm) h (isort_sorted l)
def greedy : Int → List Int → Int
  | T, [] => T
  | T, l :: r => if l > T + 1 then T else greedy (T + l) r
def reachOf (ns : List Int) : Int := greedy 0 (isort ns)
theorem greedy_ge : ∀ (ls : List Int) (T : Int), (∀ x ∈ ls, 0 ≤ x) → T ≤ greedy T ls
  | [], T, _ => Int.le_refl _
  | l :: r, T, h => by
    unfold greedy
    have h0 := h l List.mem_cons_self
    split
    · exact Int.le_refl _
    · have := greedy_ge r (T + l) fun x hx => h x (List.mem_cons_of_mem _ hx)
      omega
theorem greedy_le : ∀ (ls : List Int) (T : Int), (∀ x ∈ ls, 0 ≤ x ∧ x ≤ 40) → greedy T ls ≤ T + 40 * (ls.length : Int)
  | [], T, _ => by
    show T ≤ T + 40 * ((0 : Nat) : Int)
    omega
  | l :: r, T, h => by
    unfold greedy
    have h0 := h l List.mem_cons_self
    rw [List.length_cons]
    split
    · omega
    · have := greedy_le r (T + l) fun x hx => h x (List.mem_cons_of_mem _ hx)
      omega
def Good (ns : List Int) : Prop := 1 ≤ ns.length ∧ ns.length ≤ 8 ∧ ∀ n ∈ ns, 1 ≤ n ∧ n ≤ 40
theorem Good.perm {l m : List Int} (g : Good l) (p : m.Perm l) : Good m := ⟨by rw [p.length_eq]; exact g.1, by rw [p.length_eq]; exact g.2.1, fun n h => g.2.2 n (p.mem_iff.mp h)⟩
theorem isort_congr {l m : List Int} (p : m.Perm l) : isort m = isort l := uniq (((isort_perm m).trans p).trans (isort_perm l).symm) (isort_sorted m) (isort_sorted l)
theorem reach_perm {l m : List Int} (p : m.Perm l) : reachOf m = reachOf l := by
  unfold reachOf
  rw [isort_congr p]
theorem reach_bd {ns : List Int} (g : Good ns) : 0 ≤ reachOf ns ∧ reachOf ns ≤ 320 := by
  have g' := g.perm (isort_perm ns)
  have h1 := greedy_ge (isort ns) 0 fun x hx => by have := g'.2.2 x hx; omega
  have h2 := greedy_le (isort ns) 0 fun x hx => by have := g'.2.2 x hx; omega
  have h3 := g'.2.1
  refine ⟨h1, ?_⟩
  show greedy 0 (isort ns) ≤ 320
  omega
/-- n is a sum of some of ls, and of a number from 0 to T -/
def reps (T : Int) : List Int → Int → Prop
  | [], n => 0 ≤ n ∧ n ≤ T
  | l :: r, n => reps T r n ∨ reps T r (n - l)
theorem reps_perm {T : Int} {l m : List Int} (p : l.Perm m) : ∀ n, reps T l n ↔ reps T m n := by
  induction p with
  | nil => exact fun _ => Iff.rfl
  | cons x _ ih =>
    intro n
    show (reps T _ n ∨ reps T _ (n - x)) ↔ (reps T _ n ∨ reps T _ (n - x))
    rw [ih n, ih (n - x)]
  | swap x y r =>
    intro n
    show ((reps T r n ∨ reps T r (n - x)) ∨ (reps T r (n - y) ∨ reps T r (n - y - x))) ↔ ((reps T r n ∨ reps T r (n - y)) ∨ (reps T r (n - x) ∨ reps T r (n - x - y)))
    rw [show n - y - x = n - x - y by omega]
    constructor
    · rintro ((a | a) | (a | a))
      · exact .inl (.inl a)
      · exact .inr (.inl a)
      · exact .inl (.inr a)
      · exact .inr (.inr a)
    · rintro ((a | a) | (a | a))
      · exact .inl (.inl a)
      · exact .inr (.inl a)
      · exact .inl (.inr a)
      · exact .inr (.inr a)
  | trans _ _ h1 h2 => exact fun n => (h1 n).trans (h2 n)
theorem reps_up {T l : Int} (h0 : 0 ≤ T) (h1 : 1 ≤ l) (h2 : l ≤ T + 1) : ∀ (r : List Int) (n : Int), reps (T + l) r n ↔ reps T (l :: r) n
  | [], n => by
    show (0 ≤ n ∧ n ≤ T + l) ↔ ((0 ≤ n ∧ n ≤ T) ∨ (0 ≤ n - l ∧ n - l ≤ T))
    omega
  | x :: r, n => by
    show (reps (T + l) r n ∨ reps (T + l) r (n - x)) ↔ _
    rw [reps_up h0 h1 h2 r n, reps_up h0 h1 h2 r (n - x)]
    exact (reps_perm (.swap l x r) n)
theorem reps_low {T : Int} : ∀ (ls : List Int) (n : Int), 0 ≤ n → n ≤ T → reps T ls n
  | [], n, a, b => ⟨a, b⟩
  | _ :: r, n, a, b => .inl (reps_low r n a b)
theorem reps_nonneg {T : Int} : ∀ (ls : List Int) (n : Int), (∀ x ∈ ls, 0 ≤ x) → reps T ls n → 0 ≤ n
  | [], n, _, h => h.1
  | l :: r, n, hp, h => by
    have h0 := hp l List.mem_cons_self
    have hr : ∀ x ∈ r, 0 ≤ x := fun x hx => hp x (List.mem_cons_of_mem _ hx)
    rcases h with h | h
    · exact reps_nonneg r n hr h
    · have := reps_nonneg r _ hr h
      omega
theorem reps_not {T : Int} (h0 : 0 ≤ T) : ∀ (ls : List Int) (n : Int), (∀ x ∈ ls, T + 1 < x) → n ≤ T + 1 → reps T ls n → n ≤ T
  | [], n, _, _, h => h.2
  | l :: r, n, hp, hn, h => by
    have hl := hp l List.mem_cons_self
    have hr : ∀ x ∈ r, T + 1 < x := fun x hx => hp x (List.mem_cons_of_mem _ hx)
    rcases h with h | h
    · exact reps_not h0 r n hr hn h
    · have := reps_nonneg r _ (fun x hx => by have := hr x hx; omega) h
      omega
theorem greedy_is : ∀ (ls : List Int) (T : Int), 0 ≤ T → (∀ x ∈ ls, 1 ≤ x) → ls.Pairwise (· ≤ ·) → (∀ n, 0 ≤ n → n ≤ greedy T ls → reps T ls n) ∧ ¬ reps T ls (greedy T ls + 1)
  | [], T, h0, _, _ => ⟨fun n a b => ⟨a, b⟩, fun h => by
    have := h.2
    unfold greedy at this
    omega⟩
  | l :: r, T, h0, hp, hs => by
    have hl := hp l List.mem_cons_self
    have hr : ∀ x ∈ r, 1 ≤ x := fun x hx => hp x (List.mem_cons_of_mem _ hx)
    have hs' := List.pairwise_cons.mp hs
    unfold greedy
    by_cases hc : l > T + 1
    · rw [if_pos hc]
      refine ⟨fun n a b => reps_low _ n a b, fun h => ?_⟩
      have := reps_not h0 (l :: r) (T + 1) (fun x hx => by
        rcases List.mem_cons.mp hx with e | hx
        · omega
        · have := hs'.1 x hx
          omega) (Int.le_refl _) h
      omega
    · rw [if_neg hc]
      have ih := greedy_is r (T + l) (by omega) hr hs'.2
      have up := reps_up h0 hl (by omega : l ≤ T + 1) r
      exact ⟨fun n a b => (up n).mp (ih.1 n a b), fun h => ih.2 ((up _).mpr h)⟩
theorem reach_is {ns : List Int} (g : Good ns) : (∀ n, 0 ≤ n → n ≤ reachOf ns → reps 0 ns n) ∧ ¬ reps 0 ns (reachOf ns + 1) := by
  have g' := g.perm (isort_perm ns)
  have k := greedy_is (isort ns) 0 (Int.le_refl _) (fun x hx => (g'.2.2 x hx).1) (isort_sorted ns)
  exact ⟨fun n a b => (reps_perm (isort_perm ns) n).mp (k.1 n a b), fun h => k.2 ((reps_perm (isort_perm ns) _).mpr h)⟩
/-! ### sums as bits -/
def sumsF (S : Nat) : List Int → Nat
  | [] => S
  | l :: r => sumsF (S ||| S * 2 ^ l.toNat) r
theorem bits_step {S : Nat} {ls : List Int} {l : Int} (hl : 0 ≤ l) (hp : ∀ x ∈ ls, 0 ≤ x) (h : ∀ n : Nat, S.testBit n = true ↔ reps 0 ls (n : Int)) (n : Nat) : (S ||| S * 2 ^ l.toNat).testBit n = true ↔ reps 0 (l :: ls) (n : Int) := by
  rw [← Nat.shiftLeft_eq, Nat.testBit_or, Nat.testBit_shiftLeft, Bool.or_eq_true, Bool.and_eq_true, decide_eq_true_eq, h n, h (n - l.toNat)]
  show _ ↔ (reps 0 ls (n : Int) ∨ reps 0 ls ((n : Int) - l))
  constructor
  · rintro (a | ⟨a, b⟩)
    · exact .inl a
    · refine .inr ?_
      rw [show (n : Int) - l = ((n - l.toNat : Nat) : Int) by omega]
      exact b
  · rintro (a | a)
    · exact .inl a
    · have := reps_nonneg ls _ hp a
      refine .inr ⟨by omega, ?_⟩
      rw [show ((n - l.toNat : Nat) : Int) = (n : Int) - l by omega]
      exact a
theorem bits_all : ∀ (ls acc : List Int) (S : Nat), (∀ x ∈ ls, 0 ≤ x) → (∀ x ∈ acc, 0 ≤ x) → (∀ n : Nat, S.testBit n = true ↔ reps 0 acc (n : Int)) → ∀ n : Nat, (sumsF S ls).testBit n = true ↔ reps 0 (ls.reverse ++ acc) (n : Int)
  | [], acc, S, _, _, h => h
  | l :: r, acc, S, hl, ha, h => by
    intro n
    rw [List.reverse_cons, List.append_assoc]
    exact bits_all r (l :: acc) _ (fun x hx => hl x (List.mem_cons_of_mem _ hx)) (fun x hx => by
      rcases List.mem_cons.mp hx with e | hx
      · subst e
        exact hl x List.mem_cons_self
      · exact ha x hx) (bits_step (hl l List.mem_cons_self) ha h) n
theorem bit_one (n : Nat) : (1 : Nat).testBit n = true ↔ reps 0 [] (n : Int) := by
  show _ ↔ (0 ≤ (n : Int) ∧ (n : Int) ≤ 0)
  cases n with
  | zero => exact ⟨fun _ => ⟨by decide, by decide⟩, fun _ => by decide⟩
  | succ n =>
    rw [Nat.testBit_succ, show 1 / 2 = 0 from rfl, Nat.zero_testBit]
    exact ⟨fun h => absurd h Bool.false_ne_true, fun h => by omega⟩
theorem sums_is {ns : List Int} (g : Good ns) (n : Nat) : (sumsF 1 ns).testBit n = true ↔ reps 0 ns (n : Int) := by
  rw [bits_all ns [] 1 (fun x hx => by have := g.2.2 x hx; omega) (fun _ h => by simp at h) bit_one n, List.append_nil]
  exact reps_perm (List.reverse_perm ns) n
/-- sums // (1 << n) % 2 -/
theorem bit_of (S n : Nat) : (((S : Nat) : Int) / (1 * 2 ^ ((n : Int).toNat))).fmod 2 = if S.testBit n then 1 else 0 := by
  rw [Int.toNat_natCast, Int.one_mul, Int.fmod_eq_emod_of_nonneg _ (by decide), show ((2 : Int) ^ n) = ((2 ^ n : Nat) : Int) by simp, ← Int.natCast_ediv, show ((2 : Int)) = ((2 : Nat) : Int) from rfl, ← Int.natCast_emod, Nat.testBit_eq_decide_div_mod_eq]
  rcases Nat.mod_two_eq_zero_or_one (S / 2 ^ n) with e | e
  · rw [e]; rfl
  · rw [e]; rfl
end Rch

/-! ### the mathematics of tables -/
namespace Tb
def len1 (ls : List Int) (k : Int) : Int := ls.getD k.toNat 0
def rsum (ls : List Int) (r : List Int) : Int := (r.map (len1 ls)).sum
def InR (ls r : List Int) : Prop := ∀ k ∈ r, 0 ≤ k ∧ k < (ls.length : Int)
def Right (ls : List Int) (rs : List (List Int)) : Prop := Rch.Good ls ∧ 1 ≤ rs.length ∧ rs.length ≤ 60 ∧ ∀ (i : Nat) (r : List Int), rs[i]? = some r → InR ls r ∧ r.length ≤ 60 ∧ rsum ls r = (i : Int) + 1
theorem len_at {ls : List Int} {k : Int} (h0 : 0 ≤ k) (h1 : k < (ls.length : Int)) : ls[k.toNat]? = some (len1 ls k) := by
  have h : k.toNat < ls.length := by omega
  unfold len1
  rw [List.getD_eq_getElem?_getD, List.getElem?_eq_getElem h]
  rfl
theorem len_pos {ls : List Int} (g : Rch.Good ls) {k : Int} (h0 : 0 ≤ k) (h1 : k < (ls.length : Int)) : 1 ≤ len1 ls k ∧ len1 ls k ≤ 40 := g.2.2 _ (List.mem_of_getElem? (len_at h0 h1))
theorem rsum_cons (ls : List Int) (k : Int) (r : List Int) : rsum ls (k :: r) = len1 ls k + rsum ls r := by
  unfold rsum
  rw [List.map_cons, List.sum_cons]
theorem rsum_snoc (ls : List Int) (r : List Int) (k : Int) : rsum ls (r ++ [k]) = rsum ls r + len1 ls k := by
  unfold rsum
  rw [List.map_append, List.sum_append]
  simp
theorem rsum_len {ls : List Int} (g : Rch.Good ls) : ∀ {r : List Int}, InR ls r → (r.length : Int) ≤ rsum ls r
  | [], _ => by simp [rsum]
  | k :: r, h => by
    have h1 := h k List.mem_cons_self
    have := (len_pos g h1.1 h1.2).1
    have ih := rsum_len g (r := r) fun x hx => h x (List.mem_cons_of_mem _ hx)
    rw [rsum_cons, List.length_cons]
    omega
/-- when gone, into which loop -/
def go (ls : List Int) : Int → List Int → List (Int × Int)
  | _, [] => []
  | g, k :: r => (g, k) :: go ls (g + len1 ls k) r
theorem go_len (ls : List Int) : ∀ (r : List Int) (g : Int), (go ls g r).length = r.length
  | [], _ => rfl
  | k :: r, g => by
    show (go ls (g + len1 ls k) r).length + 1 = r.length + 1
    rw [go_len ls r]
theorem go_take (ls : List Int) : ∀ (r : List Int) (g : Int) (j : Nat), (go ls g r)[j]? = (r[j]?).map fun k => (g + rsum ls (r.take j), k)
  | [], g, j => by simp [go]
  | k :: r, g, 0 => by
    show some (g, k) = some (g + rsum ls [], k)
    simp [rsum]
  | k :: r, g, j + 1 => by
    show (go ls (g + len1 ls k) r)[j]? = (r[j]?).map fun x => (g + rsum ls (k :: r.take j), x)
    rw [go_take ls r, rsum_cons]
    congr 1
    funext x
    rw [Int.add_assoc]
theorem go_snd (ls : List Int) : ∀ (r : List Int) (g : Int), (go ls g r).map (·.2) = r
  | [], _ => rfl
  | k :: r, g => by
    show k :: (go ls (g + len1 ls k) r).map (·.2) = k :: r
    rw [go_snd ls r]
theorem go_rng {ls : List Int} (G : Rch.Good ls) : ∀ (r : List Int) (g : Int), InR ls r → ∀ p ∈ go ls g r, g ≤ p.1 ∧ p.1 < g + rsum ls r ∧ 0 ≤ p.2 ∧ p.2 < (ls.length : Int)
  | [], _, _, p, hp => absurd hp (by simp [go])
  | k :: r, g, h, p, hp => by
    have hk := h k List.mem_cons_self
    have l1 := (len_pos G hk.1 hk.2).1
    have hr : InR ls r := fun x hx => h x (List.mem_cons_of_mem _ hx)
    have n0 := rsum_len G hr
    rw [rsum_cons]
    rcases List.mem_cons.mp hp with e | hp
    · rw [e]
      show g ≤ g ∧ g < _ ∧ 0 ≤ k ∧ k < _
      omega
    · have := go_rng G r _ hr p hp
      omega
theorem go_up {ls : List Int} (G : Rch.Good ls) : ∀ (r : List Int) (g : Int), InR ls r → (go ls g r).Pairwise fun p q => p.1 < q.1
  | [], _, _ => .nil
  | k :: r, g, h => by
    have hk := h k List.mem_cons_self
    have l1 := (len_pos G hk.1 hk.2).1
    have hr : InR ls r := fun x hx => h x (List.mem_cons_of_mem _ hx)
    refine List.pairwise_cons.mpr ⟨fun q hq => ?_, go_up G r _ hr⟩
    have := go_rng G r _ hr q hq
    show g < q.1
    omega
/-- loop, gone, left -/
def ent (w : Int) (p : Int × Int) : List Int := [p.2, p.1, w - p.1]
def ents (ls : List Int) (w : Int) (r : List Int) : List (List Int) := (go ls 0 r).map (ent w)
def all (ls : List Int) (rs : List (List Int)) : Nat → List (List Int)
  | 0 => []
  | i + 1 => all ls rs i ++ ents ls ((i : Int) + 1) (rs.getD i [])
theorem ents_len (ls : List Int) (w : Int) (r : List Int) : (ents ls w r).length = r.length := by
  unfold ents
  rw [List.length_map, go_len]
theorem getD_row {rs : List (List Int)} {i : Nat} {r : List Int} (h : rs[i]? = some r) : rs.getD i [] = r := by
  rw [List.getD_eq_getElem?_getD, h]
  rfl
theorem all_wait {ls : List Int} {rs : List (List Int)} : ∀ (i : Nat) (e : List Int), e ∈ all ls rs i → ∃ k g w : Int, e = [k, g, w - g] ∧ 1 ≤ w ∧ w ≤ i
  | 0, e, h => absurd h (by simp [all])
  | i + 1, e, h => by
    rcases List.mem_append.mp h with h | h
    · obtain ⟨k, g, w, e1, h1, h2⟩ := all_wait i e h
      exact ⟨k, g, w, e1, h1, by omega⟩
    · obtain ⟨p, _, rfl⟩ := List.mem_map.mp h
      exact ⟨p.2, p.1, (i : Int) + 1, rfl, by omega, by omega⟩
/-- each new one is new -/
theorem new_one {ls : List Int} {rs : List (List Int)} {r : List Int} (G : Rch.Good ls) (hr : InR ls r) {i j : Nat} {p : Int × Int} (hj : (go ls 0 r)[j]? = some p) : ent ((i : Int) + 1) p ∉ all ls rs i ++ ((go ls 0 r).take j).map (ent ((i : Int) + 1)) := by
  intro h
  rcases List.mem_append.mp h with h | h
  · obtain ⟨k, g, w, e, h1, h2⟩ := all_wait i _ h
    unfold ent at e
    have e1 : p.1 = g := by
      have := congrArg (fun z : List Int => z.getD 1 0) e
      exact this
    have e2 : (i : Int) + 1 - p.1 = w - g := by
      have := congrArg (fun z : List Int => z.getD 2 0) e
      exact this
    omega
  · obtain ⟨q, hq, e⟩ := List.mem_map.mp h
    have e1 : q.1 = p.1 := by
      have := congrArg (fun z : List Int => z.getD 1 0) e
      exact this
    obtain ⟨m, hm⟩ := List.mem_iff_getElem?.mp hq
    rw [List.getElem?_take] at hm
    split at hm
    · next hlt =>
      have pw := List.pairwise_iff_getElem.mp (go_up G r 0 hr)
      obtain ⟨hm', em⟩ := List.getElem?_eq_some_iff.mp hm
      obtain ⟨hj', ej⟩ := List.getElem?_eq_some_iff.mp hj
      have := pw m j hm' hj' hlt
      rw [em, ej] at this
      omega
    · cases hm
theorem ents_bd {ls : List Int} {r : List Int} {w : Int} (G : Rch.Good ls) (hr : InR ls r) (hw : rsum ls r = w) (h60 : w ≤ 60) : ∀ e ∈ ents ls w r, e.length = 3 ∧ TS.Bd 1000 e := by
  intro e he
  obtain ⟨p, hp, rfl⟩ := List.mem_map.mp he
  have h := go_rng G r 0 hr p hp
  have g1 := G.2.1
  refine ⟨rfl, fun m hm => ?_⟩
  unfold ent at hm
  simp only [List.mem_cons, List.not_mem_nil, or_false] at hm
  rcases hm with e | e | e <;> subst e <;> omega
theorem all_bd {ls : List Int} {rs : List (List Int)} (R : Right ls rs) : ∀ i, i ≤ rs.length → ∀ e ∈ all ls rs i, e.length = 3 ∧ TS.Bd 1000 e
  | 0, _, e, he => absurd he (by simp [all])
  | i + 1, hi, e, he => by
    rcases List.mem_append.mp he with he | he
    · exact all_bd R i (by omega) e he
    · have hr : rs[i]? = some rs[i] := List.getElem?_eq_getElem (by omega)
      rw [getD_row hr] at he
      obtain ⟨a, b, c⟩ := R.2.2.2 i _ hr
      have := R.2.2.1
      exact ents_bd R.1 a c (by omega) e he
theorem all_len {ls : List Int} {rs : List (List Int)} (R : Right ls rs) : ∀ i, i ≤ rs.length → (all ls rs i).length ≤ 60 * i
  | 0, _ => Nat.le_refl _
  | i + 1, hi => by
    have ih := all_len R i (by omega)
    have hr : rs[i]? = some rs[i] := List.getElem?_eq_getElem (by omega)
    obtain ⟨a, b, c⟩ := R.2.2.2 i _ hr
    show (all ls rs i ++ ents ls ((i : Int) + 1) (rs.getD i [])).length ≤ _
    rw [List.length_append, ents_len, getD_row hr]
    omega
/-- the entries of one wait, when gone ahead -/
def ofWait (w : Int) (e : List Int) : Bool := (e.getD 1 0 + e.getD 2 0) == w
def swap (e : List Int) : List Int := [e.getD 1 0, e.getD 0 0]
def sel (w : Int) (es : List (List Int)) : List (List Int) := (es.filter (ofWait w)).map swap
theorem sel_append (w : Int) (a b : List (List Int)) : sel w (a ++ b) = sel w a ++ sel w b := by
  unfold sel
  rw [List.filter_append, List.map_append]
def gl (ls r : List Int) : List (List Int) := (go ls 0 r).map fun p => [p.1, p.2]
theorem sel_yes (ls : List Int) (w : Int) (r : List Int) : sel w (ents ls w r) = gl ls r := by
  unfold sel ents gl
  rw [List.filter_eq_self.mpr, List.map_map]
  · rfl
  · intro e he
    obtain ⟨p, _, rfl⟩ := List.mem_map.mp he
    show ((p.1 + (w - p.1)) == w) = true
    rw [beq_iff_eq]
    omega
theorem sel_no {ls : List Int} {w v : Int} (r : List Int) (h : v ≠ w) : sel w (ents ls v r) = [] := by
  unfold sel ents
  rw [List.filter_eq_nil_iff.mpr, List.map_nil]
  intro e he
  obtain ⟨p, _, rfl⟩ := List.mem_map.mp he
  show ¬ ((p.1 + (v - p.1)) == w) = true
  rw [beq_iff_eq]
  omega
theorem sel_all {ls : List Int} {rs : List (List Int)} (m : Nat) : ∀ i, sel ((m : Int) + 1) (all ls rs i) = if m < i then gl ls (rs.getD m []) else []
  | 0 => by
    rw [if_neg (by omega)]
    rfl
  | i + 1 => by
    show sel _ (all ls rs i ++ ents ls ((i : Int) + 1) (rs.getD i [])) = _
    rw [sel_append, sel_all m i]
    by_cases h : m < i
    · rw [if_pos h, if_pos (by omega), sel_no _ (by omega), List.append_nil]
    · rw [if_neg h, List.nil_append]
      by_cases h2 : m = i
      · subst h2
        rw [if_pos (by omega), sel_yes]
      · rw [if_neg (by omega), sel_no _ (by omega)]
theorem gl_bd {ls : List Int} {r : List Int} (G : Rch.Good ls) (hr : InR ls r) (h60 : rsum ls r ≤ 60) : ∀ e ∈ gl ls r, e.length = 2 ∧ TS.Bd 1000 e := by
  intro e he
  obtain ⟨p, hp, rfl⟩ := List.mem_map.mp he
  have h := go_rng G r 0 hr p hp
  have g1 := G.2.1
  refine ⟨rfl, fun m hm => ?_⟩
  simp only [List.mem_cons, List.not_mem_nil, or_false] at hm
  rcases hm with e | e <;> subst e <;> omega
theorem gl_sorted {ls : List Int} {r : List Int} (G : Rch.Good ls) (hr : InR ls r) (h60 : rsum ls r ≤ 60) : (gl ls r).Pairwise fun x y => TS.code 1000 x ≤ TS.code 1000 y := by
  unfold gl
  rw [List.pairwise_map]
  refine (List.pairwise_iff_getElem.mpr fun i j hi hj hij => ?_)
  have pw := List.pairwise_iff_getElem.mp (go_up G r 0 hr) i j hi hj hij
  have b1 := go_rng G r 0 hr _ (List.getElem_mem hi)
  have b2 := go_rng G r 0 hr _ (List.getElem_mem hj)
  have g1 := G.2.1
  show (go ls 0 r)[i].1 * 1000 ^ 1 + ((go ls 0 r)[i].2 * 1000 ^ 0 + 0) ≤ (go ls 0 r)[j].1 * 1000 ^ 1 + ((go ls 0 r)[j].2 * 1000 ^ 0 + 0)
  omega
theorem sel_perm {w : Int} {a b : List (List Int)} (p : a.Perm b) : (sel w a).Perm (sel w b) := (p.filter _).map _
theorem gl_snd (ls r : List Int) : (gl ls r).map (fun e => e.getD 1 0) = r := by
  unfold gl
  rw [List.map_map]
  exact go_snd ls r 0
end Tb

/-! ### the mathematics of the line -/
namespace Ln
/-- tick, turn, wait -/
abbrev Let := Int × Int × Option Int
def step (b τ u : Int) (s : List Let × Int) : List Let × Int := if s.2 > b then (s.1 ++ [(τ, u, none)], s.2) else (s.1 ++ [(τ, u, some s.2)], s.2 + 1)
def turns (b τ : Int) : Nat → List Let × Int → List Let × Int
  | 0, s => s
  | k + 1, s => step b τ (1 + (k : Int)) (turns b τ k s)
def close (c : Int) : Int := if c > 0 then c - 1 else c
def pre (b : Int) (cs : List Int) : Nat → List Let × Int
  | 0 => ([], 0)
  | i + 1 => ((turns b (i : Int) (cs.getD i 0).toNat (pre b cs i)).1, close (turns b (i : Int) (cs.getD i 0).toNat (pre b cs i)).2)
def letts (b : Int) (cs : List Int) : List Let := (pre b cs cs.length).1
def behind (b : Int) (cs : List Int) : Nat → List Int
  | 0 => []
  | i + 1 => behind b cs i ++ [(pre b cs (i + 1)).2]
theorem step_len (b τ u : Int) (s : List Let × Int) : (step b τ u s).1.length = s.1.length + 1 := by
  unfold step
  split <;> simp
theorem turns_len (b τ : Int) : ∀ (k : Nat) (s : List Let × Int), (turns b τ k s).1.length = s.1.length + k
  | 0, _ => rfl
  | k + 1, s => by
    unfold turns
    rw [step_len, turns_len b τ k s, Nat.add_assoc]
theorem turns_rng {b τ : Int} : ∀ (k : Nat) (s : List Let × Int), 0 ≤ s.2 → s.2 ≤ b + 1 → 0 ≤ (turns b τ k s).2 ∧ (turns b τ k s).2 ≤ b + 1
  | 0, s, h0, h1 => ⟨h0, h1⟩
  | k + 1, s, h0, h1 => by
    have ih := turns_rng (τ := τ) k s h0 h1
    unfold turns step
    split
    · exact ih
    · show 0 ≤ (turns b τ k s).2 + 1 ∧ (turns b τ k s).2 + 1 ≤ b + 1
      omega
theorem close_rng {b c : Int} (hb : 0 ≤ b) (h0 : 0 ≤ c) (h1 : c ≤ b + 1) : 0 ≤ close c ∧ close c ≤ b := by
  unfold close
  split <;> omega
theorem pre_rng {b : Int} (hb : 0 ≤ b) (cs : List Int) : ∀ i, 0 ≤ (pre b cs i).2 ∧ (pre b cs i).2 ≤ b
  | 0 => ⟨Int.le_refl _, hb⟩
  | i + 1 => by
    have ih := pre_rng hb cs i
    have t := turns_rng (b := b) (τ := (i : Int)) (cs.getD i 0).toNat (pre b cs i) ih.1 (by omega)
    unfold pre
    exact close_rng hb t.1 t.2
theorem pre_len {b : Int} {cs : List Int} (hc : ∀ c ∈ cs, c ≤ 4) : ∀ i, (pre b cs i).1.length ≤ 4 * i
  | 0 => Nat.le_refl _
  | i + 1 => by
    have ih := pre_len (b := b) hc i
    unfold pre
    rw [turns_len]
    have : cs.getD i 0 ≤ 4 := by
      rw [List.getD_eq_getElem?_getD]
      cases h : cs[i]? with
      | none => decide
      | some c => exact hc c (List.mem_of_getElem? h)
    omega
theorem behind_len (b : Int) (cs : List Int) : ∀ i, (behind b cs i).length = i
  | 0 => rfl
  | i + 1 => by
    unfold behind
    rw [List.length_append, behind_len b cs i]
    rfl
theorem getD_of {cs : List Int} {i : Nat} {c : Int} (h : cs[i]? = some c) : cs.getD i 0 = c := by
  rw [List.getD_eq_getElem?_getD, h]
  rfl
/-! pairs of who goes out when -/
def one (l : Let) (n : Int) : List (Int × Int) := match l.2.2 with
  | none => []
  | some w => [(l.1 + w, n)]
def outsFrom : Int → List Let → List (Int × Int)
  | _, [] => []
  | n, l :: r => one l n ++ outsFrom (n + 1) r
theorem outs_snoc : ∀ (L : List Let) (n : Int) (l : Let), outsFrom n (L ++ [l]) = outsFrom n L ++ one l (n + (L.length : Int))
  | [], n, l => by
    show one l n ++ [] = [] ++ one l (n + ((0 : Nat) : Int))
    rw [List.append_nil, List.nil_append]
    congr 1
    omega
  | x :: L, n, l => by
    show one x n ++ outsFrom (n + 1) (L ++ [l]) = (one x n ++ outsFrom (n + 1) L) ++ one l _
    rw [outs_snoc L (n + 1) l, List.append_assoc]
    congr 3
    rw [List.length_cons]
    omega
theorem one_len (l : Let) (n : Int) : (one l n).length ≤ 1 := by
  unfold one
  split <;> simp
theorem outs_len : ∀ (L : List Let) (n : Int), (outsFrom n L).length ≤ L.length
  | [], _ => Nat.le_refl _
  | l :: r, n => by
    show (one l n ++ outsFrom (n + 1) r).length ≤ r.length + 1
    have := outs_len r (n + 1)
    have := one_len l n
    rw [List.length_append]
    omega
def qp : Int → List Int → List (Int × Int)
  | _, [] => []
  | τ, n :: r => (τ, n) :: qp (τ + 1) r
theorem qp_snoc : ∀ (q : List Int) (τ n : Int), qp τ (q ++ [n]) = qp τ q ++ [(τ + (q.length : Int), n)]
  | [], τ, n => by
    show [(τ, n)] = [(τ + ((0 : Nat) : Int), n)]
    rw [show τ + ((0 : Nat) : Int) = τ by omega]
  | x :: q, τ, n => by
    show (τ, x) :: qp (τ + 1) (q ++ [n]) = (τ, x) :: (qp (τ + 1) q ++ [_])
    rw [qp_snoc q (τ + 1) n, List.length_cons]
    congr 4
    omega
/-- a queue of the law's own line, by the letters that came -/
def Led (τ : Int) (s : List Let × Int) (q : List Int) (prs : List (Int × Int)) : Prop := (q.length : Int) = s.2 ∧ prs ++ qp τ q = outsFrom 0 s.1
theorem Led.no {b τ u : Int} {s : List Let × Int} {q : List Int} {prs} (h : Led τ s q prs) (hb : s.2 > b) : Led τ (step b τ u s) q prs ∧ step b τ u s = (s.1 ++ [(τ, u, none)], s.2) := by
  have e : step b τ u s = (s.1 ++ [(τ, u, none)], s.2) := by
    unfold step
    rw [if_pos hb]
  refine ⟨?_, e⟩
  rw [e]
  refine ⟨h.1, ?_⟩
  rw [outs_snoc, ← h.2]
  show _ = _ ++ []
  rw [List.append_nil]
theorem Led.yes {b τ u : Int} {s : List Let × Int} {q : List Int} {prs} (h : Led τ s q prs) (hb : ¬ s.2 > b) : Led τ (step b τ u s) (q ++ [(s.1.length : Int)]) prs ∧ step b τ u s = (s.1 ++ [(τ, u, some s.2)], s.2 + 1) := by
  have e : step b τ u s = (s.1 ++ [(τ, u, some s.2)], s.2 + 1) := by
    unfold step
    rw [if_neg hb]
  refine ⟨?_, e⟩
  rw [e]
  refine ⟨?_, ?_⟩
  · rw [List.length_append]
    show ((q.length + 1 : Nat) : Int) = s.2 + 1
    have := h.1
    omega
  · show _ = outsFrom 0 (s.1 ++ [(τ, u, some s.2)])
    rw [outs_snoc, ← h.2, qp_snoc, ← List.append_assoc, h.1]
    show _ = _ ++ [(τ + s.2, (0 : Int) + (s.1.length : Int))]
    rw [Int.zero_add]
/-- each one goes out in its time -/
def Due (τ : Int) (L : List Let) (q : List Int) (prs : List (Int × Int)) : Prop := prs ++ qp τ q = outsFrom 0 L
theorem Due.pop {τ : Int} {L : List Let} {x : Int} {q : List Int} {prs} (h : Due τ L (x :: q) prs) : Due (τ + 1) L q (prs ++ [(τ, x)]) := by
  unfold Due at *
  rw [← h, List.append_assoc]
  rfl
theorem Due.nil {τ τ' : Int} {L : List Let} {prs} (h : Due τ L [] prs) : Due τ' L [] prs := h
theorem ticks_turns (b τ : Int) : ∀ (k : Nat) (s : List Let × Int), (turns b τ k s).1.map (·.1) = s.1.map (·.1) ++ List.replicate k τ
  | 0, s => by simp [turns]
  | k + 1, s => by
    have ih := ticks_turns b τ k s
    have e : (step b τ (1 + (k : Int)) (turns b τ k s)).1.map (·.1) = (turns b τ k s).1.map (·.1) ++ [τ] := by
      unfold step
      split <;> simp
    unfold turns
    rw [e, ih, List.append_assoc, List.replicate_succ']
def ticksOf (cs : List Int) : Nat → List Int
  | 0 => []
  | i + 1 => ticksOf cs i ++ List.replicate (cs.getD i 0).toNat (i : Int)
theorem ticks_are (b : Int) (cs : List Int) : ∀ i, (pre b cs i).1.map (·.1) = ticksOf cs i
  | 0 => rfl
  | i + 1 => by
    show (turns b (i : Int) (cs.getD i 0).toNat (pre b cs i)).1.map (·.1) = ticksOf cs i ++ _
    rw [ticks_turns, ticks_are b cs i]
theorem ticks_len {cs : List Int} (hc : ∀ c ∈ cs, c ≤ 4) (i : Nat) : (ticksOf cs i).length ≤ 4 * i := by
  rw [← ticks_are 0 cs i, List.length_map]
  exact pre_len hc i
theorem getD_past {cs : List Int} {i : Nat} (h : cs.length ≤ i) : cs.getD i 0 = 0 := by
  rw [List.getD_eq_getElem?_getD, List.getElem?_eq_none h]
  rfl
theorem pre_past {b : Int} (hb : 0 ≤ b) (cs : List Int) : ∀ d : Nat, (pre b cs (cs.length + d)).1 = letts b cs ∧ ((pre b cs (cs.length + d)).2 ≤ b - d ∨ (pre b cs (cs.length + d)).2 ≤ 0)
  | 0 => ⟨rfl, .inl (by
    have := (pre_rng hb cs cs.length).2
    show (pre b cs cs.length).2 ≤ b - ((0 : Nat) : Int)
    omega)⟩
  | d + 1 => by
    have ih := pre_past hb cs d
    have e : turns b ((cs.length + d : Nat) : Int) (cs.getD (cs.length + d) 0).toNat (pre b cs (cs.length + d)) = pre b cs (cs.length + d) := by
      rw [getD_past (by omega)]
      rfl
    have e1 : (pre b cs (cs.length + (d + 1))).1 = (turns b ((cs.length + d : Nat) : Int) (cs.getD (cs.length + d) 0).toNat (pre b cs (cs.length + d))).1 := rfl
    have e2 : (pre b cs (cs.length + (d + 1))).2 = close (turns b ((cs.length + d : Nat) : Int) (cs.getD (cs.length + d) 0).toNat (pre b cs (cs.length + d))).2 := rfl
    rw [e] at e1 e2
    refine ⟨e1.trans ih.1, ?_⟩
    rw [e2]
    unfold close
    have := ih.2
    split <;> omega
end Ln

/-! ## sum(t), t a tuple of ints -/
namespace My
open PySem PySem.Spec PyProof.Rows L2
section
variable {prog : Program} {w : World} {A : Around} {E : Value → Shared → Prop} {s : Shared} {l : Addr} {xs : Array (Int × Tok)}
theorem sum_tupG {Q : Value → Shared → Prop} (hh : A.handled = none) (hl : s.heap.IsTuple l (intItems xs))
    (h : ∀ h' tk t', (∀ b o, s.heap.get? b = some o → h'.get? b = some o) → Q (.int (preSum (numAt xs) xs.size) t') { s with heap := h', toks := tk }) :
    wpAny (model prog w) A (call (.builtin "sum") [.ref l]) Q E s := by
  have hll : l < s.heap.objs.size := by obtain ⟨_, q, _⟩ := hl; exact Heap.lt_size q
  refine call_sum_walkG (wpAny_pyIter_tuple hl ?_)
  refine ⟨_, _, _, _, _, _, numAt xs, rfl, Walks.tuple (A := A.in1) hh s.heap.objs.size l (Nat.ne_of_lt hll) (intItems xs), ⟨⟨_, Heap.get?_push_size _ rfl, rfl, rfl⟩, hl.push _⟩, fun b hb => ?_, (fun _ _ => intItems_at), fun h' tk t' hk => ?_⟩
  · show b < (s.heap.push _).objs.size
    rw [Heap.size_push]
    rcases List.mem_cons.mp hb with rfl | hb
    · exact Nat.lt_succ_self _
    · rw [List.mem_singleton.mp hb]
      exact Nat.lt_succ_of_lt hll
  · have := h h' tk t' fun b o e => hk b o (fun hm => by
      rw [List.mem_singleton.mp hm] at e
      exact absurd (Heap.lt_size e) (Nat.lt_irrefl _)) (Heap.get?_push_of_some _ e)
    simpa [intItems] using this
end
def rSumT (K : PySem.W.Frag) : List V → Hp → VK → Prop := fun vs H Q => ∃ (a : Addr) (ns : List Int), vs = [V.ref a] ∧ SqT K H a (ns.map V.int) ∧ Q (.int ns.sum) H
theorem cr_sumT {X : Cx} (hc : X.calm = true) : CallR X (.builtin "sum") (rSumT X.K) := by
  intro pins s σ H vs us Q I r h
  obtain ⟨a, ns, rfl, hs, q⟩ := h
  obtain ⟨its, rv, hl, _⟩ := I.tuple hs
  rw [Vals.ref1 r]
  have hi := rv.ints
  obtain ⟨xs, e⟩ := hi.allInts.items
  have hn : numsOf (intItems xs).toList = ns := by rw [← e]; exact hi.numsOf
  rw [nums_intItems] at hn
  have hl' : s.heap.IsTuple a (intItems xs) := by
    rw [← e]
    exact hl
  refine sum_tupG (I.ok.hd hc) hl' fun h' tk t' hk => ?_
  rw [preSum_eq, List.take_of_length_le (by simp), hn]
  exact ⟨.int _, H, I.kept hk, ⟨_, rfl⟩, q⟩
/-! ### t + u, both tracked, t not empty -/
def rCatP : R2 := fun x y H Q => ∃ a b xs ys, x = .ref a ∧ y = .ref b ∧ H a = some (.tup xs) ∧ H b = some (.tup ys) ∧ xs ≠ [] ∧ xs.length + ys.length ≤ sizeLine ∧ ∀ p H', Same H H' → H' p = some (.tup (xs ++ ys)) → Q (.ref p) H'
theorem op_catP {X : Cx} : OpR X (binaryOp .Add) rCatP := by
  intro pins s σ H x y v u Q I rx ry h
  obtain ⟨a, b, xs, ys, rfl, rfl, ha, hb, hne, hz, q⟩ := h
  refine op_catA pins s σ H _ _ v u Q I rx ry ⟨a, b, xs, ys, rfl, rfl, SqT.of ha, SqT.of hb, hz, fun e => absurd e hne, fun _ e => ?_, fun _ _ p np => ?_⟩
  · subst e
    refine q a H (fun _ _ h => h) ?_
    rw [List.append_nil]
    exact ha
  · exact q p _ (same_upd np) upd_same
/-! ### xs[i] read where it is changed -/
theorem pgetL {X : Cx} : PGet X (rIxL X.K) := by
  intro pins s σ H o i ov iv Q I r1 r2 h
  obtain ⟨p, xs, k, z, rfl, rfl, hq, he, q⟩ := h
  cases r1
  obtain ⟨t, rfl⟩ := r2
  obtain ⟨its, r, pl, hz⟩ := I.list hq
  obtain ⟨j, h1, h2, h3, h4, h5⟩ := atI_get he
  obtain ⟨w, ew, rw'⟩ := r.get h2
  have hl := r.length
  have hn := line63
  have fin : EP X pins σ Q w s := ⟨z, H, I, rw', q⟩
  by_cases h0 : 0 ≤ k
  · have hj : k.toNat = j := by
      rw [PySem.seqIndex_of h0 h5] at h1
      exact Option.some.inj h1
    exact wpAny_getItem_list pl.isList h0 (by omega) (by rw [hj]; simpa using ew) fin
  · have hj : (k + (its.toArray.size : Int)).toNat = j := by
      rw [PySem.seqIndex_neg (by omega) h4] at h1
      rw [List.size_toArray, ← hl]
      exact Option.some.inj h1
    exact wpAny_mono (wpAny_getItem_list_neg (Q := fun r s' => r = w ∧ EP X pins σ Q r s') pl.isList (by omega) (by rw [List.size_toArray] <;> omega) (by omega) (by rw [hj]; simpa using ew) ⟨rfl, fin⟩) (fun _ _ h => h.2) fun _ _ h => h
/-! ### zip of two lists, the second one not longer -/
theorem for_zipS {K : PySem.W.Frag} {a b : Addr} {xs ys : List V} {g : TG} {tb : TS} {D : Ends} {σ : L2.St} {H : Hp} (hl : ys.length ≤ xs.length) (Pv : Nat → L2.St → Hp → Prop) (h0 : Pv 0 σ H) (hq : ∀ i σ H, Pv i σ H → SqL K H a xs ∧ SqL K H b ys)
    (hs : ∀ (i : Nat) (x y : V) (T : Addr) (σ : L2.St) (H : Hp), xs[i]? = some x → ys[i]? = some y → Pv i σ H → H T = none → g (.ref T) σ (upd H T (.tup [x, y])) fun σ2 H2 => tb { D with nx := Pv (i + 1), ct := Pv (i + 1), bk := D.nx } σ2 H2) (hd : ∀ σ H, Pv ys.length σ H → D.nx σ H) :
    ∃ W : Nat → Nat → L2.St → Hp → Prop, (∃ m, W 0 m σ H) ∧ ∀ i m σ H, W i m σ H →
      ((Itz K a b).stop i H ∧ D.nx σ H) ∨ ((Itz K a b).go i H ∧ ∃ N : L2.St → Hp → Prop, (∀ σ' H', N σ' H' → ∃ m', m' < m ∧ W (i + 1) m' σ' H') ∧ ∀ v H', (Itz K a b).yld i H v H' → g v σ H' fun σ2 H2 => tb { D with nx := N, ct := N, bk := D.nx } σ2 H2) := by
  refine ⟨fun i m σ H => m = ys.length - i ∧ i ≤ ys.length ∧ Pv i σ H, ⟨ys.length, rfl, Nat.zero_le _, h0⟩, ?_⟩
  rintro i m σ H ⟨rfl, hi, p⟩
  obtain ⟨qx, qy⟩ := hq i σ H p
  by_cases h : i < ys.length
  · have hx : xs[i]? = some xs[i] := List.getElem?_eq_getElem (by omega)
    have hy : ys[i]? = some ys[i] := List.getElem?_eq_getElem h
    refine .inr ⟨⟨xs, ys, _, _, qx, qy, hx, hy⟩, Pv (i + 1), fun σ' H' n => ⟨ys.length - (i + 1), by omega, rfl, by omega, n⟩, ?_⟩
    rintro v H' ⟨T, x, y, rfl, nT, rfl, ex, ey⟩
    exact hs i x y T σ H (ex xs qx) (ey ys qy) p nT
  · have e : i = ys.length := by omega
    subst e
    exact .inl ⟨⟨xs, ys, qx, qy, .inr (Nat.le_refl _)⟩, hd σ H p⟩
/-! ### what stays while the tape moves -/
theorem Moved.sq {K : PySem.W.Frag} {t s : Addr} {H H' : Hp} {a : Addr} {xs : List V} (mv : Moved t H H') (tp : Tape H t s) (h : SqT K H a xs) : SqT K H' a xs := by
  obtain ⟨_, _, _, _, _, _, e2, _⟩ := tp
  rcases h with (h | ⟨o, h⟩) | h
  · exact .inl (.inl (mv _ _ (fun z => by rw [z, e2] at h; cases h) h))
  · exact .inl (.inr ⟨o, mv _ _ (fun z => by rw [z, e2] at h; cases h) h⟩)
  · exact .inr h
theorem Moved.tups {α : Type} {f : α → List V} {t s : Addr} {H H' : Hp} {ps : List Addr} {xs : List α} (mv : Moved t H H') (tp : Tape H t s) (h : Tups f H ps xs) : Tups f H' ps xs := h.keep fun b ys e => by
  obtain ⟨_, _, _, _, _, _, e2, _⟩ := tp
  exact mv _ _ (fun z => by rw [z, e2] at e; cases e) e
end My

namespace Db
open Rch
/-! doubling loops -/
def chB : Int → List Int → Bool
  | _, [] => true
  | p, l :: r => decide (l ≤ 2 * p) && chB l r
def isD : List Int → Bool
  | [] => false
  | x :: r => decide (x = 1) && chB x r
def dbl (ns : List Int) : Bool := isD (isort ns)
theorem dbl_perm {l m : List Int} (p : m.Perm l) : dbl m = dbl l := by
  unfold dbl
  rw [isort_congr p]
def lst : Int → List Int → Int
  | p, [] => p
  | _, l :: r => lst l r
theorem chB_snoc : ∀ (r : List Int) (p l : Int), chB p (r ++ [l]) = (chB p r && decide (l ≤ 2 * lst p r))
  | [], p, l => by
    show (decide (l ≤ 2 * p) && true) = (true && decide (l ≤ 2 * p))
    rw [Bool.and_true, Bool.true_and]
  | x :: r, p, l => by
    show (decide (x ≤ 2 * p) && chB x (r ++ [l])) = (decide (x ≤ 2 * p) && chB x r && decide (l ≤ 2 * lst x r))
    rw [chB_snoc r x l, Bool.and_assoc]
theorem lst_ge : ∀ (r : List Int) (p : Int), (p :: r).Pairwise (· ≤ ·) → ∀ x ∈ p :: r, x ≤ lst p r
  | [], p, _, x, hx => by
    rw [List.mem_singleton.mp hx]
    exact Int.le_refl _
  | l :: r, p, h, x, hx => by
    have h' := List.pairwise_cons.mp h
    rcases List.mem_cons.mp hx with e | hx
    · subst e
      exact Int.le_trans (h'.1 l List.mem_cons_self) (lst_ge r l h'.2 l List.mem_cons_self)
    · exact lst_ge r l h'.2 x hx
theorem lst_mem : ∀ (r : List Int) (p : Int), lst p r ∈ p :: r
  | [], p => List.mem_cons_self
  | l :: r, p => List.mem_cons_of_mem _ (lst_mem r l)
theorem isD_snoc {row : List Int} {l m : Int} (so : row.Pairwise (· ≤ ·)) (d : isD row = true) (hm : m ∈ row) (hl : l ≤ 2 * m) : isD (row ++ [l]) = true := by
  cases row with
  | nil => cases d
  | cons x r =>
    have e : isD (x :: r) = (decide (x = 1) && chB x r) := rfl
    rw [e, Bool.and_eq_true] at d
    show (decide (x = 1) && chB x (r ++ [l])) = true
    rw [chB_snoc, d.1, d.2]
    have := lst_ge r x so m hm
    rw [decide_eq_true (by omega)]
    rfl
theorem greedy_ch : ∀ (r : List Int) (p T : Int), chB p r = true → 2 * p ≤ T + 1 → greedy T r = T + r.sum
  | [], p, T, _, _ => by
    show T = T + 0
    omega
  | l :: r, p, T, h, hp => by
    have h2 : (decide (l ≤ 2 * p) && chB l r) = true := h
    rw [Bool.and_eq_true] at h2
    have h3 := of_decide_eq_true h2.1
    unfold greedy
    rw [if_neg (by omega), greedy_ch r l (T + l) h2.2 (by omega), List.sum_cons]
    omega
theorem perm_sum {l m : List Int} (p : l.Perm m) : l.sum = m.sum := by
  induction p with
  | nil => rfl
  | cons x _ ih => rw [List.sum_cons, List.sum_cons, ih]
  | swap x y r =>
    simp only [List.sum_cons]
    omega
  | trans _ _ h1 h2 => exact h1.trans h2
theorem reach_dbl {ns : List Int} (d : dbl ns = true) : reachOf ns = ns.sum := by
  unfold reachOf
  rw [← perm_sum (isort_perm ns)]
  unfold dbl at d
  cases hs : isort ns with
  | nil => rfl
  | cons x r =>
    rw [hs] at d
    have e : isD (x :: r) = (decide (x = 1) && chB x r) := rfl
    rw [e, Bool.and_eq_true] at d
    have h1 := of_decide_eq_true d.1
    subst h1
    show (if (1 : Int) > 0 + 1 then (0 : Int) else greedy (0 + 1) r) = _
    rw [if_neg (by decide), greedy_ch r 1 (0 + 1) d.2 (by decide), List.sum_cons]
    omega
/-- the list of answers that the walk of neighbours makes -/
def prsB (s : List Int) : List Bool := (List.range (s.length - 1)).map fun k => decide (s.getD (k + 1) 0 ≤ 2 * s.getD k 0)
theorem ch_all : ∀ (r : List Int) (p : Int), chB p r = true ↔ ∀ k, k < r.length → (p :: r).getD (k + 1) 0 ≤ 2 * (p :: r).getD k 0
  | [], p => by
    constructor
    · intro _ k hk
      exact absurd hk (Nat.not_lt_zero _)
    · intro _
      rfl
  | l :: r, p => by
    show (decide (l ≤ 2 * p) && chB l r) = true ↔ _
    rw [Bool.and_eq_true, ch_all r l]
    constructor
    · rintro ⟨h1, h2⟩ k hk
      cases k with
      | zero => exact of_decide_eq_true h1
      | succ k =>
        rw [List.length_cons] at hk
        exact h2 k (by omega)
    · intro h
      refine ⟨decide_eq_true (h 0 (by rw [List.length_cons]; omega)), fun k hk => ?_⟩
      exact h (k + 1) (by rw [List.length_cons]; omega)
end Db

/-! ### the mathematics of digits and days -/
namespace Dy
open Ln (Let)
/-! doubling -/
def Grd : Int → List Int → Prop
  | _, [] => True
  | T, l :: r => l ≤ T + 1 ∧ Grd (T + l) r
theorem grd_snoc : ∀ (r : List Int) (T l : Int), Grd T r → l ≤ T + r.sum + 1 → Grd T (r ++ [l])
  | [], T, l, _, h => by
    refine ⟨?_, trivial⟩
    simpa using h
  | x :: r, T, l, hg, h => by
    refine ⟨hg.1, grd_snoc r (T + x) l hg.2 ?_⟩
    rw [List.sum_cons] at h
    omega
/-- from the greatest on: each at most one more than the sum of those behind it -/
def GR : List Int → Prop
  | [] => True
  | l :: r => l ≤ r.sum + 1 ∧ GR r
theorem gr_of : ∀ (r : List Int) (T : Int) (acc : List Int), Grd T r → acc.sum = T → GR acc → GR (r.reverse ++ acc)
  | [], _, acc, _, _, h => h
  | x :: r, T, acc, hg, hs, h => by
    rw [List.reverse_cons, List.append_assoc]
    exact gr_of r (T + x) (x :: acc) hg.2 (by rw [List.sum_cons]; omega) ⟨by rw [hs]; exact hg.1, h⟩
/-- digits: the row so far, and what is left -/
def dig (ls : List Int) : List Int → List Int × Int → List Int × Int
  | [], s => s
  | k :: r, s => dig ls r (if Tb.len1 ls k ≤ s.2 then (k :: s.1, s.2 - Tb.len1 ls k) else s)
theorem dig_ok {ls : List Int} : ∀ (ks : List Int) (row : List Int) (w : Int), GR (ks.map (Tb.len1 ls)) → 0 ≤ w → w ≤ (ks.map (Tb.len1 ls)).sum → Tb.InR ls ks → Tb.InR ls row →
    (dig ls ks (row, w)).2 = 0 ∧ Tb.rsum ls (dig ls ks (row, w)).1 = Tb.rsum ls row + w ∧ Tb.InR ls (dig ls ks (row, w)).1
  | [], row, w, _, h0, h1, _, hr => by
    have : w = 0 := by
      simp at h1
      omega
    subst this
    exact ⟨rfl, by show Tb.rsum ls row = Tb.rsum ls row + 0; omega, hr⟩
  | k :: r, row, w, hg, h0, h1, hk, hr => by
    rw [List.map_cons, List.sum_cons] at h1
    have hk' : Tb.InR ls r := fun x hx => hk x (List.mem_cons_of_mem _ hx)
    unfold dig
    by_cases c : Tb.len1 ls k ≤ w
    · rw [if_pos c]
      obtain ⟨a, b, d⟩ := dig_ok r (k :: row) (w - Tb.len1 ls k) hg.2 (by omega) (by omega) hk' (fun x hx => by
        rcases List.mem_cons.mp hx with e | hx
        · rw [e]
          exact hk k List.mem_cons_self
        · exact hr x hx)
      refine ⟨a, ?_, d⟩
      rw [b, Tb.rsum_cons]
      omega
    · rw [if_neg c]
      have := hg.1
      exact dig_ok r row w hg.2 h0 (by omega) hk' hr
/-! layings -/
def rowOf (rs : List (List Int)) (w : Int) : List Int := if w ≤ 0 then [] else rs.getD (w - 1).toNat []
def lay1 (ls : List Int) (rs : List (List Int)) (n : Int) (l : Let) : List (List Int) := match l.2.2 with
  | none => []
  | some w => (Tb.go ls 0 (rowOf rs w)).map fun p => [l.1 + p.1, n, p.2]
def lays (ls : List Int) (rs : List (List Int)) : Int → List Let → List (List Int)
  | _, [] => []
  | n, l :: r => lay1 ls rs n l ++ lays ls rs (n + 1) r
theorem lays_snoc (ls : List Int) (rs : List (List Int)) : ∀ (L : List Let) (n : Int) (l : Let), lays ls rs n (L ++ [l]) = lays ls rs n L ++ lay1 ls rs (n + (L.length : Int)) l
  | [], n, l => by
    show lay1 ls rs n l ++ [] = [] ++ lay1 ls rs (n + ((0 : Nat) : Int)) l
    rw [List.append_nil, List.nil_append]
    congr 1
    omega
  | x :: L, n, l => by
    show lay1 ls rs n x ++ lays ls rs (n + 1) (L ++ [l]) = (lay1 ls rs n x ++ lays ls rs (n + 1) L) ++ lay1 ls rs _ l
    rw [lays_snoc ls rs L (n + 1) l, List.append_assoc]
    congr 3
    rw [List.length_cons]
    omega
/-- who is inside behind a tick, of one laying -/
def ins1 (ls : List Int) (τ : Int) (e : List Int) : Option (List Int) :=
  if e.getD 0 0 ≤ τ ∧ e.getD 0 0 + Tb.len1 ls (e.getD 2 0) - τ > 0 then some [e.getD 2 0, e.getD 1 0, e.getD 0 0 + Tb.len1 ls (e.getD 2 0) - τ] else none
/-- where a letter is, by its age -/
def whr (ls : List Int) : List Int → Int → Option (Int × Int)
  | [], _ => none
  | k :: r, age => if age < Tb.len1 ls k then some (k, Tb.len1 ls k - age) else whr ls r (age - Tb.len1 ls k)
def in1 (ls : List Int) (rs : List (List Int)) (τ n : Int) (l : Let) : List (List Int) := match l.2.2 with
  | none => []
  | some w => if 0 < w ∧ l.1 ≤ τ then (match whr ls (rowOf rs w) (τ - l.1) with
    | none => []
    | some p => [[p.1, n, p.2]]) else []
def inAll (ls : List Int) (rs : List (List Int)) (τ : Int) : Int → List Let → List (List Int)
  | _, [] => []
  | n, l :: r => in1 ls rs τ n l ++ inAll ls rs τ (n + 1) r
theorem inAll_append (ls : List Int) (rs : List (List Int)) (τ : Int) : ∀ (L M : List Let) (n : Int), inAll ls rs τ n (L ++ M) = inAll ls rs τ n L ++ inAll ls rs τ (n + (L.length : Int)) M
  | [], M, n => by
    show inAll ls rs τ n M = inAll ls rs τ (n + ((0 : Nat) : Int)) M
    congr 1
    omega
  | x :: L, M, n => by
    show in1 ls rs τ n x ++ inAll ls rs τ (n + 1) (L ++ M) = (in1 ls rs τ n x ++ inAll ls rs τ (n + 1) L) ++ _
    rw [inAll_append ls rs τ L M (n + 1), List.append_assoc, List.length_cons]
    congr 3
    omega
theorem go_none {ls : List Int} (G : Rch.Good ls) {β n τ : Int} : ∀ (r : List Int) (g : Int), Tb.InR ls r → τ - β < g → ((Tb.go ls g r).map fun p => [β + p.1, n, p.2]).filterMap (ins1 ls τ) = []
  | [], _, _, _ => rfl
  | k :: r, g, h, hg => by
    have hk := h k List.mem_cons_self
    have l1 := (Tb.len_pos G hk.1 hk.2).1
    have hr : Tb.InR ls r := fun x hx => h x (List.mem_cons_of_mem _ hx)
    show List.filterMap (ins1 ls τ) ([β + g, n, k] :: (Tb.go ls (g + Tb.len1 ls k) r).map fun p => [β + p.1, n, p.2]) = []
    have e : ins1 ls τ [β + g, n, k] = none := if_neg (fun z => by
      have : β + g ≤ τ := z.1
      omega)
    rw [List.filterMap_cons_none e]
    exact go_none G r _ hr (by omega)
theorem go_whr {ls : List Int} (G : Rch.Good ls) {β n τ : Int} : ∀ (r : List Int) (g : Int), Tb.InR ls r → g ≤ τ - β → ((Tb.go ls g r).map fun p => [β + p.1, n, p.2]).filterMap (ins1 ls τ) = match whr ls r (τ - β - g) with
    | none => []
    | some p => [[p.1, n, p.2]]
  | [], _, _, _ => rfl
  | k :: r, g, h, hg => by
    have hk := h k List.mem_cons_self
    have l1 := (Tb.len_pos G hk.1 hk.2).1
    have hr : Tb.InR ls r := fun x hx => h x (List.mem_cons_of_mem _ hx)
    show List.filterMap (ins1 ls τ) ([β + g, n, k] :: (Tb.go ls (g + Tb.len1 ls k) r).map fun p => [β + p.1, n, p.2]) = _
    unfold whr
    by_cases c : τ - β - g < Tb.len1 ls k
    · rw [if_pos c]
      have e : ins1 ls τ [β + g, n, k] = some [k, n, β + g + Tb.len1 ls k - τ] := if_pos ⟨by show β + g ≤ τ; omega, by show β + g + Tb.len1 ls k - τ > 0; omega⟩
      rw [List.filterMap_cons_some e, go_none G r _ hr (by omega)]
      show [[k, n, β + g + Tb.len1 ls k - τ]] = [[k, n, Tb.len1 ls k - (τ - β - g)]]
      rw [show β + g + Tb.len1 ls k - τ = Tb.len1 ls k - (τ - β - g) by omega]
    · rw [if_neg c]
      have e : ins1 ls τ [β + g, n, k] = none := if_neg (fun z => by
        have : β + g + Tb.len1 ls k - τ > 0 := z.2
        omega)
      rw [List.filterMap_cons_none e, go_whr G r _ hr (by omega), show τ - β - (g + Tb.len1 ls k) = τ - β - g - Tb.len1 ls k by omega]
theorem rowOf_at {ls : List Int} {rs : List (List Int)} (R : Tb.Right ls rs) {w : Int} (h0 : 0 < w) (h1 : w ≤ (rs.length : Int)) : rs[(w - 1).toNat]? = some (rowOf rs w) ∧ Tb.InR ls (rowOf rs w) ∧ (rowOf rs w).length ≤ 60 ∧ Tb.rsum ls (rowOf rs w) = w := by
  have hl : (w - 1).toNat < rs.length := by omega
  have e : rs[(w - 1).toNat]? = some (rowOf rs w) := by
    unfold rowOf
    rw [if_neg (by omega), List.getD_eq_getElem?_getD, List.getElem?_eq_getElem hl]
    rfl
  obtain ⟨a, b, c⟩ := R.2.2.2 _ _ e
  exact ⟨e, a, b, by rw [c]; omega⟩
/-- waits that are right for a table -/
def Wt (rs : List (List Int)) (L : List Let) : Prop := ∀ l ∈ L, ∀ w, l.2.2 = some w → 0 ≤ w ∧ w ≤ (rs.length : Int)
theorem lay_in {ls : List Int} {rs : List (List Int)} (R : Tb.Right ls rs) {τ n : Int} {l : Let} (h : ∀ w, l.2.2 = some w → 0 ≤ w ∧ w ≤ (rs.length : Int)) : (lay1 ls rs n l).filterMap (ins1 ls τ) = in1 ls rs τ n l := by
  obtain ⟨t, u, wt⟩ := l
  cases wt with
  | none => rfl
  | some w =>
    have hw := h w rfl
    show ((Tb.go ls 0 (rowOf rs w)).map fun p => [t + p.1, n, p.2]).filterMap (ins1 ls τ) = if 0 < w ∧ t ≤ τ then _ else []
    by_cases c0 : 0 < w
    · obtain ⟨_, hin, _, _⟩ := rowOf_at R c0 hw.2
      by_cases c1 : t ≤ τ
      · rw [if_pos ⟨c0, c1⟩, go_whr R.1 _ 0 hin (by omega), show τ - t - 0 = τ - t by omega]
      · rw [if_neg (fun z => c1 z.2), go_none R.1 _ 0 hin (by omega)]
    · rw [if_neg (fun z => c0 z.1)]
      have : rowOf rs w = [] := if_pos (by omega)
      rw [this]
      rfl
theorem lays_in {ls : List Int} {rs : List (List Int)} (R : Tb.Right ls rs) {τ : Int} : ∀ (L : List Let) (n : Int), Wt rs L → (lays ls rs n L).filterMap (ins1 ls τ) = inAll ls rs τ n L
  | [], _, _ => rfl
  | l :: r, n, h => by
    show (lay1 ls rs n l ++ lays ls rs (n + 1) r).filterMap _ = _
    rw [List.filterMap_append, lay_in R (h l List.mem_cons_self), lays_in R r (n + 1) fun x hx => h x (List.mem_cons_of_mem _ hx)]
    rfl
/-! how many -/
theorem whr_iff {ls : List Int} (G : Rch.Good ls) : ∀ (r : List Int) (age : Int), Tb.InR ls r → 0 ≤ age → (whr ls r age).isSome = decide (age < Tb.rsum ls r)
  | [], age, _, h => by
    show false = decide (age < Tb.rsum ls [])
    rw [decide_eq_false]
    simp [Tb.rsum]
    omega
  | k :: r, age, hin, h => by
    have hk := hin k List.mem_cons_self
    have hr : Tb.InR ls r := fun x hx => hin x (List.mem_cons_of_mem _ hx)
    have := Tb.rsum_len G hr
    rw [Tb.rsum_cons]
    unfold whr
    by_cases c : age < Tb.len1 ls k
    · rw [if_pos c, decide_eq_true (by omega)]
      rfl
    · rw [if_neg c, whr_iff G r _ hr (by omega)]
      exact decide_eq_decide.mpr (by omega)
def alive (τ : Int) (l : Let) : Bool := match l.2.2 with
  | none => false
  | some w => decide (l.1 ≤ τ) && decide (τ < l.1 + w)
theorem in1_len {ls : List Int} {rs : List (List Int)} (R : Tb.Right ls rs) {τ n : Int} {l : Let} (h : ∀ w, l.2.2 = some w → 0 ≤ w ∧ w ≤ (rs.length : Int)) : (in1 ls rs τ n l).length = if alive τ l then 1 else 0 := by
  obtain ⟨t, u, wt⟩ := l
  cases wt with
  | none => rfl
  | some w =>
    have hw := h w rfl
    show (if 0 < w ∧ t ≤ τ then _ else []).length = if (decide (t ≤ τ) && decide (τ < t + w)) = true then 1 else 0
    by_cases c0 : 0 < w
    · obtain ⟨_, hin, _, hs⟩ := rowOf_at R c0 hw.2
      by_cases c1 : t ≤ τ
      · rw [if_pos ⟨c0, c1⟩, decide_eq_true c1, Bool.true_and]
        have z := whr_iff R.1 (rowOf rs w) (τ - t) hin (by omega)
        rw [hs] at z
        cases e : whr ls (rowOf rs w) (τ - t) with
        | none =>
          rw [e] at z
          have : ¬ τ < t + w := fun y => by
            rw [decide_eq_true (by omega)] at z
            cases z
          rw [decide_eq_false this]
          rfl
        | some p =>
          rw [e] at z
          have : τ < t + w := by
            have := of_decide_eq_true z.symm
            omega
          rw [decide_eq_true this]
          rfl
      · rw [if_neg (fun z => c1 z.2), decide_eq_false c1]
        rfl
    · rw [if_neg (fun z => c0 z.1)]
      by_cases c1 : t ≤ τ
      · rw [decide_eq_false (by omega : ¬ τ < t + w), Bool.and_false]
        rfl
      · rw [decide_eq_false c1]
        rfl
theorem count_outs {ls : List Int} {rs : List (List Int)} (R : Tb.Right ls rs) {τ : Int} : ∀ (L : List Let) (n : Int), Wt rs L → (∀ l ∈ L, l.1 ≤ τ) → (inAll ls rs τ n L).length = ((Ln.outsFrom n L).filter fun p => decide (τ < p.1)).length
  | [], _, _, _ => rfl
  | l :: r, n, h, ht => by
    show (in1 ls rs τ n l ++ inAll ls rs τ (n + 1) r).length = ((Ln.one l n ++ Ln.outsFrom (n + 1) r).filter _).length
    rw [List.length_append, List.filter_append, List.length_append, in1_len R (h l List.mem_cons_self), count_outs R r (n + 1) (fun x hx => h x (List.mem_cons_of_mem _ hx)) (fun x hx => ht x (List.mem_cons_of_mem _ hx))]
    congr 1
    have hl := ht l List.mem_cons_self
    obtain ⟨t, u, wt⟩ := l
    cases wt with
    | none => rfl
    | some w =>
      show (if (decide (t ≤ τ) && decide (τ < t + w)) = true then 1 else 0) = ([(t + w, n)].filter fun p => decide (τ < p.1)).length
      rw [decide_eq_true (show t ≤ τ from hl), Bool.true_and]
      by_cases c : τ < t + w
      · rw [decide_eq_true c, List.filter_cons_of_pos (by exact decide_eq_true c)]
        rfl
      · rw [decide_eq_false c, List.filter_cons_of_neg (by
          show ¬ decide (τ < t + w) = true
          rw [decide_eq_false c]
          exact Bool.false_ne_true)]
        rfl
theorem qp_ge : ∀ (q : List Int) (τ : Int), ∀ p ∈ Ln.qp τ q, τ ≤ p.1
  | [], _, p, h => absurd h (by simp [Ln.qp])
  | x :: q, τ, p, h => by
    rcases List.mem_cons.mp h with e | h
    · rw [e]
      exact Int.le_refl _
    · have := qp_ge q (τ + 1) p h
      omega
theorem qp_len : ∀ (q : List Int) (τ : Int), (Ln.qp τ q).length = q.length
  | [], _ => rfl
  | x :: q, τ => by
    show (Ln.qp (τ + 1) q).length + 1 = q.length + 1
    rw [qp_len q]
theorem led_turns {b τ : Int} : ∀ (k : Nat) (s : List Let × Int), (∃ q prs, Ln.Led τ s q prs ∧ ∀ p ∈ prs, p.1 < τ) → ∃ q prs, Ln.Led τ (Ln.turns b τ k s) q prs ∧ ∀ p ∈ prs, p.1 < τ
  | 0, _, h => h
  | k + 1, s, h => by
    obtain ⟨q, prs, le, hp⟩ := led_turns (b := b) k s h
    show ∃ q prs, Ln.Led τ (Ln.step b τ (1 + (k : Int)) (Ln.turns b τ k s)) q prs ∧ _
    by_cases c : (Ln.turns b τ k s).2 > b
    · exact ⟨q, prs, (le.no c).1, hp⟩
    · exact ⟨_, prs, (le.yes c).1, hp⟩
theorem led_pre (b : Int) (cs : List Int) : ∀ i : Nat, ∃ q prs, Ln.Led (i : Int) (Ln.pre b cs i) q prs ∧ ∀ p ∈ prs, p.1 < (i : Int)
  | 0 => ⟨[], [], ⟨rfl, rfl⟩, fun p h => by simp at h⟩
  | i + 1 => by
    obtain ⟨q, prs, le, hp⟩ := led_turns (b := b) (cs.getD i 0).toNat _ (led_pre b cs i)
    have ei : ((i + 1 : Nat) : Int) = (i : Int) + 1 := by omega
    rw [ei]
    have le1 := le.1
    cases q with
    | nil =>
      refine ⟨[], prs, ⟨?_, le.2⟩, fun p h => by have := hp p h; omega⟩
      show ((0 : Nat) : Int) = Ln.close (Ln.turns b (i : Int) (cs.getD i 0).toNat (Ln.pre b cs i)).2
      rw [← le1]
      rfl
    | cons x r =>
      refine ⟨r, prs ++ [((i : Int), x)], ⟨?_, Ln.Due.pop le.2⟩, fun p h => ?_⟩
      · show (r.length : Int) = Ln.close (Ln.turns b (i : Int) (cs.getD i 0).toNat (Ln.pre b cs i)).2
        rw [List.length_cons] at le1
        unfold Ln.close
        rw [if_pos (by omega)]
        omega
      · rcases List.mem_append.mp h with h | h
        · have := hp p h
          omega
        · rw [List.mem_singleton.mp h]
          show (i : Int) < _
          omega
theorem turns_new {b τ : Int} : ∀ (k : Nat) (s : List Let × Int), 0 ≤ s.2 → s.2 ≤ b + 1 → ∃ new, (Ln.turns b τ k s).1 = s.1 ++ new ∧ ∀ l ∈ new, l.1 = τ ∧ ∀ w, l.2.2 = some w → 0 ≤ w ∧ w ≤ b
  | 0, s, _, _ => ⟨[], by show s.1 = s.1 ++ []; rw [List.append_nil], fun l h => by simp at h⟩
  | k + 1, s, h0, h1 => by
    obtain ⟨new, e, hn⟩ := turns_new (b := b) (τ := τ) k s h0 h1
    have rg := Ln.turns_rng (b := b) (τ := τ) k s h0 h1
    show ∃ new, (Ln.step b τ (1 + (k : Int)) (Ln.turns b τ k s)).1 = s.1 ++ new ∧ _
    unfold Ln.step
    by_cases c : (Ln.turns b τ k s).2 > b
    · rw [if_pos c]
      refine ⟨new ++ [(τ, 1 + (k : Int), none)], by show (Ln.turns b τ k s).1 ++ [_] = _; rw [e, List.append_assoc], fun l h => ?_⟩
      rcases List.mem_append.mp h with h | h
      · exact hn l h
      · rw [List.mem_singleton.mp h]
        exact ⟨rfl, fun w z => by cases z⟩
    · rw [if_neg c]
      refine ⟨new ++ [(τ, 1 + (k : Int), some (Ln.turns b τ k s).2)], by show (Ln.turns b τ k s).1 ++ [_] = _; rw [e, List.append_assoc], fun l h => ?_⟩
      rcases List.mem_append.mp h with h | h
      · exact hn l h
      · rw [List.mem_singleton.mp h]
        refine ⟨rfl, fun w z => ?_⟩
        have z' := Option.some.inj z
        omega
theorem pre_in {b : Int} (hb : 0 ≤ b) (cs : List Int) : ∀ (i : Nat), ∀ l ∈ (Ln.pre b cs i).1, 0 ≤ l.1 ∧ l.1 < (i : Int) ∧ ∀ w, l.2.2 = some w → 0 ≤ w ∧ w ≤ b
  | 0, l, h => absurd h (by simp [Ln.pre])
  | i + 1, l, h => by
    have rg := Ln.pre_rng hb cs i
    obtain ⟨new, e, hn⟩ := turns_new (b := b) (τ := (i : Int)) (cs.getD i 0).toNat (Ln.pre b cs i) rg.1 (by omega)
    have h' : l ∈ (Ln.pre b cs i).1 ++ new := e ▸ h
    rcases List.mem_append.mp h' with h | h
    · obtain ⟨x, y, z⟩ := pre_in hb cs i l h
      exact ⟨x, by omega, z⟩
    · obtain ⟨x, z⟩ := hn l h
      exact ⟨by omega, by omega, z⟩
theorem pre_app {b : Int} (hb : 0 ≤ b) (cs : List Int) (i : Nat) : ∀ d : Nat, ∃ rest, (Ln.pre b cs (i + d)).1 = (Ln.pre b cs i).1 ++ rest ∧ ∀ l ∈ rest, (i : Int) ≤ l.1
  | 0 => ⟨[], by rw [List.append_nil]; rfl, fun l h => by simp at h⟩
  | d + 1 => by
    obtain ⟨rest, e, hr⟩ := pre_app hb cs i d
    have rg := Ln.pre_rng hb cs (i + d)
    obtain ⟨new, e2, hn⟩ := turns_new (b := b) (τ := ((i + d : Nat) : Int)) (cs.getD (i + d) 0).toNat (Ln.pre b cs (i + d)) rg.1 (by omega)
    refine ⟨rest ++ new, ?_, fun l h => ?_⟩
    · show (Ln.turns b ((i + d : Nat) : Int) (cs.getD (i + d) 0).toNat (Ln.pre b cs (i + d))).1 = _
      rw [e2, e, List.append_assoc]
    · rcases List.mem_append.mp h with h | h
      · exact hr l h
      · have := (hn l h).1
        omega
theorem late_none {ls : List Int} {rs : List (List Int)} {τ : Int} : ∀ (L : List Let) (n : Int), (∀ l ∈ L, τ < l.1) → inAll ls rs τ n L = []
  | [], _, _ => rfl
  | l :: r, n, h => by
    show in1 ls rs τ n l ++ inAll ls rs τ (n + 1) r = []
    rw [late_none r (n + 1) fun x hx => h x (List.mem_cons_of_mem _ hx), List.append_nil]
    have hl := h l List.mem_cons_self
    unfold in1
    split
    · rfl
    · rw [if_neg (fun z => by omega)]
theorem letts_wt {rs : List (List Int)} (cs : List Int) : Wt rs (Ln.letts (rs.length : Int) cs) := fun l hl w hw => (pre_in (by omega) cs cs.length l hl).2.2 w hw
theorem count_in {ls : List Int} {rs : List (List Int)} (R : Tb.Right ls rs) (cs : List Int) {i : Nat} (hi : i < cs.length) : ((inAll ls rs (i : Int) 0 (Ln.letts (rs.length : Int) cs)).length : Int) = (Ln.pre (rs.length : Int) cs (i + 1)).2 := by
  have hb : (0 : Int) ≤ (rs.length : Int) := by omega
  obtain ⟨rest, e, hr⟩ := pre_app hb cs (i + 1) (cs.length - (i + 1))
  rw [show i + 1 + (cs.length - (i + 1)) = cs.length by omega] at e
  have el : Ln.letts (rs.length : Int) cs = (Ln.pre (rs.length : Int) cs (i + 1)).1 ++ rest := e
  rw [el, inAll_append, late_none rest _ (fun l h => by have := hr l h; omega), List.append_nil]
  rw [count_outs R _ 0 (fun l hl w hw => (pre_in hb cs (i + 1) l hl).2.2 w hw) (fun l hl => by have := (pre_in hb cs (i + 1) l hl).2.1; omega)]
  obtain ⟨q, prs, le, hp⟩ := led_pre (rs.length : Int) cs (i + 1)
  rw [← le.2, List.filter_append, List.filter_eq_nil_iff.mpr (fun p h => by
    have := hp p h
    show ¬ decide ((i : Int) < p.1) = true
    rw [decide_eq_false (by omega)]
    exact Bool.false_ne_true), List.nil_append, List.filter_eq_self.mpr (fun p h => by
    have := qp_ge q _ p h
    exact decide_eq_true (by omega)), qp_len]
  exact le.1
theorem none_in {ls : List Int} {rs : List (List Int)} (R : Tb.Right ls rs) (cs : List Int) {τ : Int} (h : (cs.length : Int) + (rs.length : Int) < τ) : inAll ls rs τ 0 (Ln.letts (rs.length : Int) cs) = [] := by
  have hb : (0 : Int) ≤ (rs.length : Int) := by omega
  have key : ∀ (L : List Let) (n : Int), (∀ l ∈ L, l.1 < (cs.length : Int) ∧ ∀ w, l.2.2 = some w → 0 ≤ w ∧ w ≤ (rs.length : Int)) → inAll ls rs τ n L = [] := by
    intro L
    induction L with
    | nil => exact fun _ _ => rfl
    | cons l r ih =>
      intro n hl
      show in1 ls rs τ n l ++ inAll ls rs τ (n + 1) r = []
      rw [ih (n + 1) fun x hx => hl x (List.mem_cons_of_mem _ hx), List.append_nil]
      obtain ⟨h1, h2⟩ := hl l List.mem_cons_self
      have z := in1_len R (τ := τ) (n := n) h2
      have : alive τ l = false := by
        obtain ⟨t, u, wt⟩ := l
        cases wt with
        | none => rfl
        | some w =>
          have := h2 w rfl
          show (decide (t ≤ τ) && decide (τ < t + w)) = false
          have h1' : t < (cs.length : Int) := h1
          rw [decide_eq_false (by omega : ¬ τ < t + w), Bool.and_false]
      rw [this] at z
      exact List.length_eq_zero_iff.mp z
  exact key _ 0 fun l hl => (pre_in hb cs cs.length l hl).2
theorem behind_at (b : Int) (cs : List Int) : ∀ (n i : Nat), i < n → (Ln.behind b cs n)[i]? = some (Ln.pre b cs (i + 1)).2
  | 0, i, h => absurd h (Nat.not_lt_zero _)
  | n + 1, i, h => by
    show (Ln.behind b cs n ++ [(Ln.pre b cs (n + 1)).2])[i]? = _
    rcases Nat.lt_or_ge i n with c | c
    · rw [List.getElem?_append_left (by rw [Ln.behind_len]; exact c)]
      exact behind_at b cs n i c
    · have : i = n := by omega
      subst this
      rw [List.getElem?_append_right (by rw [Ln.behind_len]; exact Nat.le_refl _), Ln.behind_len, Nat.sub_self]
      rfl
/-! bounds for sorting -/
theorem lays_bd {ls : List Int} {rs : List (List Int)} (R : Tb.Right ls rs) (m : Int) : ∀ (L : List Let) (n : Int), 0 ≤ n → n + (L.length : Int) ≤ 2000 → Wt rs L → (∀ l ∈ L, 0 ≤ l.1 ∧ l.1 < 500) → ∀ e ∈ lays ls rs n L, e.length = 3 ∧ TS.Bd 10000 e ∧ 0 ≤ e.getD 2 0 ∧ e.getD 2 0 < (ls.length : Int)
  | [], _, _, _, _, _, e, h => absurd h (by simp [lays])
  | l :: r, n, h0, h1, hw, ht, e, h => by
    rw [List.length_cons] at h1
    rcases List.mem_append.mp (show e ∈ lay1 ls rs n l ++ lays ls rs (n + 1) r from h) with h | h
    · have hl := ht l List.mem_cons_self
      obtain ⟨t, u, wt⟩ := l
      cases wt with
      | none => exact absurd h (by simp [lay1])
      | some w =>
        have hww := hw _ List.mem_cons_self w rfl
        obtain ⟨p, hp, rfl⟩ := List.mem_map.mp (show e ∈ (Tb.go ls 0 (rowOf rs w)).map fun p => [t + p.1, n, p.2] from h)
        by_cases c : 0 < w
        · obtain ⟨_, hin, _, hs⟩ := rowOf_at R c hww.2
          have b := Tb.go_rng R.1 _ 0 hin p hp
          have g1 := R.1.2.1
          have r60 := R.2.2.1
          have hl0 : 0 ≤ t ∧ t < 500 := hl
          refine ⟨rfl, fun x hx => ?_, b.2.2.1, b.2.2.2⟩
          simp only [List.mem_cons, List.not_mem_nil, or_false] at hx
          rcases hx with e | e | e <;> subst e <;> omega
        · have : rowOf rs w = [] := if_pos (by omega)
          rw [this] at hp
          exact absurd hp (by simp [Tb.go])
    · exact lays_bd R m r (n + 1) (by omega) (by omega) (fun x hx => hw x (List.mem_cons_of_mem _ hx)) (fun x hx => ht x (List.mem_cons_of_mem _ hx)) e h
theorem ins_bd {ls : List Int} (G : Rch.Good ls) {τ : Int} {es : List (List Int)} (h : ∀ e ∈ es, e.length = 3 ∧ TS.Bd 10000 e ∧ 0 ≤ e.getD 2 0 ∧ e.getD 2 0 < (ls.length : Int)) (h1 : 0 ≤ τ) : ∀ e ∈ es.filterMap (ins1 ls τ), e.length = 3 ∧ TS.Bd 20000 e := by
  intro e he
  obtain ⟨x, hx, ex⟩ := List.mem_filterMap.mp he
  obtain ⟨hl, hb, h2, h3⟩ := h x hx
  unfold ins1 at ex
  split at ex
  · next c =>
    have ex' := (Option.some.inj ex).symm
    subst ex'
    have lp := Tb.len_pos G h2 h3
    have b0 : 0 ≤ x.getD 0 0 ∧ x.getD 0 0 < 10000 := by
      match x, hl with
      | [a, b, c], _ => exact hb a List.mem_cons_self
    have b1 : 0 ≤ x.getD 1 0 ∧ x.getD 1 0 < 10000 := by
      match x, hl with
      | [a, b, c], _ => exact hb b (List.mem_cons_of_mem _ List.mem_cons_self)
    have g1 := G.2.1
    refine ⟨rfl, fun y hy => ?_⟩
    simp only [List.mem_cons, List.not_mem_nil, or_false] at hy
    rcases hy with e | e | e <;> subst e <;> omega
  · cases ex
end Dy

/-! ### the mathematics of walks -/
namespace Wk
open Ln (Let)
abbrev Spt := Int × Int
def Spot (k b : Int) (s : Spt) : Prop := 0 ≤ s.1 ∧ s.1 ≤ b ∧ 1 ≤ s.2 ∧ s.2 ≤ k ∧ s.2 - 1 ≤ s.1
def Nx (k b : Int) (s o : Spt) : Prop := Spot k b o ∧ (o = (s.1 + 1, s.2 + 1) ∨ (o.2 = 1 ∧ o.1 ≤ s.1))
/-- each one is next to the one ahead of it -/
def Chain (k b : Int) : Spt → List Spt → Prop
  | _, [] => True
  | s, o :: r => Nx k b s o ∧ Chain k b o r
def Walk (k b : Int) : List Spt → Prop
  | [] => False
  | s :: r => Spot k b s ∧ s.2 = 1 ∧ Chain k b s r
def incL : List Int → List Int
  | [] => []
  | [x] => [x + 1]
  | x :: y :: r => x :: incL (y :: r)
def grow (cs : List Int) (s o : Spt) : List Int := if o.2 > 1 then incL cs else cs ++ (List.replicate (s.1 - o.1).toNat 0 ++ [1])
def cfGo : List Int → Spt → List Spt → List Int
  | cs, _, [] => cs
  | cs, s, o :: r => cfGo (grow cs s o) o r
def start (w : Int) : List Int := List.replicate w.toNat 2 ++ [1]
def cf : List Spt → List Int
  | [] => []
  | s :: r => cfGo (start s.1) s r
theorem incL_snoc (cs : List Int) (x : Int) : incL (cs ++ [x]) = cs ++ [x + 1] := by
  induction cs with
  | nil => rfl
  | cons a cs ih =>
    cases cs with
    | nil => rfl
    | cons b cs => exact congrArg (a :: ·) ih
theorem pre_congr {b : Int} {cs ds : List Int} : ∀ i : Nat, (∀ j, j < i → cs.getD j 0 = ds.getD j 0) → Ln.pre b cs i = Ln.pre b ds i
  | 0, _ => rfl
  | i + 1, h => by
    have ih := pre_congr (b := b) i fun j hj => h j (by omega)
    unfold Ln.pre
    rw [ih, h i (by omega)]
theorem getD_left {cs : List Int} (ds : List Int) {j : Nat} (h : j < cs.length) : (cs ++ ds).getD j 0 = cs.getD j 0 := by
  rw [List.getD_eq_getElem?_getD, List.getD_eq_getElem?_getD, List.getElem?_append_left h]
/-- the line while the last tick's letters have come -/
structure Now (b : Int) (cs : List Int) (row : List Spt) (w : Int) (n : Nat) (s : Spt) : Prop where
  ex : ∃ (ds : List Int) (L0 : List Let), cs = ds ++ [(n : Int)] ∧ (Ln.turns b (ds.length : Int) n (Ln.pre b ds ds.length)).1 = L0 ∧ (Ln.turns b (ds.length : Int) n (Ln.pre b ds ds.length)).2 = s.1 + 1 ∧
    L0.length = 2 * w.toNat + row.length ∧ (L0.drop (2 * w.toNat)).map (fun l => (l.2.2, l.2.1)) = row.map (fun p => (some p.1, p.2)) ∧ ∀ l ∈ L0, l.2.2 ≠ none
  nn : (n : Int) = s.2
theorem drop_snoc {α : Type} {l : List α} {n : Nat} (x : α) (h : n ≤ l.length) : (l ++ [x]).drop n = l.drop n ++ [x] := by
  rw [List.drop_append_of_le_length h]
theorem twos {b : Int} : ∀ (m : Nat) (ds : List Int), (m : Int) ≤ b → ds = List.replicate m 2 → (Ln.pre b ds m).2 = (m : Int) ∧ (Ln.pre b ds m).1.length = 2 * m ∧ ∀ l ∈ (Ln.pre b ds m).1, l.2.2 ≠ none
  | 0, ds, _, _ => ⟨rfl, rfl, fun l h => by simp [Ln.pre] at h⟩
  | m + 1, ds, hm, hd => by
    have hg : ds.getD m 0 = 2 := by
      rw [hd, List.getD_eq_getElem?_getD, List.getElem?_replicate, if_pos (by omega)]
      rfl
    have ec : Ln.pre b ds m = Ln.pre b (List.replicate m 2) m := pre_congr m fun j hj => by
      rw [hd, List.getD_eq_getElem?_getD, List.getD_eq_getElem?_getD, List.getElem?_replicate, List.getElem?_replicate, if_pos (by omega), if_pos (by omega)]
    obtain ⟨a, c, d⟩ := twos (b := b) m (List.replicate m 2) (by omega) rfl
    rw [← ec] at a c d
    have e2 : (2 : Int).toNat = 2 := rfl
    have t : Ln.turns b (m : Int) 2 (Ln.pre b ds m) = ((Ln.pre b ds m).1 ++ [((m : Int), 1 + ((0 : Nat) : Int), some (m : Int))] ++ [((m : Int), 1 + ((1 : Nat) : Int), some ((m : Int) + 1))], (m : Int) + 1 + 1) := by
      show Ln.step b (m : Int) (1 + ((1 : Nat) : Int)) (Ln.step b (m : Int) (1 + ((0 : Nat) : Int)) (Ln.pre b ds m)) = _
      have s1 : Ln.step b (m : Int) (1 + ((0 : Nat) : Int)) (Ln.pre b ds m) = ((Ln.pre b ds m).1 ++ [((m : Int), 1 + ((0 : Nat) : Int), some (m : Int))], (m : Int) + 1) := by
        unfold Ln.step
        rw [if_neg (by omega), a]
      rw [s1]
      unfold Ln.step
      rw [if_neg (by show ¬ (m : Int) + 1 > b; omega)]
    have e : Ln.pre b ds (m + 1) = ((Ln.turns b (m : Int) (ds.getD m 0).toNat (Ln.pre b ds m)).1, Ln.close (Ln.turns b (m : Int) (ds.getD m 0).toNat (Ln.pre b ds m)).2) := rfl
    rw [hg, e2, t] at e
    rw [e]
    refine ⟨?_, ?_, fun l hl => ?_⟩
    · show Ln.close ((m : Int) + 1 + 1) = _
      unfold Ln.close
      rw [if_pos (by omega)]
      omega
    · show ((Ln.pre b ds m).1 ++ [_] ++ [_]).length = _
      rw [List.length_append, List.length_append, c]
      show 2 * m + 1 + 1 = _
      omega
    · rcases List.mem_append.mp hl with hl | hl
      · rcases List.mem_append.mp hl with hl | hl
        · exact d l hl
        · rw [List.mem_singleton.mp hl]
          exact fun z => by cases z
      · rw [List.mem_singleton.mp hl]
        exact fun z => by cases z
theorem now_start {b k : Int} {s : Spt} (hs : Spot k b s) (h1 : s.2 = 1) : Now b (start s.1) [s] s.1 1 s := by
  have hw : ((s.1.toNat : Nat) : Int) = s.1 := by have := hs.1; omega
  have hl : (List.replicate s.1.toNat (2 : Int)).length = s.1.toNat := List.length_replicate
  obtain ⟨a, c, d⟩ := twos (b := b) s.1.toNat (List.replicate s.1.toNat 2) (by rw [hw]; exact hs.2.1) rfl
  have t : Ln.turns b (s.1.toNat : Int) 1 (Ln.pre b (List.replicate s.1.toNat 2) s.1.toNat) = ((Ln.pre b (List.replicate s.1.toNat 2) s.1.toNat).1 ++ [((s.1.toNat : Int), 1 + ((0 : Nat) : Int), some s.1)], s.1 + 1) := by
    show Ln.step b _ (1 + ((0 : Nat) : Int)) (Ln.pre b (List.replicate s.1.toNat 2) s.1.toNat) = _
    unfold Ln.step
    rw [if_neg (by rw [a, hw]; have := hs.2.1; omega), a, hw]
  refine ⟨⟨List.replicate s.1.toNat 2, _, rfl, rfl, ?_, ?_, ?_, ?_⟩, by rw [h1]; rfl⟩
  all_goals rw [hl, t]
  · rw [List.length_append, c]
    rfl
  · show (((Ln.pre b (List.replicate s.1.toNat 2) s.1.toNat).1 ++ [_]).drop (2 * s.1.toNat)).map _ = _
    rw [drop_snoc _ (by rw [c]; exact Nat.le_refl _), List.drop_of_length_le (by rw [c]; exact Nat.le_refl _)]
    show [(some s.1, 1 + ((0 : Nat) : Int))] = [(some s.1, s.2)]
    rw [h1]
    rfl
  · intro l hl'
    rcases List.mem_append.mp hl' with hl' | hl'
    · exact d l hl'
    · rw [List.mem_singleton.mp hl']
      exact fun z => by cases z
/-- ticks at which nobody comes -/
theorem zeros {b : Int} (ds : List Int) : ∀ (m : Nat) (es : List Int), es = ds ++ List.replicate m 0 → (m : Int) ≤ (Ln.pre b ds ds.length).2 → (Ln.pre b es (ds.length + m)).1 = (Ln.pre b ds ds.length).1 ∧ (Ln.pre b es (ds.length + m)).2 = (Ln.pre b ds ds.length).2 - m
  | 0, es, he, _ => by
    have : Ln.pre b es ds.length = Ln.pre b ds ds.length := pre_congr _ fun j hj => by
      rw [he]
      exact getD_left _ hj
    rw [Nat.add_zero, this]
    exact ⟨rfl, by omega⟩
  | m + 1, es, he, hm => by
    obtain ⟨x, y⟩ := zeros (b := b) ds m (ds ++ List.replicate m 0) rfl (by omega)
    have ec : Ln.pre b es (ds.length + m) = Ln.pre b (ds ++ List.replicate m 0) (ds.length + m) := pre_congr _ fun j hj => by
      have e1 : es = (ds ++ List.replicate m 0) ++ [0] := by
        rw [he, List.append_assoc, List.replicate_succ']
      rw [e1]
      exact getD_left _ (by rw [List.length_append, List.length_replicate]; exact hj)
    have hg : es.getD (ds.length + m) 0 = 0 := by
      rw [he, List.getD_eq_getElem?_getD, List.getElem?_append_right (by omega), Nat.add_sub_cancel_left, List.getElem?_replicate, if_pos (by omega)]
      rfl
    have e : Ln.pre b es (ds.length + (m + 1)) = ((Ln.turns b ((ds.length + m : Nat) : Int) (es.getD (ds.length + m) 0).toNat (Ln.pre b es (ds.length + m))).1, Ln.close (Ln.turns b ((ds.length + m : Nat) : Int) (es.getD (ds.length + m) 0).toNat (Ln.pre b es (ds.length + m))).2) := rfl
    rw [hg] at e
    have e' : Ln.pre b es (ds.length + (m + 1)) = ((Ln.pre b es (ds.length + m)).1, Ln.close (Ln.pre b es (ds.length + m)).2) := e
    rw [e', ec]
    refine ⟨x, ?_⟩
    show Ln.close (Ln.pre b (ds ++ List.replicate m 0) (ds.length + m)).2 = _
    rw [y]
    unfold Ln.close
    rw [if_pos (by omega)]
    omega
theorem now_grow {b k : Int} {cs : List Int} {row : List Spt} {w : Int} {n : Nat} {s o : Spt} (h : Now b cs row w n s) (hs : Spot k b s) (hn : Nx k b s o) : ∃ n', Now b (grow cs s o) (row ++ [o]) w n' o := by
  obtain ⟨⟨ds, L0, hcs, hL, hl, hlen, hmap, hnone⟩, nn⟩ := h
  have hs0 := hs.1
  have ho := hn.1
  have hdrop : 2 * w.toNat ≤ L0.length := by omega
  unfold grow
  rcases hn.2 with e | ⟨e1, e2⟩
  · have o1 : o.1 = s.1 + 1 := by rw [e]
    have o2 : o.2 = s.2 + 1 := by rw [e]
    have ob := ho.2.1
    rw [if_pos (by have := hs.2.2.1; omega)]
    have t : Ln.turns b (ds.length : Int) (n + 1) (Ln.pre b ds ds.length) = (L0 ++ [((ds.length : Int), 1 + (n : Int), some (s.1 + 1))], s.1 + 1 + 1) := by
      show Ln.step b _ (1 + (n : Int)) (Ln.turns b (ds.length : Int) n (Ln.pre b ds ds.length)) = _
      unfold Ln.step
      rw [if_neg (by omega), hL, hl]
    refine ⟨n + 1, ⟨ds, _, ?_, rfl, ?_, ?_, ?_, ?_⟩, by omega⟩
    · rw [hcs, incL_snoc]
      rfl
    all_goals rw [t]
    · show s.1 + 1 + 1 = o.1 + 1
      omega
    · rw [List.length_append, List.length_append, hlen]
      rfl
    · rw [drop_snoc _ hdrop, List.map_append, hmap, List.map_append]
      show _ ++ [(some (s.1 + 1), 1 + (n : Int))] = _ ++ [(some o.1, o.2)]
      rw [o1, o2, nn, Int.add_comm 1 s.2]
    · intro l h
      rcases List.mem_append.mp h with h | h
      · exact hnone l h
      · rw [List.mem_singleton.mp h]
        exact fun z => by cases z
  · have ob := ho.2.1
    have oz := ho.1
    rw [if_neg (by omega)]
    obtain ⟨m, hm⟩ : ∃ m : Nat, (s.1 - o.1).toNat = m := ⟨_, rfl⟩
    have hm' : (m : Int) = s.1 - o.1 := by omega
    rw [hm]
    -- behind the last tick
    have hcl : cs.length = ds.length + 1 := by rw [hcs, List.length_append]; rfl
    have hg : cs.getD ds.length 0 = (n : Int) := by
      rw [hcs, List.getD_eq_getElem?_getD, List.getElem?_append_right (Nat.le_refl _), Nat.sub_self]
      rfl
    have ec : Ln.pre b cs ds.length = Ln.pre b ds ds.length := pre_congr _ fun j hj => by
      rw [hcs]
      exact getD_left _ hj
    have ep : Ln.pre b cs cs.length = (L0, s.1) := by
      rw [hcl]
      show ((Ln.turns b (ds.length : Int) (cs.getD ds.length 0).toNat (Ln.pre b cs ds.length)).1, Ln.close (Ln.turns b (ds.length : Int) (cs.getD ds.length 0).toNat (Ln.pre b cs ds.length)).2) = _
      rw [hg, ec, Int.toNat_natCast, hL, hl]
      unfold Ln.close
      rw [if_pos (by omega), show s.1 + 1 - 1 = s.1 by omega]
    obtain ⟨z1, z2⟩ := zeros (b := b) cs m (cs ++ List.replicate m 0) rfl (by rw [ep]; show (m : Int) ≤ s.1; omega)
    rw [ep] at z1 z2
    have el : (cs ++ List.replicate m 0).length = cs.length + m := by rw [List.length_append, List.length_replicate]
    have t : Ln.turns b ((cs ++ List.replicate m (0 : Int)).length : Int) 1 (Ln.pre b (cs ++ List.replicate m 0) (cs ++ List.replicate m (0 : Int)).length) = (L0 ++ [(((cs ++ List.replicate m (0 : Int)).length : Int), 1 + ((0 : Nat) : Int), some o.1)], o.1 + 1) := by
      show Ln.step b _ (1 + ((0 : Nat) : Int)) (Ln.pre b (cs ++ List.replicate m 0) (cs ++ List.replicate m (0 : Int)).length) = _
      rw [el]
      unfold Ln.step
      have zz : (Ln.pre b (cs ++ List.replicate m 0) (cs.length + m)).2 = o.1 := by
        rw [z2]
        show s.1 - (m : Int) = o.1
        omega
      rw [if_neg (by rw [zz]; omega), zz, z1]
    refine ⟨1, ⟨cs ++ List.replicate m 0, _, by rw [List.append_assoc]; rfl, rfl, ?_, ?_, ?_, ?_⟩, by rw [e1]; rfl⟩
    all_goals rw [t]
    · have e9 : ∀ x : Let, (L0 ++ [x]).length = L0.length + 1 := fun x => List.length_append
      rw [e9, hlen, List.length_append]
      rfl
    · rw [drop_snoc _ hdrop, List.map_append, hmap, List.map_append]
      show _ ++ [(some o.1, 1 + ((0 : Nat) : Int))] = _ ++ [(some o.1, o.2)]
      rw [e1]
      rfl
    · intro l h
      rcases List.mem_append.mp h with h | h
      · exact hnone l h
      · rw [List.mem_singleton.mp h]
        exact fun z => by cases z
theorem now_all {b k : Int} : ∀ (r : List Spt) (cs : List Int) (row : List Spt) (w : Int) (n : Nat) (s : Spt), Now b cs row w n s → Spot k b s → Chain k b s r → ∃ n' s', Now b (cfGo cs s r) (row ++ r) w n' s'
  | [], cs, row, w, n, s, h, _, _ => by
    rw [List.append_nil]
    exact ⟨n, s, h⟩
  | o :: r, cs, row, w, n, s, h, hs, hc => by
    obtain ⟨n', h'⟩ := now_grow h hs hc.1
    have := now_all r _ _ w n' o h' hc.1.1 hc.2
    rw [List.append_assoc] at this
    exact this
theorem cf_is {b k : Int} {row : List Spt} (h : Walk k b row) : (Ln.letts b (cf row)).length = 2 * (row.headD (0, 0)).1.toNat + row.length ∧ ((Ln.letts b (cf row)).drop (2 * (row.headD (0, 0)).1.toNat)).map (fun l => (l.2.2, l.2.1)) = row.map (fun p => (some p.1, p.2)) ∧ ∀ l ∈ Ln.letts b (cf row), l.2.2 ≠ none := by
  cases row with
  | nil => exact False.elim h
  | cons s r =>
    obtain ⟨hs, h1, hc⟩ := h
    obtain ⟨n', s', ⟨⟨ds, L0, hcs, hL, hl, hlen, hmap, hnone⟩, nn⟩⟩ := now_all r _ _ _ 1 s (now_start hs h1) hs hc
    have hcl : (cf (s :: r)).length = ds.length + 1 := by
      show (cfGo (start s.1) s r).length = _
      rw [hcs, List.length_append]
      rfl
    have el : Ln.letts b (cf (s :: r)) = L0 := by
      unfold Ln.letts
      rw [hcl]
      show (Ln.turns b (ds.length : Int) ((cf (s :: r)).getD ds.length 0).toNat (Ln.pre b (cf (s :: r)) ds.length)).1 = L0
      have e0 : cf (s :: r) = ds ++ [(n' : Int)] := hcs
      have hg : (cf (s :: r)).getD ds.length 0 = (n' : Int) := by
        rw [e0, List.getD_eq_getElem?_getD, List.getElem?_append_right (Nat.le_refl _), Nat.sub_self]
        rfl
      have ec : Ln.pre b (cf (s :: r)) ds.length = Ln.pre b ds ds.length := pre_congr _ fun j hj => by
        rw [e0]
        exact getD_left _ hj
      rw [hg, ec, Int.toNat_natCast, hL]
    rw [el]
    exact ⟨hlen, hmap, hnone⟩
end Wk

/-! ### what stands twice in a sorted list -/
namespace Mt
def prs (es : List (List Int)) : List (List Int) := es.map fun e => [e.getD 0 0, e.getD 2 0]
def Ok2 (rs : List (List Int)) : Prop := ∀ r ∈ rs, r.length = 2 ∧ TS.Bd 10000 r
abbrev Up (rs : List (List Int)) : Prop := rs.Pairwise fun x y => TS.code 10000 x ≤ TS.code 10000 y
theorem strict_count : ∀ {rs : List (List Int)}, Ok2 rs → Up rs → (∀ (i : Nat) x y, rs[i]? = some x → rs[i + 1]? = some y → x ≠ y) → ∀ r, rs.count r ≤ 1
  | [], _, _, _, r => by simp
  | [x], _, _, _, r => by
    rw [List.count_cons]
    split <;> simp
  | x :: y :: rs, hb, hu, ha, r => by
    have hb' : Ok2 (y :: rs) := fun z hz => hb z (List.mem_cons_of_mem _ hz)
    obtain ⟨h1, h2⟩ := List.pairwise_cons.mp hu
    have ih := strict_count hb' h2 (fun i a b h h' => ha (i + 1) a b (by simpa using h) (by simpa using h')) r
    have hxy : x ≠ y := ha 0 x y rfl rfl
    by_cases e : x = r
    · subst e
      have hn : x ∉ y :: rs := fun hm => by
        rcases List.mem_cons.mp hm with z | hm
        · exact hxy z
        · have c1 := h1 y List.mem_cons_self
          have c2 := (List.pairwise_cons.mp h2).1 x hm
          have bx := hb x List.mem_cons_self
          have bY := hb y (List.mem_cons_of_mem _ List.mem_cons_self)
          exact hxy (My.code_inj bx.1 bY.1 bx.2 bY.2 (Int.le_antisymm c1 c2))
      rw [List.count_cons_self, List.count_eq_zero_of_not_mem hn]
      exact Nat.le_refl _
    · rw [List.count_cons_of_ne e]
      exact ih
theorem twice_least {rs : List (List Int)} (hb : Ok2 rs) (hu : Up rs) {i : Nat} {x : List Int} (h1 : rs[i]? = some x) (h2 : rs[i + 1]? = some x) (ha : ∀ (j : Nat) a b, j < i → rs[j]? = some a → rs[j + 1]? = some b → a ≠ b) :
    2 ≤ rs.count x ∧ ∀ r, 2 ≤ rs.count r → TS.code 10000 x ≤ TS.code 10000 r := by
  have hi : i + 1 < rs.length := (List.getElem?_eq_some_iff.mp h2).1
  have e : rs = rs.take (i + 1) ++ rs.drop (i + 1) := (List.take_append_drop _ _).symm
  have ec : ∀ r, rs.count r = (rs.take (i + 1)).count r + (rs.drop (i + 1)).count r := fun r => by
    rw [← List.count_append, ← e]
  have et : rs.take (i + 1) = rs.take i ++ [x] := by
    rw [List.take_add_one, h1]
    rfl
  have ed : rs.drop (i + 1) = x :: rs.drop (i + 1 + 1) := by
    rw [List.drop_eq_getElem_cons hi]
    congr 1
    rw [List.getElem?_eq_getElem hi] at h2
    exact Option.some.inj h2
  have m1 : x ∈ rs.take (i + 1) := by
    rw [et]
    simp
  have m2 : x ∈ rs.drop (i + 1) := by
    rw [ed]
    exact List.mem_cons_self
  refine ⟨?_, fun r hr => ?_⟩
  · have a := List.count_pos_iff.mpr m1
    have b := List.count_pos_iff.mpr m2
    rw [ec]
    omega
  · have ht : (rs.take (i + 1)).count r ≤ 1 := by
      refine strict_count (fun z hz => hb z (List.mem_of_mem_take hz)) (hu.sublist (List.take_sublist _ _)) (fun j a b ja jb => ?_) r
      have hj : j + 1 < (rs.take (i + 1)).length := (List.getElem?_eq_some_iff.mp jb).1
      rw [List.length_take] at hj
      rw [List.getElem?_take_of_lt (by omega)] at ja jb
      exact ha j a b (by omega) ja jb
    rw [ec] at hr
    have hm : r ∈ rs.drop (i + 1) := List.count_pos_iff.mp (by omega)
    rw [ed] at hm
    have hd : Up (x :: rs.drop (i + 1 + 1)) := by
      rw [← ed]
      exact hu.sublist (List.drop_sublist _ _)
    rcases List.mem_cons.mp hm with z | hm
    · rw [z]
      exact Int.le_refl _
    · exact (List.pairwise_cons.mp hd).1 r hm
/-- the first that stands twice -/
def Least (rs : List (List Int)) (x : List Int) : Prop := 2 ≤ rs.count x ∧ ∀ r, 2 ≤ rs.count r → TS.code 10000 x ≤ TS.code 10000 r
theorem Least.perm {rs rs' : List (List Int)} {x : List Int} (h : Least rs x) (p : rs.Perm rs') : Least rs' x := ⟨by rw [← p.count_eq]; exact h.1, fun r hr => h.2 r (by rw [p.count_eq]; exact hr)⟩
end Mt
namespace Mt
theorem code2 {a b c d : Int} (h1 : TS.Bd 10000 [a, b]) (h2 : TS.Bd 10000 [c, d]) (h : HT.lexLt [a, b] [c, d] = true) : TS.code 10000 [a, b] ≤ TS.code 10000 [c, d] := by
  have hb : TS.Bd 10000 [b] := fun m hm => h1 m (List.mem_cons_of_mem _ hm)
  have hd : TS.Bd 10000 [d] := fun m hm => h2 m (List.mem_cons_of_mem _ hm)
  rw [HT.lexLt_cons] at h
  by_cases e : a = c
  · rw [if_pos e, HT.lexLt_cons] at h
    by_cases e2 : b = d
    · rw [e, e2]
      exact Int.le_refl _
    · rw [if_neg e2] at h
      have lt := of_decide_eq_true h
      rw [e]
      exact Int.le_of_lt ((TS.code_same (B := 10000) (d := c) (r := [b]) (q := [d]) rfl).mpr (TS.code_lt (B := 10000) (d := b) (e := d) (r := []) (q := []) rfl (fun m hm => by cases hm) (fun m hm => by cases hm) lt))
  · rw [if_neg e] at h
    exact Int.le_of_lt (TS.code_lt rfl hb hd (of_decide_eq_true h))
theorem code2' {a b c d : Int} (h1 : TS.Bd 10000 [a, b]) (h2 : TS.Bd 10000 [c, d]) (h : HT.lexLt [a, b] [c, d] = false) : TS.code 10000 [c, d] ≤ TS.code 10000 [a, b] := by
  by_cases e : a = c
  · by_cases e2 : b = d
    · rw [e, e2]
      exact Int.le_refl _
    · refine code2 h2 h1 ?_
      rw [HT.lexLt_cons, if_pos e.symm, HT.lexLt_cons, if_neg (Ne.symm e2)]
      rw [HT.lexLt_cons, if_pos e, HT.lexLt_cons, if_neg e2] at h
      have := of_decide_eq_false h
      exact decide_eq_true (by omega)
  · refine code2 h2 h1 ?_
    rw [HT.lexLt_cons, if_neg (Ne.symm e)]
    rw [HT.lexLt_cons, if_neg e] at h
    have := of_decide_eq_false h
    exact decide_eq_true (by omega)
/-- what the law has seen, and the best so far -/
def Best (P : List (List Int)) : Option (List Int) → Prop
  | none => ∀ r, P.count r ≤ 1
  | some b => b ∈ P ∧ Least P b
theorem cnt (P : List (List Int)) (k r : List Int) : (P ++ [k]).count r = P.count r + if k = r then 1 else 0 := by
  rw [List.count_append, List.count_cons, List.count_nil]
  by_cases e : k = r
  · rw [if_pos e, if_pos (by rw [e]; exact beq_self_eq_true r)]
  · rw [if_neg e, if_neg (by simpa using e)]
theorem best_new {P : List (List Int)} {k : List Int} {o : Option (List Int)} (h : Best P o) (hk : k ∉ P) : Best (P ++ [k]) o := by
  have c0 : P.count k = 0 := List.count_eq_zero_of_not_mem hk
  cases o with
  | none =>
    intro r
    have := h r
    rw [cnt]
    by_cases e : k = r
    · rw [if_pos e, ← e, c0]
      exact Nat.le_refl _
    · rw [if_neg e]
      exact this
  | some b =>
    obtain ⟨hm, h1, h2⟩ := h
    refine ⟨List.mem_append_left _ hm, ?_, fun r hr => h2 r ?_⟩
    · rw [cnt]
      omega
    · rw [cnt] at hr
      by_cases e : k = r
      · rw [if_pos e, ← e, c0] at hr
        omega
      · rw [if_neg e] at hr
        exact hr
theorem best_first {P : List (List Int)} {k : List Int} (h : Best P none) (hk : k ∈ P) : Best (P ++ [k]) (some k) := by
  have c0 := List.count_pos_iff.mpr hk
  refine ⟨List.mem_append_left _ hk, ?_, fun r hr => ?_⟩
  · rw [cnt, if_pos rfl]
    omega
  · by_cases e : k = r
    · rw [e]
      exact Int.le_refl _
    · have := h r
      rw [cnt, if_neg e] at hr
      omega
theorem best_less {P : List (List Int)} {k b : List Int} (h : Best P (some b)) (hk : k ∈ P) (hc : TS.code 10000 k ≤ TS.code 10000 b) : Best (P ++ [k]) (some k) := by
  have c0 := List.count_pos_iff.mpr hk
  obtain ⟨hm, h1, h2⟩ := h
  refine ⟨List.mem_append_left _ hk, ?_, fun r hr => ?_⟩
  · rw [cnt, if_pos rfl]
    omega
  · by_cases e : k = r
    · rw [e]
      exact Int.le_refl _
    · rw [cnt, if_neg e] at hr
      exact Int.le_trans hc (h2 r hr)
theorem best_more {P : List (List Int)} {k b : List Int} (h : Best P (some b)) (hc : TS.code 10000 b ≤ TS.code 10000 k) : Best (P ++ [k]) (some b) := by
  obtain ⟨hm, h1, h2⟩ := h
  refine ⟨List.mem_append_left _ hm, ?_, fun r hr => ?_⟩
  · rw [cnt]
    omega
  · by_cases e : k = r
    · rw [← e]
      exact hc
    · rw [cnt, if_neg e] at hr
      exact h2 r hr
end Mt

/-! ### entries that clash -/
namespace Cl
def hd (e : List Int) : Int := e.getD 0 0
def grp (k : Int) (es : List (List Int)) : List (List Int) := es.filter fun e => decide (hd e = k)
def step (acc : List Int) (e : List Int) : List Int := if hd e ∈ acc then acc else acc ++ [hd e]
/-- the loops of the entries, as they come first -/
def heads (es : List (List Int)) : List Int := es.foldl step []
theorem heads_snoc (es : List (List Int)) (e : List Int) : heads (es ++ [e]) = step (heads es) e := by
  unfold heads
  rw [List.foldl_append]
  rfl
theorem mem_step {acc : List Int} {e : List Int} {k : Int} : k ∈ step acc e ↔ k ∈ acc ∨ hd e = k := by
  unfold step
  split
  · next h =>
    constructor
    · exact .inl
    · rintro (h1 | h1)
      · exact h1
      · rw [← h1]
        exact h
  · rw [List.mem_append, List.mem_singleton]
    constructor
    · rintro (h1 | h1)
      · exact .inl h1
      · exact .inr h1.symm
    · rintro (h1 | h1)
      · exact .inl h1
      · exact .inr h1.symm
theorem mem_fold {es : List (List Int)} : ∀ {acc : List Int} {k : Int}, k ∈ es.foldl step acc ↔ k ∈ acc ∨ ∃ e ∈ es, hd e = k := by
  induction es with
  | nil => simp
  | cons e es ih =>
    intro acc k
    rw [List.foldl_cons, ih, mem_step]
    simp only [List.mem_cons]
    constructor
    · rintro ((h | h) | ⟨x, hx, h⟩)
      · exact .inl h
      · exact .inr ⟨e, .inl rfl, h⟩
      · exact .inr ⟨x, .inr hx, h⟩
    · rintro (h | ⟨x, (rfl | hx), h⟩)
      · exact .inl (.inl h)
      · exact .inl (.inr h)
      · exact .inr ⟨x, hx, h⟩
theorem mem_heads {es : List (List Int)} {k : Int} : k ∈ heads es ↔ ∃ e ∈ es, hd e = k := by
  unfold heads
  rw [mem_fold]
  simp
theorem mem_grp {k : Int} {es : List (List Int)} {e : List Int} : e ∈ grp k es ↔ e ∈ es ∧ hd e = k := by
  unfold grp
  rw [List.mem_filter, decide_eq_true_iff]
theorem grp_snoc (k : Int) (es : List (List Int)) (e : List Int) : grp k (es ++ [e]) = if hd e = k then grp k es ++ [e] else grp k es := by
  unfold grp
  rw [List.filter_append]
  by_cases h : hd e = k
  · rw [if_pos h, List.filter_cons_of_pos (by simpa using h)]
    rfl
  · rw [if_neg h, List.filter_cons_of_neg (by simpa using h)]
    simp
def apart (one other : List Int) : Int := other.getD 2 0 - one.getD 2 0
def cond (c : Int) (one other : List Int) : Bool := decide (apart one other > 0) && (decide (one.getD 1 0 ≥ other.getD 1 0) && decide (apart one other ≤ c * (one.getD 1 0 - other.getD 1 0) + c - 1))
def byOne (c : Int) (g : List (List Int)) (one : List Int) (m : Nat) : List (List Int × List Int) := ((g.take m).filter (cond c one)).map fun other => (one, other)
def byGrp (c : Int) (g : List (List Int)) (j : Nat) : List (List Int × List Int) := (g.take j).flatMap fun one => byOne c g one g.length
def byHeads (c : Int) (es : List (List Int)) (ks : List Int) : List (List Int × List Int) := ks.flatMap fun k => byGrp c (grp k es) (grp k es).length
def cl (c : Int) (es : List (List Int)) : List (List Int × List Int) := byHeads c es (heads es)
theorem byOne_next {c : Int} {g : List (List Int)} {one other : List Int} {m : Nat} (h : g[m]? = some other) : byOne c g one (m + 1) = if cond c one other = true then byOne c g one m ++ [(one, other)] else byOne c g one m := by
  unfold byOne
  rw [My.take_snoc h, List.filter_append]
  by_cases e : cond c one other = true
  · rw [if_pos e, List.filter_cons_of_pos e, List.map_append]
    rfl
  · rw [if_neg e, List.filter_cons_of_neg e]
    simp
theorem byGrp_next {c : Int} {g : List (List Int)} {one : List Int} {j : Nat} (h : g[j]? = some one) : byGrp c g (j + 1) = byGrp c g j ++ byOne c g one g.length := by
  unfold byGrp
  rw [My.take_snoc h, List.flatMap_append]
  simp
theorem byHeads_next {c : Int} {es : List (List Int)} {ks : List Int} {i : Nat} {k : Int} (h : ks[i]? = some k) : byHeads c es (ks.take (i + 1)) = byHeads c es (ks.take i) ++ byGrp c (grp k es) (grp k es).length := by
  unfold byHeads
  rw [My.take_snoc h, List.flatMap_append]
  simp
theorem mem_byOne {c : Int} {g : List (List Int)} {one : List Int} {x y : List Int} : (x, y) ∈ byOne c g one g.length ↔ x = one ∧ y ∈ g ∧ cond c one y = true := by
  unfold byOne
  rw [List.take_of_length_le (Nat.le_refl _), List.mem_map]
  constructor
  · rintro ⟨z, hz, e⟩
    injection e with e1 e2
    subst e1 e2
    obtain ⟨a, b⟩ := List.mem_filter.mp hz
    exact ⟨rfl, a, b⟩
  · rintro ⟨rfl, a, b⟩
    exact ⟨y, List.mem_filter.mpr ⟨a, b⟩, rfl⟩
theorem mem_byGrp {c : Int} {g : List (List Int)} {x y : List Int} : (x, y) ∈ byGrp c g g.length ↔ x ∈ g ∧ y ∈ g ∧ cond c x y = true := by
  unfold byGrp
  rw [List.take_of_length_le (Nat.le_refl _), List.mem_flatMap]
  constructor
  · rintro ⟨o, ho, h⟩
    obtain ⟨rfl, a, b⟩ := mem_byOne.mp h
    exact ⟨ho, a, b⟩
  · rintro ⟨a, b, d⟩
    exact ⟨x, a, mem_byOne.mpr ⟨rfl, b, d⟩⟩
theorem mem_cl {c : Int} {es : List (List Int)} {x y : List Int} : (x, y) ∈ cl c es ↔ x ∈ es ∧ y ∈ es ∧ hd x = hd y ∧ cond c x y = true := by
  unfold cl byHeads
  rw [List.mem_flatMap]
  constructor
  · rintro ⟨k, _, h⟩
    obtain ⟨a, b, d⟩ := mem_byGrp.mp h
    obtain ⟨a1, a2⟩ := mem_grp.mp a
    obtain ⟨b1, b2⟩ := mem_grp.mp b
    exact ⟨a1, b1, by rw [a2, b2], d⟩
  · rintro ⟨a, b, e, d⟩
    exact ⟨hd x, mem_heads.mpr ⟨x, a, rfl⟩, mem_byGrp.mpr ⟨mem_grp.mpr ⟨a, rfl⟩, mem_grp.mpr ⟨b, e.symm⟩, d⟩⟩
/-- a clash of a table for so many comers -/
def Clash (c : Int) (ls : List Int) (rs : List (List Int)) (x y : List Int) : Prop := x ∈ Tb.all ls rs rs.length ∧ y ∈ Tb.all ls rs rs.length ∧ hd x = hd y ∧ cond c x y = true
def Safe (c : Int) (ls : List Int) (rs : List (List Int)) : Prop := ∀ x y, ¬ Clash c ls rs x y
theorem clash_of {c : Int} {ls : List Int} {rs : List (List Int)} {es : List (List Int)} (pm : es.Perm (Tb.all ls rs rs.length)) {x y : List Int} : (x, y) ∈ cl c es ↔ Clash c ls rs x y := by
  rw [mem_cl, pm.mem_iff, pm.mem_iff]
  rfl
theorem safe_of {c : Int} {ls : List Int} {rs : List (List Int)} {es : List (List Int)} (pm : es.Perm (Tb.all ls rs rs.length)) : cl c es = [] ↔ Safe c ls rs := by
  constructor
  · intro e x y h
    have := (clash_of pm).mpr h
    rw [e] at this
    cases this
  · intro h
    cases e : cl c es with
    | nil => rfl
    | cons p r =>
      obtain ⟨x, y⟩ := p
      exact absurd ((clash_of pm).mp (by rw [e]; exact List.mem_cons_self)) (h x y)
theorem byOne_len (c : Int) (g : List (List Int)) (one : List Int) (m : Nat) : (byOne c g one m).length ≤ g.length := by
  unfold byOne
  rw [List.length_map]
  exact Nat.le_trans (List.length_filter_le _ _) (by rw [List.length_take]; omega)
theorem flat_len {α β : Type} {n : Nat} {f : α → List β} (h : ∀ x, (f x).length ≤ n) : ∀ l : List α, (l.flatMap f).length ≤ l.length * n
  | [] => by simp
  | x :: l => by
    rw [List.flatMap_cons, List.length_append, List.length_cons, Nat.succ_mul]
    have := h x
    have := flat_len h l
    omega
theorem byGrp_len (c : Int) (g : List (List Int)) (j : Nat) : (byGrp c g j).length ≤ g.length * g.length := by
  unfold byGrp
  refine Nat.le_trans (flat_len (n := g.length) (fun one => byOne_len c g one _) _) ?_
  exact Nat.mul_le_mul_right _ (by rw [List.length_take]; omega)
theorem fold_len : ∀ (es : List (List Int)) (acc : List Int), (es.foldl step acc).length ≤ acc.length + es.length
  | [], acc => by simp
  | e :: es, acc => by
    rw [List.foldl_cons]
    refine Nat.le_trans (fold_len es _) ?_
    have : (step acc e).length ≤ acc.length + 1 := by
      unfold step
      split
      · omega
      · simp
    simp only [List.length_cons]
    omega
theorem heads_len (es : List (List Int)) : (heads es).length ≤ es.length := by
  have := fold_len es []
  unfold heads
  simpa using this
theorem nodup_step {acc : List Int} {e : List Int} (h : acc.Nodup) : (step acc e).Nodup := by
  unfold step
  split
  · exact h
  · next hn =>
    rw [List.nodup_append]
    exact ⟨h, by simp, fun a ha b hb => by rw [List.mem_singleton.mp hb]; exact fun z => hn (z ▸ ha)⟩
theorem nodup_fold : ∀ (es : List (List Int)) (acc : List Int), acc.Nodup → (es.foldl step acc).Nodup
  | [], _, h => h
  | _ :: es, _, h => nodup_fold es _ (nodup_step h)
theorem heads_nodup (es : List (List Int)) : (heads es).Nodup := nodup_fold es [] .nil
theorem ones_le (v : Int) : ∀ {ks : List Int}, ks.Nodup → (ks.map fun k => if v = k then 1 else 0).sum ≤ 1
  | [], _ => by simp
  | k :: ks, h => by
    obtain ⟨h1, h2⟩ := List.nodup_cons.mp h
    rw [List.map_cons, List.sum_cons]
    by_cases e : v = k
    · have z : (ks.map fun k => if v = k then 1 else 0).sum = 0 := by
        have : ∀ {ks : List Int}, v ∉ ks → (ks.map fun k => if v = k then 1 else 0).sum = 0 := by
          intro ks
          induction ks with
          | nil => simp
          | cons a ks ih =>
            intro hn
            rw [List.map_cons, List.sum_cons, if_neg (fun z => hn (by rw [z]; exact List.mem_cons_self)), ih fun z => hn (List.mem_cons_of_mem _ z)]
        exact this (e ▸ h1)
      rw [if_pos e, z]
      exact Nat.le_refl _
    · have := ones_le v h2
      rw [if_neg e]
      omega
theorem grp_cons_len (k : Int) (e : List Int) (es : List (List Int)) : (grp k (e :: es)).length = (if hd e = k then 1 else 0) + (grp k es).length := by
  unfold grp
  by_cases h : hd e = k
  · rw [List.filter_cons_of_pos (by simpa using h), if_pos h, List.length_cons]
    omega
  · rw [List.filter_cons_of_neg (by simpa using h), if_neg h]
    omega
theorem sum_add {α : Type} (f g : α → Nat) : ∀ l : List α, (l.map fun x => f x + g x).sum = (l.map f).sum + (l.map g).sum
  | [] => rfl
  | x :: l => by
    rw [List.map_cons, List.sum_cons, sum_add f g l, List.map_cons, List.map_cons, List.sum_cons, List.sum_cons]
    omega
theorem gs_le {ks : List Int} (h : ks.Nodup) : ∀ es : List (List Int), (ks.map fun k => (grp k es).length).sum ≤ es.length
  | [] => by
    have : ∀ ks : List Int, (ks.map fun k => (grp k []).length).sum = 0 := by
      intro ks
      induction ks with
      | nil => rfl
      | cons a ks ih =>
        rw [List.map_cons, List.sum_cons, ih]
        rfl
    rw [this]
    exact Nat.le_refl _
  | e :: es => by
    have e1 : (ks.map fun k => (grp k (e :: es)).length) = ks.map fun k => (if hd e = k then 1 else 0) + (grp k es).length := List.map_congr_left fun k _ => grp_cons_len k e es
    rw [e1, sum_add, List.length_cons]
    have := ones_le (hd e) h
    have := gs_le h es
    omega
def sq (es : List (List Int)) (ks : List Int) : Nat := (ks.map fun k => (grp k es).length * (grp k es).length).sum
theorem sq_le {ks : List Int} (h : ks.Nodup) (es : List (List Int)) : sq es ks ≤ es.length * es.length := by
  have : ∀ ks : List Int, sq es ks ≤ (ks.map fun k => (grp k es).length).sum * es.length := by
    intro ks
    induction ks with
    | nil => exact Nat.zero_le _
    | cons k ks ih =>
      unfold sq at ih ⊢
      rw [List.map_cons, List.sum_cons, List.map_cons, List.sum_cons, Nat.add_mul]
      refine Nat.add_le_add (Nat.mul_le_mul_left _ ?_) ih
      exact List.length_filter_le _ _
  exact Nat.le_trans (this ks) (Nat.mul_le_mul_right _ (gs_le h es))
theorem sq_mono {es : List (List Int)} {ks : List Int} {i : Nat} {k : Int} (h : ks[i]? = some k) : sq es (ks.take i) + (grp k es).length * (grp k es).length ≤ sq es ks := by
  have e : ks = ks.take (i + 1) ++ ks.drop (i + 1) := (List.take_append_drop _ _).symm
  have e2 : sq es ks = sq es (ks.take (i + 1)) + sq es (ks.drop (i + 1)) := by
    conv => lhs; rw [e]
    unfold sq
    rw [List.map_append, List.sum_append]
  have e3 : sq es (ks.take (i + 1)) = sq es (ks.take i) + (grp k es).length * (grp k es).length := by
    rw [My.take_snoc h]
    unfold sq
    rw [List.map_append, List.sum_append]
    simp
  omega
theorem byHeads_len (c : Int) (es : List (List Int)) : ∀ ks : List Int, (byHeads c es ks).length ≤ sq es ks
  | [] => Nat.zero_le _
  | k :: ks => by
    have ih := byHeads_len c es ks
    have h1 := byGrp_len c (grp k es) (grp k es).length
    unfold byHeads sq at ih ⊢
    rw [List.flatMap_cons, List.length_append, List.map_cons, List.sum_cons]
    omega
theorem byGrp_len2 (c : Int) (g : List (List Int)) (j : Nat) : (byGrp c g j).length ≤ j * g.length := by
  unfold byGrp
  refine Nat.le_trans (flat_len (n := g.length) (fun one => byOne_len c g one _) _) ?_
  exact Nat.mul_le_mul_right _ (by rw [List.length_take]; omega)
/-- what is out so far is not too long -/
theorem out_len {c : Int} {es : List (List Int)} {i : Nat} {k : Int} (h : (heads es)[i]? = some k) {j : Nat} (hj : j < (grp k es).length) (one : List Int) (m : Nat) :
    (byHeads c es ((heads es).take i)).length + (byGrp c (grp k es) j).length + (byOne c (grp k es) one m).length ≤ es.length * es.length := by
  have h1 := byHeads_len c es ((heads es).take i)
  have h2 := byGrp_len2 c (grp k es) j
  have h3 := byOne_len c (grp k es) one m
  have h4 := sq_mono (es := es) h
  have h5 := sq_le (heads_nodup es) es
  have h6 : (j + 1) * (grp k es).length ≤ (grp k es).length * (grp k es).length := Nat.mul_le_mul_right _ hj
  rw [Nat.succ_mul] at h6
  omega
theorem cl_len (c : Int) (es : List (List Int)) : (cl c es).length ≤ es.length * es.length := Nat.le_trans (byHeads_len c es _) (sq_le (heads_nodup es) es)
end Cl

/-! ### safe tables have no meetings -/
namespace Sf
open Ln
/-- of two letters, the first one ahead -/
def Rel (k : Int) (l m : Let) : Prop := l.1 ≤ m.1 ∧ 1 ≤ l.2.1 ∧ m.2.1 ≤ k ∧ ∀ w v, l.2.2 = some w → m.2.2 = some v → l.1 + w < m.1 + v ∧ (m.1 ≤ l.1 + w → m.1 + v - (l.1 + w) ≤ k * (m.1 - l.1) + m.2.1 - l.2.1)
/-- a letter behind which the line stands so, at the turn j of tick i -/
def Bhd (k i j line : Int) (l : Let) : Prop := l.1 ≤ i ∧ 1 ≤ l.2.1 ∧ ∀ w, l.2.2 = some w → l.1 + w < i + line ∧ (i ≤ l.1 + w → i + line - (l.1 + w) ≤ k * (i - l.1) + j - l.2.1 + 1)
structure St (k i j : Int) (s : List Let × Int) : Prop where
  bh : ∀ l ∈ s.1, Bhd k i j s.2 l
  pw : s.1.Pairwise (Rel k)
  ln : 0 ≤ s.2
theorem St.turn {k b i : Int} {j : Nat} {s : List Let × Int} (h : St k i j s) (hj : (j : Int) < k) : St k i ((j + 1 : Nat) : Int) (step b i (1 + (j : Int)) s) := by
  obtain ⟨bh, pw, ln⟩ := h
  have rel : ∀ l ∈ s.1, ∀ o : Option Int, (o = none ∨ o = some s.2) → Rel k l (i, 1 + (j : Int), o) := fun l hl o ho => by
    obtain ⟨h1, h2, h3⟩ := bh l hl
    refine ⟨h1, h2, by show 1 + (j : Int) ≤ k; omega, fun w v hw hv => ?_⟩
    obtain ⟨a, c⟩ := h3 w hw
    rcases ho with rfl | rfl
    · cases hv
    · obtain rfl : s.2 = v := Option.some.inj hv
      refine ⟨a, fun z => ?_⟩
      have := c z
      show i + s.2 - (l.1 + w) ≤ k * (i - l.1) + (1 + (j : Int)) - l.2.1
      omega
  have pwn : ∀ o : Option Int, (o = none ∨ o = some s.2) → (s.1 ++ [(i, 1 + (j : Int), o)]).Pairwise (Rel k) := fun o ho =>
    List.pairwise_append.mpr ⟨pw, List.pairwise_singleton _ _, fun l hl m hm => by rw [List.mem_singleton.mp hm]; exact rel l hl o ho⟩
  unfold step
  split
  · refine ⟨fun l hl => ?_, pwn none (.inl rfl), ln⟩
    rcases List.mem_append.mp hl with hl | hl
    · obtain ⟨h1, h2, h3⟩ := bh l hl
      refine ⟨h1, h2, fun w hw => ?_⟩
      obtain ⟨a, c⟩ := h3 w hw
      refine ⟨a, fun z => ?_⟩
      have := c z
      show i + s.2 - (l.1 + w) ≤ k * (i - l.1) + ((j + 1 : Nat) : Int) - l.2.1 + 1
      omega
    · rw [List.mem_singleton.mp hl]
      exact ⟨Int.le_refl _, by show 1 ≤ 1 + (j : Int); omega, fun w hw => by cases hw⟩
  · refine ⟨fun l hl => ?_, pwn (some s.2) (.inr rfl), by show 0 ≤ s.2 + 1; omega⟩
    rcases List.mem_append.mp hl with hl | hl
    · obtain ⟨h1, h2, h3⟩ := bh l hl
      refine ⟨h1, h2, fun w hw => ?_⟩
      obtain ⟨a, c⟩ := h3 w hw
      refine ⟨by show l.1 + w < i + (s.2 + 1); omega, fun z => ?_⟩
      have := c z
      show i + (s.2 + 1) - (l.1 + w) ≤ k * (i - l.1) + ((j + 1 : Nat) : Int) - l.2.1 + 1
      omega
    · rw [List.mem_singleton.mp hl]
      refine ⟨Int.le_refl _, by show 1 ≤ 1 + (j : Int); omega, fun w hw => ?_⟩
      obtain rfl : s.2 = w := Option.some.inj hw
      refine ⟨by show i + s.2 < i + (s.2 + 1); omega, fun _ => ?_⟩
      show i + (s.2 + 1) - (i + s.2) ≤ k * (i - i) + ((j + 1 : Nat) : Int) - (1 + (j : Int)) + 1
      rw [Int.sub_self, Int.mul_zero]
      omega
theorem St.turns {k b i : Int} {s : List Let × Int} (h : St k i 0 s) : ∀ j : Nat, (j : Int) ≤ k → St k i j (turns b i j s)
  | 0, _ => h
  | j + 1, hj => (St.turns h j (by omega)).turn (by omega)
theorem St.close {k i j : Int} {s : List Let × Int} (h : St k i j s) (hj : j ≤ k) : St k (i + 1) 0 (s.1, close s.2) := by
  obtain ⟨bh, pw, ln⟩ := h
  refine ⟨fun l hl => ?_, pw, ?_⟩
  · obtain ⟨h1, h2, h3⟩ := bh l hl
    refine ⟨by omega, h2, fun w hw => ?_⟩
    obtain ⟨a, c⟩ := h3 w hw
    have ek : k * (i + 1 - l.1) = k * (i - l.1) + k := by
      rw [show i + 1 - l.1 = (i - l.1) + 1 by omega, Int.mul_add, Int.mul_one]
    show l.1 + w < i + 1 + Ln.close s.2 ∧ (i + 1 ≤ l.1 + w → i + 1 + Ln.close s.2 - (l.1 + w) ≤ k * (i + 1 - l.1) + 0 - l.2.1 + 1)
    rw [ek]
    unfold Ln.close
    split
    · refine ⟨by omega, fun z => ?_⟩
      have := c (by omega)
      omega
    · refine ⟨by omega, fun z => ?_⟩
      omega
  · show 0 ≤ Ln.close s.2
    unfold Ln.close
    split <;> omega
theorem st_pre {k b : Int} {cs : List Int} (hk : 0 ≤ k) (hc : ∀ c ∈ cs, c ≤ k) : ∀ i : Nat, St k i 0 (pre b cs i)
  | 0 => ⟨fun l hl => by simp [pre] at hl, .nil, Int.le_refl _⟩
  | i + 1 => by
    have hb : ((cs.getD i 0).toNat : Int) ≤ k := by
      rw [List.getD_eq_getElem?_getD]
      cases h : cs[i]? with
      | none => show ((0 : Int).toNat : Int) ≤ k; omega
      | some c =>
        have := hc c (List.mem_of_getElem? h)
        show (c.toNat : Int) ≤ k
        omega
    have e := ((st_pre (b := b) hk hc i).turns (b := b) _ hb).close hb
    exact e
theorem letts_pw {k b : Int} {cs : List Int} (hk : 0 ≤ k) (hc : ∀ c ∈ cs, c ≤ k) : (letts b cs).Pairwise (Rel k) := (st_pre hk hc cs.length).pw
theorem mem_all {ls : List Int} {rs : List (List Int)} {i : Nat} {r : List Int} (h : rs[i]? = some r) {p : Int × Int} (hp : p ∈ Tb.go ls 0 r) : ∀ n, i < n → Tb.ent ((i : Int) + 1) p ∈ Tb.all ls rs n
  | 0, hn => absurd hn (Nat.not_lt_zero _)
  | n + 1, hn => by
    show _ ∈ Tb.all ls rs n ++ Tb.ents ls ((n : Int) + 1) (rs.getD n [])
    by_cases e : i = n
    · subst e
      rw [Tb.getD_row h]
      exact List.mem_append_right _ (List.mem_map.mpr ⟨p, hp, rfl⟩)
    · exact List.mem_append_left _ (mem_all h hp n (by omega))
/-- an entry of the wait w -/
theorem mem_wait {ls : List Int} {rs : List (List Int)} (R : Tb.Right ls rs) {w : Int} (h1 : w ≤ (rs.length : Int)) {p : Int × Int} (hp : p ∈ Tb.go ls 0 (Dy.rowOf rs w)) :
    Tb.ent w p ∈ Tb.all ls rs rs.length ∧ 0 ≤ p.1 ∧ p.1 < w := by
  have h0 : 0 < w := by
    rcases Int.lt_or_le 0 w with z | z
    · exact z
    · rw [show Dy.rowOf rs w = [] from if_pos (by omega)] at hp
      cases hp
  obtain ⟨a, b, c, d⟩ := Dy.rowOf_at R h0 h1
  have e := mem_all a hp rs.length (by omega)
  rw [show (((w - 1).toNat : Nat) : Int) + 1 = w by omega] at e
  have rng := Tb.go_rng R.1 _ 0 b p hp
  rw [d] at rng
  exact ⟨e, rng.1, by omega⟩
theorem clash_at {ls : List Int} {rs : List (List Int)} (R : Tb.Right ls rs) {k : Int} {l m : Let} (rl : Rel k l m) {w v : Int} (hw : l.2.2 = some w) (hv : m.2.2 = some v) (w1 : w ≤ (rs.length : Int)) (v1 : v ≤ (rs.length : Int))
    {p q : Int × Int} (hp : p ∈ Tb.go ls 0 (Dy.rowOf rs w)) (hq : q ∈ Tb.go ls 0 (Dy.rowOf rs v)) (e1 : l.1 + p.1 = m.1 + q.1) (e2 : p.2 = q.2) : Cl.Clash k ls rs (Tb.ent w p) (Tb.ent v q) := by
  obtain ⟨a1, a2, a3⟩ := mem_wait R w1 hp
  obtain ⟨b1, b2, b3⟩ := mem_wait R v1 hq
  obtain ⟨r1, r2, r3, r4⟩ := rl
  obtain ⟨s1, s2⟩ := r4 w v hw hv
  have s3 := s2 (by omega)
  refine ⟨a1, b1, e2, ?_⟩
  have ed : m.1 - l.1 = p.1 - q.1 := by omega
  rw [ed] at s3
  show (decide ((v - q.1) - (w - p.1) > 0) && (decide (p.1 ≥ q.1) && decide ((v - q.1) - (w - p.1) ≤ k * (p.1 - q.1) + k - 1))) = true
  rw [decide_eq_true (by omega), decide_eq_true (by omega), decide_eq_true (by omega)]
  rfl
theorem prs_append (a b : List (List Int)) : Mt.prs (a ++ b) = Mt.prs a ++ Mt.prs b := List.map_append
theorem prs_lay (ls : List Int) (rs : List (List Int)) (n : Int) (l : Let) : Mt.prs (Dy.lay1 ls rs n l) = match l.2.2 with
    | none => []
    | some w => (Tb.go ls 0 (Dy.rowOf rs w)).map fun p => [l.1 + p.1, p.2] := by
  unfold Dy.lay1 Mt.prs
  cases l.2.2 with
  | none => rfl
  | some w =>
    show List.map _ (List.map _ _) = _
    rw [List.map_map]
    rfl
theorem lay_mem {ls : List Int} {rs : List (List Int)} : ∀ {L : List Let} {n : Int} {r : List Int}, r ∈ Mt.prs (Dy.lays ls rs n L) → ∃ l ∈ L, ∃ w p, l.2.2 = some w ∧ p ∈ Tb.go ls 0 (Dy.rowOf rs w) ∧ r = [l.1 + p.1, p.2]
  | [], _, _, h => by cases h
  | l :: L, n, r, h => by
    rw [show Dy.lays ls rs n (l :: L) = Dy.lay1 ls rs n l ++ Dy.lays ls rs (n + 1) L from rfl, prs_append] at h
    rcases List.mem_append.mp h with h | h
    · rw [prs_lay] at h
      cases hw : l.2.2 with
      | none =>
        rw [hw] at h
        cases h
      | some w =>
        rw [hw] at h
        obtain ⟨p, hp, e⟩ := List.mem_map.mp h
        exact ⟨l, List.mem_cons_self, w, p, hw, hp, e.symm⟩
    · obtain ⟨m, hm, rest⟩ := lay_mem h
      exact ⟨m, List.mem_cons_of_mem _ hm, rest⟩
theorem mem_lay {ls : List Int} {rs : List (List Int)} : ∀ {L : List Let} {n : Int} {i : Nat} {l : Let} {w : Int} {p : Int × Int}, L[i]? = some l → l.2.2 = some w → p ∈ Tb.go ls 0 (Dy.rowOf rs w) → [l.1 + p.1, p.2] ∈ Mt.prs (Dy.lays ls rs n L)
  | [], _, _, _, _, _, h, _, _ => by simp at h
  | m :: L, n, 0, l, w, p, h, hw, hp => by
    obtain rfl : m = l := by simpa using h
    rw [show Dy.lays ls rs n (m :: L) = Dy.lay1 ls rs n m ++ Dy.lays ls rs (n + 1) L from rfl, prs_append, prs_lay, hw]
    exact List.mem_append_left _ (List.mem_map.mpr ⟨p, hp, rfl⟩)
  | m :: L, n, i + 1, l, w, p, h, hw, hp => by
    rw [show Dy.lays ls rs n (m :: L) = Dy.lay1 ls rs n m ++ Dy.lays ls rs (n + 1) L from rfl, prs_append]
    exact List.mem_append_right _ (mem_lay (i := i) (by simpa using h) hw hp)
theorem nodup_lay {ls : List Int} {rs : List (List Int)} (R : Tb.Right ls rs) {n : Int} {l : Let} (h : ∀ w, l.2.2 = some w → w ≤ (rs.length : Int)) : (Mt.prs (Dy.lay1 ls rs n l)).Nodup := by
  rw [prs_lay]
  cases hw : l.2.2 with
  | none => exact .nil
  | some w =>
    show (List.map _ _).Nodup
    unfold List.Nodup
    rw [List.pairwise_map]
    rcases Int.lt_or_le 0 w with z | z
    · obtain ⟨_, b, _, _⟩ := Dy.rowOf_at R z (h w hw)
      refine (Tb.go_up R.1 _ 0 b).imp fun {p q} hpq e => ?_
      injection e with e1 _
      omega
    · rw [show Dy.rowOf rs w = [] from if_pos (by omega)]
      exact .nil
/-- no two letters enter one loop at one tick -/
theorem nodup_of_safe {ls : List Int} {rs : List (List Int)} (R : Tb.Right ls rs) {k : Int} (sf : Cl.Safe k ls rs) : ∀ {L : List Let} (n : Int), L.Pairwise (Rel k) → (∀ l ∈ L, ∀ w, l.2.2 = some w → w ≤ (rs.length : Int)) → (Mt.prs (Dy.lays ls rs n L)).Nodup
  | [], _, _, _ => .nil
  | l :: L, n, pw, hw => by
    obtain ⟨p1, p2⟩ := List.pairwise_cons.mp pw
    rw [show Dy.lays ls rs n (l :: L) = Dy.lay1 ls rs n l ++ Dy.lays ls rs (n + 1) L from rfl, prs_append]
    refine List.nodup_append.mpr ⟨nodup_lay R (hw l List.mem_cons_self), nodup_of_safe R sf (n + 1) p2 fun m hm => hw m (List.mem_cons_of_mem _ hm), fun a ha b hb e => ?_⟩
    subst e
    rw [prs_lay] at ha
    cases ew : l.2.2 with
    | none =>
      rw [ew] at ha
      cases ha
    | some w =>
      rw [ew] at ha
      obtain ⟨p, hp, e1⟩ := List.mem_map.mp ha
      obtain ⟨m, hm, v, q, ev, hq, e2⟩ := lay_mem hb
      rw [e2] at e1
      injection e1 with e3 e4
      injection e4 with e5 _
      exact sf _ _ (clash_at R (p1 m hm) ew ev (hw l List.mem_cons_self w ew) (hw m (List.mem_cons_of_mem _ hm) v ev) hp hq e3 e5)
theorem count_one : ∀ {P : List (List Int)}, P.Nodup → ∀ r, P.count r ≤ 1
  | [], _, r => by simp
  | x :: P, h, r => by
    obtain ⟨h1, h2⟩ := List.nodup_cons.mp h
    by_cases e : x = r
    · subst e
      rw [List.count_cons_self, List.count_eq_zero_of_not_mem h1]
      exact Nat.le_refl _
    · rw [List.count_cons_of_ne e]
      exact count_one h2 r
theorem nom_of_safe {ls : List Int} {rs : List (List Int)} (R : Tb.Right ls rs) {k : Int} (hk : 0 ≤ k) (sf : Cl.Safe k ls rs) {cs : List Int} (hc : ∀ c ∈ cs, c ≤ k) (r : List Int) : (Mt.prs (Dy.lays ls rs 0 (letts (rs.length : Int) cs))).count r ≤ 1 :=
  count_one (nodup_of_safe R sf 0 (letts_pw hk hc) fun l hl w hw => (Dy.letts_wt (rs := rs) cs l hl w hw).2) r
/-- more comers have all clashes of fewer -/
theorem safe_less {ls : List Int} {rs : List (List Int)} {k k' : Int} (hk : k' ≤ k) (R : Tb.Right ls rs) (h : Cl.Safe k ls rs) : Cl.Safe k' ls rs := fun x y hc => by
  obtain ⟨a, b, c, d⟩ := hc
  refine h x y ⟨a, b, c, ?_⟩
  unfold Cl.cond at d ⊢
  rw [Bool.and_eq_true, Bool.and_eq_true, decide_eq_true_iff, decide_eq_true_iff, decide_eq_true_iff] at d ⊢
  obtain ⟨d1, d2, d3⟩ := d
  have : k' * (x.getD 1 0 - y.getD 1 0) ≤ k * (x.getD 1 0 - y.getD 1 0) := Int.mul_le_mul_of_nonneg_right hk (by omega)
  exact ⟨d1, d2, by omega⟩
theorem all_take {ls : List Int} {rs : List (List Int)} : ∀ (m n : Nat), n ≤ m → Tb.all ls (rs.take m) n = Tb.all ls rs n
  | _, 0, _ => rfl
  | m, n + 1, h => by
    show Tb.all ls (rs.take m) n ++ Tb.ents ls _ ((rs.take m).getD n []) = Tb.all ls rs n ++ Tb.ents ls _ (rs.getD n [])
    rw [all_take m n (by omega), List.getD_eq_getElem?_getD, List.getD_eq_getElem?_getD, List.getElem?_take_of_lt (by omega)]
theorem all_mono {ls : List Int} {rs : List (List Int)} {e : List Int} : ∀ {n m : Nat}, n ≤ m → e ∈ Tb.all ls rs n → e ∈ Tb.all ls rs m
  | n, 0, h, he => by rwa [Nat.le_zero.mp h] at he
  | n, m + 1, h, he => by
    by_cases z : n = m + 1
    · rwa [z] at he
    · exact List.mem_append_left _ (all_mono (m := m) (by omega) he)
theorem clash_take {ls : List Int} {rs : List (List Int)} {k : Int} (m : Nat) {x y : List Int} (h : Cl.Clash k ls (rs.take m) x y) : Cl.Clash k ls rs x y := by
  obtain ⟨a, b, c, d⟩ := h
  have e : (rs.take m).length ≤ rs.length := by
    rw [List.length_take]
    omega
  have e2 : (rs.take m).length ≤ m := by
    rw [List.length_take]
    omega
  rw [all_take m _ e2] at a b
  exact ⟨all_mono e a, all_mono e b, c, d⟩
theorem safe_take {ls : List Int} {rs : List (List Int)} {k : Int} (m : Nat) (h : Cl.Safe k ls rs) : Cl.Safe k ls (rs.take m) := fun x y hc => h x y (clash_take m hc)
/-! ### the comings of a meeting -/
/-- what is left, i ticks from the end -/
def rr (c R : Int) (i : Nat) : Int := if R - c * (i : Int) > 0 then R - c * (i : Int) else 0
theorem rr_zero {c R : Int} (h : 0 < R) : rr c R 0 = R := by
  unfold rr
  rw [show ((0 : Nat) : Int) = 0 from rfl, Int.mul_zero]
  split <;> omega
theorem rr_step {c R : Int} (hc : 0 ≤ c) (i : Nat) : rr c R (i + 1) = rr c R i - (if c < rr c R i then c else rr c R i) ∧ 0 ≤ rr c R i ∧ rr c R (i + 1) ≤ rr c R i ∧ rr c R i - rr c R (i + 1) ≤ c := by
  unfold rr
  have e : c * ((i + 1 : Nat) : Int) = c * (i : Int) + c := by
    rw [show ((i + 1 : Nat) : Int) = (i : Int) + 1 by omega, Int.mul_add, Int.mul_one]
  rw [e]
  generalize c * (i : Int) = z
  split <;> split <;> (try split) <;> omega
theorem rr_nn {c R : Int} (i : Nat) : 0 ≤ rr c R i := by
  unfold rr
  split <;> omega
theorem rr_le {c R : Int} (h1 : 1 ≤ c) (h0 : 0 ≤ R) (i : Nat) : rr c R i ≤ (if R - (i : Int) > 0 then R - (i : Int) else 0) := by
  unfold rr
  have : (i : Int) ≤ c * (i : Int) := by
    have := Int.mul_le_mul_of_nonneg_right h1 (show (0 : Int) ≤ (i : Int) by omega)
    omega
  split <;> split <;> omega
/-- the numbers from the last tick on -/
def lf (c R : Int) : Nat → List Int
  | 0 => []
  | i + 1 => lf c R i ++ [rr c R i - rr c R (i + 1)]
theorem lf_len (c R : Int) : ∀ i, (lf c R i).length = i
  | 0 => rfl
  | i + 1 => by
    show (lf c R i ++ [_]).length = i + 1
    rw [List.length_append, lf_len c R i]
    rfl
theorem lf_at (c R : Int) : ∀ (n i : Nat), i < n → (lf c R n)[i]? = some (rr c R i - rr c R (i + 1))
  | n + 1, i, h => by
    show (lf c R n ++ [_])[i]? = _
    by_cases e : i < n
    · rw [List.getElem?_append_left (by rw [lf_len]; exact e), lf_at c R n i e]
    · obtain rfl : i = n := by omega
      rw [List.getElem?_append_right (by rw [lf_len]; exact Nat.le_refl _), lf_len, Nat.sub_self]
      rfl
/-- comings by which a letter with the wait w, and one R letters behind it that comes d ticks later, come -/
def mc (c w R : Int) (d : Nat) : List Int := List.replicate w.toNat 2 ++ [1 + rr c R d] ++ (lf c R d).reverse
/-- how many have come, from the first one on, ahead of the tick j -/
def am (c R : Int) (d : Nat) : Nat → Int
  | 0 => 0
  | j + 1 => 1 + rr c R (d - j)
theorem am_mono {c R : Int} (hc : 0 ≤ c) (d : Nat) : ∀ j, j ≤ d → am c R d j ≤ am c R d (j + 1)
  | 0, _ => by
    have := rr_nn (c := c) (R := R) (d - 0)
    show (0 : Int) ≤ 1 + rr c R (d - 0)
    omega
  | j + 1, h => by
    have := (rr_step (R := R) hc (d - (j + 1))).2.2.1
    rw [show d - (j + 1) + 1 = d - j by omega] at this
    show 1 + rr c R (d - j) ≤ 1 + rr c R (d - (j + 1))
    omega
theorem mc_len (c w R : Int) (d : Nat) : (mc c w R d).length = w.toNat + 1 + d := by
  unfold mc
  rw [List.length_append, List.length_append, List.length_replicate, List.length_reverse, lf_len]
  rfl
theorem mc_at {c w R : Int} {d : Nat} : ∀ j, j ≤ d → (mc c w R d).getD (w.toNat + j) 0 = am c R d (j + 1) - am c R d j
  | 0, _ => by
    unfold mc
    rw [List.getD_eq_getElem?_getD, List.append_assoc, List.getElem?_append_right (by rw [List.length_replicate]; omega), List.length_replicate, show w.toNat + 0 - w.toNat = 0 by omega]
    show 1 + rr c R d = 1 + rr c R (d - 0) - 0
    rw [Nat.sub_zero]
    omega
  | j + 1, h => by
    unfold mc
    have hl : (List.replicate w.toNat (2 : Int) ++ [1 + rr c R d]).length = w.toNat + 1 := by
      rw [List.length_append, List.length_replicate]
      rfl
    rw [List.getD_eq_getElem?_getD, List.getElem?_append_right (by rw [hl]; omega), hl, show w.toNat + (j + 1) - (w.toNat + 1) = j by omega, List.getElem?_reverse (by rw [lf_len]; omega), lf_len, lf_at c R d _ (by omega)]
    show rr c R (d - 1 - j) - rr c R (d - 1 - j + 1) = 1 + rr c R (d - (j + 1)) - (1 + rr c R (d - j))
    rw [show d - 1 - j = d - (j + 1) by omega, show d - (j + 1) + 1 = d - j by omega]
    omega
theorem mc_two {c w R : Int} {d : Nat} {j : Nat} (h : j < w.toNat) : (mc c w R d).getD j 0 = (List.replicate w.toNat 2).getD j 0 := by
  unfold mc
  rw [List.getD_eq_getElem?_getD, List.getD_eq_getElem?_getD, List.append_assoc, List.getElem?_append_left (by rw [List.length_replicate]; exact h)]
theorem mc_right {c w R : Int} {d : Nat} (hc : 2 ≤ c) (h0 : 0 < R) (h1 : R ≤ c * (d : Int) + c - 1) : ∀ x ∈ mc c w R d, 0 ≤ x ∧ x ≤ c := fun x hx => by
  unfold mc at hx
  rcases List.mem_append.mp hx with hx | hx
  · rcases List.mem_append.mp hx with hx | hx
    · rw [(List.mem_replicate.mp hx).2]
      omega
    · rw [List.mem_singleton.mp hx]
      unfold rr
      generalize c * (d : Int) = z at h1
      split <;> omega
  · rw [List.mem_reverse] at hx
    obtain ⟨i, hi⟩ := List.mem_iff_getElem?.mp hx
    have hl := (List.getElem?_eq_some_iff.mp hi).1
    rw [lf_len] at hl
    rw [lf_at c R d i hl] at hi
    have := rr_step (c := c) (R := R) (by omega) i
    rw [← Option.some.inj hi]
    omega
/-- all fit -/
theorem turns_fit {b τ : Int} {s : List Let × Int} : ∀ n : Nat, s.2 + (n : Int) ≤ b + 1 → (turns b τ n s).2 = s.2 + (n : Int) ∧ (turns b τ n s).1.length = s.1.length + n ∧
    (∃ rest, (turns b τ n s).1 = s.1 ++ rest) ∧ (0 < n → (turns b τ n s).1[s.1.length]? = some (τ, 1, some s.2)) ∧ (0 < n → (turns b τ n s).1[s.1.length + n - 1]? = some (τ, (n : Int), some (s.2 + (n : Int) - 1)))
  | 0, _ => ⟨by show s.2 = _; omega, rfl, ⟨[], (List.append_nil _).symm⟩, fun h => absurd h (Nat.lt_irrefl _), fun h => absurd h (Nat.lt_irrefl _)⟩
  | n + 1, h => by
    obtain ⟨a, l, ⟨rest, e⟩, f, _⟩ := turns_fit (b := b) (τ := τ) (s := s) n (by omega)
    have es : turns b τ (n + 1) s = ((turns b τ n s).1 ++ [(τ, 1 + (n : Int), some (turns b τ n s).2)], (turns b τ n s).2 + 1) := by
      show step b τ (1 + (n : Int)) (turns b τ n s) = _
      unfold step
      rw [if_neg (by omega)]
    rw [es]
    refine ⟨by show (turns b τ n s).2 + 1 = _; omega, ?_, ⟨rest ++ [(τ, 1 + (n : Int), some (turns b τ n s).2)], ?_⟩, fun _ => ?_, fun _ => ?_⟩
    · show (_ ++ [_]).length = _
      rw [List.length_append, l]
      rfl
    · show (turns b τ n s).1 ++ [_] = _
      rw [e, List.append_assoc]
    · show ((turns b τ n s).1 ++ [_])[s.1.length]? = _
      by_cases z : 0 < n
      · rw [List.getElem?_append_left (by omega), f z]
      · obtain rfl : n = 0 := by omega
        rw [List.getElem?_append_right (by omega), l, show s.1.length - (s.1.length + 0) = 0 by omega]
        show some (τ, 1 + ((0 : Nat) : Int), some (turns b τ 0 s).2) = some (τ, 1, some s.2)
        rfl
    · show ((turns b τ n s).1 ++ [_])[s.1.length + (n + 1) - 1]? = _
      rw [List.getElem?_append_right (by omega), l, show s.1.length + (n + 1) - 1 - (s.1.length + n) = 0 by omega]
      show some (τ, 1 + (n : Int), some (turns b τ n s).2) = some (τ, ((n + 1 : Nat) : Int), some (s.2 + ((n + 1 : Nat) : Int) - 1))
      rw [a, show ((n + 1 : Nat) : Int) = 1 + (n : Int) by omega, show s.2 + (1 + (n : Int)) - 1 = s.2 + (n : Int) by omega]
section
variable {b c w R : Int} {d : Nat}
theorem mc_state (hc : 2 ≤ c) (hR : 0 < R) (h1 : R ≤ c * (d : Int) + c - 1) (w0 : 0 ≤ w) (wb : w ≤ b) (hd : (d : Int) < w) (hv : w + R - (d : Int) ≤ b) : ∀ j : Nat, j ≤ d + 1 →
    (pre b (mc c w R d) (w.toNat + j)).2 = w + am c R d j - (j : Int) ∧ ((pre b (mc c w R d) (w.toNat + j)).1.length : Int) = 2 * w + am c R d j
  | 0, _ => by
    have ec : pre b (mc c w R d) w.toNat = pre b (List.replicate w.toNat 2) w.toNat := Wk.pre_congr _ fun j hj => mc_two hj
    obtain ⟨a, l, _⟩ := Wk.twos (b := b) w.toNat (List.replicate w.toNat 2) (by omega) rfl
    rw [Nat.add_zero, ec, a, l]
    show ((w.toNat : Nat) : Int) = w + 0 - ((0 : Nat) : Int) ∧ ((2 * w.toNat : Nat) : Int) = 2 * w + 0
    omega
  | j + 1, hj => by
    obtain ⟨a, l⟩ := mc_state hc hR h1 w0 wb hd hv j (by omega)
    have hm := am_mono (c := c) (R := R) (by omega) d j (by omega)
    have hg := mc_at (c := c) (w := w) (R := R) (d := d) j (by omega)
    have le := rr_le (c := c) (R := R) (by omega) (by omega) (d - j)
    have e1 : am c R d (j + 1) = 1 + rr c R (d - j) := rfl
    have nn := rr_nn (c := c) (R := R) (d - j)
    have ed : ((d - j : Nat) : Int) = (d : Int) - (j : Int) := by omega
    rw [ed] at le
    have fit : (pre b (mc c w R d) (w.toNat + j)).2 + (((am c R d (j + 1) - am c R d j).toNat : Nat) : Int) ≤ b + 1 := by
      rw [a, e1]
      rw [e1] at hm
      split at le <;> omega
    obtain ⟨t1, t2, _, _, _⟩ := turns_fit (b := b) (τ := ((w.toNat + j : Nat) : Int)) _ fit
    have ep : pre b (mc c w R d) (w.toNat + (j + 1)) = ((turns b ((w.toNat + j : Nat) : Int) (am c R d (j + 1) - am c R d j).toNat (pre b (mc c w R d) (w.toNat + j))).1, close (turns b ((w.toNat + j : Nat) : Int) (am c R d (j + 1) - am c R d j).toNat (pre b (mc c w R d) (w.toNat + j))).2) := by
      rw [← hg]
      rfl
    rw [ep]
    refine ⟨?_, ?_⟩
    · show close _ = _
      rw [t1, a]
      unfold close
      rw [e1] at hm ⊢
      rw [if_pos (by omega)]
      omega
    · show ((_ : List Let).length : Int) = _
      rw [t2]
      omega
theorem mc_letts (hc : 2 ≤ c) (hR : 0 < R) (h1 : R ≤ c * (d : Int) + c - 1) (w0 : 0 ≤ w) (wb : w ≤ b) (hd : (d : Int) < w) (hv : w + R - (d : Int) ≤ b) :
    ((letts b (mc c w R d)).length : Int) = 2 * w + R + 1 ∧ (letts b (mc c w R d))[(2 * w).toNat]? = some (w, 1, some w) ∧ ∃ u, (letts b (mc c w R d))[(2 * w + R).toNat]? = some (w + (d : Int), u, some (w + R - (d : Int))) := by
  have b0 : 0 ≤ b := by omega
  have len : (mc c w R d).length = w.toNat + (d + 1) := by
    rw [mc_len]
    omega
  have stp : ∀ j : Nat, j ≤ d → ∃ n : Nat, (n : Int) = am c R d (j + 1) - am c R d j ∧ 
      (pre b (mc c w R d) (w.toNat + (j + 1))).1 = (turns b ((w.toNat + j : Nat) : Int) n (pre b (mc c w R d) (w.toNat + j))).1 ∧ (pre b (mc c w R d) (w.toNat + j)).2 + (n : Int) ≤ b + 1 := fun j hj => by
    obtain ⟨a, l⟩ := mc_state hc hR h1 w0 wb hd hv j (by omega)
    have hm := am_mono (c := c) (R := R) (by omega) d j hj
    have hg := mc_at (c := c) (w := w) (R := R) (d := d) j hj
    have le := rr_le (c := c) (R := R) (by omega) (by omega) (d - j)
    have e1 : am c R d (j + 1) = 1 + rr c R (d - j) := rfl
    have nn := rr_nn (c := c) (R := R) (d - j)
    have ed : ((d - j : Nat) : Int) = (d : Int) - (j : Int) := by omega
    rw [ed] at le
    refine ⟨(am c R d (j + 1) - am c R d j).toNat, by omega, ?_, ?_⟩
    · rw [← hg]
      rfl
    · rw [a, e1]
      rw [e1] at hm
      split at le <;> omega
  have rz := rr_zero (c := c) hR
  have ad : am c R d (d + 1) = 1 + R := by
    show 1 + rr c R (d - d) = 1 + R
    rw [Nat.sub_self, rz]
  have el : letts b (mc c w R d) = (pre b (mc c w R d) (w.toNat + (d + 1))).1 := by
    unfold letts
    rw [len]
  refine ⟨?_, ?_, ?_⟩
  · obtain ⟨_, l⟩ := mc_state hc hR h1 w0 wb hd hv (d + 1) (Nat.le_refl _)
    rw [el, l, ad]
    omega
  · obtain ⟨n, hn, e, fit⟩ := stp 0 (Nat.zero_le _)
    obtain ⟨a, l⟩ := mc_state hc hR h1 w0 wb hd hv 0 (by omega)
    have n0 : 0 < n := by
      have : am c R d (0 + 1) = 1 + rr c R (d - 0) := rfl
      have : am c R d 0 = 0 := rfl
      have := rr_nn (c := c) (R := R) (d - 0)
      omega
    obtain ⟨_, t2, _, t4, _⟩ := turns_fit (b := b) (τ := ((w.toNat + 0 : Nat) : Int)) n fit
    have t4 := t4 n0
    rw [← e] at t4
    have l0 : (pre b (mc c w R d) (w.toNat + 0)).1.length = (2 * w).toNat := by
      have : am c R d 0 = 0 := rfl
      omega
    have a0 : (pre b (mc c w R d) (w.toNat + 0)).2 = w := by
      have : am c R d 0 = 0 := rfl
      omega
    rw [l0, a0, show (((w.toNat + 0 : Nat)) : Int) = w by omega] at t4
    obtain ⟨rest, er, _⟩ := Dy.pre_app b0 (mc c w R d) (w.toNat + 1) d
    rw [el, show w.toNat + (d + 1) = w.toNat + 1 + d by omega, er, List.getElem?_append_left ((List.getElem?_eq_some_iff.mp t4).1)]
    exact t4
  · obtain ⟨n, hn, e, fit⟩ := stp d (Nat.le_refl _)
    obtain ⟨a, l⟩ := mc_state hc hR h1 w0 wb hd hv d (by omega)
    have n0 : 0 < n := by
      rw [ad] at hn
      cases d with
      | zero =>
        have : am c R 0 0 = 0 := rfl
        omega
      | succ d =>
        have e2 : am c R (d + 1) (d + 1) = 1 + rr c R (d + 1 - d) := rfl
        rw [show d + 1 - d = 0 + 1 by omega, (rr_step (c := c) (R := R) (by omega) 0).1, rz] at e2
        split at e2 <;> omega
    obtain ⟨_, t2, _, _, t5⟩ := turns_fit (b := b) (τ := ((w.toNat + d : Nat) : Int)) n fit
    have t5 := t5 n0
    rw [← e, ← el] at t5
    refine ⟨(n : Int), ?_⟩
    rw [show (pre b (mc c w R d) (w.toNat + d)).1.length + n - 1 = (2 * w + R).toNat by omega, show (((w.toNat + d : Nat)) : Int) = w + (d : Int) by omega, show (pre b (mc c w R d) (w.toNat + d)).2 + (n : Int) - 1 = w + R - (d : Int) by omega] at t5
    exact t5
end
/-! ### who meets -/
theorem all_inv {ls : List Int} {rs : List (List Int)} : ∀ {n : Nat} {e : List Int}, n ≤ rs.length → e ∈ Tb.all ls rs n → ∃ w p, 1 ≤ w ∧ w ≤ (n : Int) ∧ p ∈ Tb.go ls 0 (Dy.rowOf rs w) ∧ e = Tb.ent w p
  | 0, e, _, h => by cases h
  | n + 1, e, hn, h => by
    rcases List.mem_append.mp h with h | h
    · obtain ⟨w, p, a, b, c, d⟩ := all_inv (by omega) h
      exact ⟨w, p, a, by omega, c, d⟩
    · obtain ⟨p, hp, rfl⟩ := List.mem_map.mp h
      refine ⟨(n : Int) + 1, p, by omega, by omega, ?_, rfl⟩
      rw [show Dy.rowOf rs ((n : Int) + 1) = rs.getD n [] by
        unfold Dy.rowOf
        rw [if_neg (by omega), show ((n : Int) + 1 - 1).toNat = n by omega]]
      exact hp
/-- the places of a letter: when it enters which loop -/
def pl (ls : List Int) (rs : List (List Int)) (l : Let) : List (List Int) := match l.2.2 with
  | none => []
  | some w => (Tb.go ls 0 (Dy.rowOf rs w)).map fun p => [l.1 + p.1, p.2]
/-- the letters i and j enter one loop at one tick -/
def Mts (ls : List Int) (rs : List (List Int)) (cs : List Int) (i j : Nat) : Prop := ∃ l m r, (letts (rs.length : Int) cs)[i]? = some l ∧ (letts (rs.length : Int) cs)[j]? = some m ∧ r ∈ pl ls rs l ∧ r ∈ pl ls rs m
theorem mem_pl {ls : List Int} {rs : List (List Int)} {L : List Let} {n : Int} {i : Nat} {l : Let} {r : List Int} (h : L[i]? = some l) (hr : r ∈ pl ls rs l) : r ∈ Mt.prs (Dy.lays ls rs n L) := by
  unfold pl at hr
  cases e : l.2.2 with
  | none =>
    rw [e] at hr
    cases hr
  | some w =>
    rw [e] at hr
    obtain ⟨p, hp, rfl⟩ := List.mem_map.mp hr
    exact mem_lay h e hp
theorem lays_append (ls : List Int) (rs : List (List Int)) : ∀ (A B : List Let) (n : Int), Dy.lays ls rs n (A ++ B) = Dy.lays ls rs n A ++ Dy.lays ls rs (n + (A.length : Int)) B
  | [], B, n => by
    show _ = [] ++ Dy.lays ls rs (n + ((0 : Nat) : Int)) B
    rw [List.nil_append, show n + ((0 : Nat) : Int) = n by omega]
    rfl
  | a :: A, B, n => by
    show Dy.lay1 ls rs n a ++ Dy.lays ls rs (n + 1) (A ++ B) = (Dy.lay1 ls rs n a ++ Dy.lays ls rs (n + 1) A) ++ Dy.lays ls rs (n + ((A.length + 1 : Nat) : Int)) B
    rw [lays_append ls rs A B (n + 1), List.append_assoc, show n + 1 + (A.length : Int) = n + ((A.length + 1 : Nat) : Int) by omega]
theorem mts_two {ls : List Int} {rs : List (List Int)} {cs : List Int} {i j : Nat} (h : Mts ls rs cs i j) (hij : i < j) : ∃ r, 2 ≤ (Mt.prs (Dy.lays ls rs 0 (letts (rs.length : Int) cs))).count r := by
  obtain ⟨l, m, r, h1, h2, r1, r2⟩ := h
  refine ⟨r, ?_⟩
  have e : letts (rs.length : Int) cs = (letts (rs.length : Int) cs).take j ++ (letts (rs.length : Int) cs).drop j := (List.take_append_drop _ _).symm
  rw [e, lays_append, prs_append, List.count_append]
  have m1 : r ∈ Mt.prs (Dy.lays ls rs 0 ((letts (rs.length : Int) cs).take j)) := mem_pl (i := i) (by rw [List.getElem?_take_of_lt hij]; exact h1) r1
  have m2 : r ∈ Mt.prs (Dy.lays ls rs (0 + (((letts (rs.length : Int) cs).take j).length : Int)) ((letts (rs.length : Int) cs).drop j)) := mem_pl (i := 0) (by rw [List.getElem?_drop]; exact h2) r2
  have := List.count_pos_iff.mpr m1
  have := List.count_pos_iff.mpr m2
  omega
/-- a clash has its meeting -/
theorem clash_mts {c : Int} {ls : List Int} {rs : List (List Int)} (R : Tb.Right ls rs) (c2 : 2 ≤ c) {x y : List Int} (h : Cl.Clash c ls rs x y) {w Rr : Int} {d : Nat} (ew : w = x.getD 1 0 + x.getD 2 0) (eR : Rr = y.getD 2 0 - x.getD 2 0) (ed : d = (x.getD 1 0 - y.getD 1 0).toNat) :
    (∀ v ∈ mc c w Rr d, 0 ≤ v ∧ v ≤ c) ∧ (mc c w Rr d).length ≤ 400 ∧ 0 < Rr ∧ 0 ≤ w ∧ ((letts (rs.length : Int) (mc c w Rr d)).length : Int) = 2 * w + Rr + 1 ∧ Mts ls rs (mc c w Rr d) (2 * w).toNat (2 * w + Rr).toNat := by
  obtain ⟨a, b, hh, cd⟩ := h
  obtain ⟨wx, p, x1, x2, hp, rfl⟩ := all_inv (Nat.le_refl _) a
  obtain ⟨wy, q, y1, y2, hq, rfl⟩ := all_inv (Nat.le_refl _) b
  obtain ⟨_, p0, p1⟩ := mem_wait R x2 hp
  obtain ⟨_, q0, q1⟩ := mem_wait R y2 hq
  have r60 := R.2.2.1
  have cd' : (decide ((wy - q.1) - (wx - p.1) > 0) && (decide (p.1 ≥ q.1) && decide ((wy - q.1) - (wx - p.1) ≤ c * (p.1 - q.1) + c - 1))) = true := cd
  rw [Bool.and_eq_true, Bool.and_eq_true, decide_eq_true_iff, decide_eq_true_iff, decide_eq_true_iff] at cd'
  obtain ⟨d1, d2, d3⟩ := cd'
  have ew' : w = wx := by
    rw [ew]
    show p.1 + (wx - p.1) = wx
    omega
  have eR' : Rr = (wy - q.1) - (wx - p.1) := eR
  have ed' : (d : Int) = p.1 - q.1 := by
    rw [ed]
    show (((p.1 - q.1).toNat : Nat) : Int) = p.1 - q.1
    omega
  rw [← ed', ← eR'] at d3
  have hk : p.2 = q.2 := hh
  obtain ⟨len, l1, u, l2⟩ := mc_letts (b := (rs.length : Int)) (w := w) (d := d) c2 (show 0 < Rr by omega) (by omega) (by omega) (by omega) (by omega) (by omega)
  refine ⟨mc_right c2 (by omega) (by omega), by rw [mc_len]; omega, by omega, by omega, len, _, _, [w + p.1, p.2], l1, l2, ?_, ?_⟩
  · show _ ∈ (Tb.go ls 0 (Dy.rowOf rs w)).map _
    rw [ew']
    exact List.mem_map.mpr ⟨p, hp, rfl⟩
  · show _ ∈ (Tb.go ls 0 (Dy.rowOf rs (w + Rr - (d : Int)))).map _
    rw [show w + Rr - (d : Int) = wy by omega]
    refine List.mem_map.mpr ⟨q, hq, ?_⟩
    show [w + (d : Int) + q.1, q.2] = [w + p.1, p.2]
    rw [hk, show w + (d : Int) + q.1 = w + p.1 by omega]
/-! ### a letter a tick -/
theorem pre_succ {b : Int} {cs : List Int} {i n : Nat} (h : (cs.getD i 0).toNat = n) : pre b cs (i + 1) = ((turns b (i : Int) n (pre b cs i)).1, close (turns b (i : Int) n (pre b cs i)).2) := by
  subst h
  rfl
def oc (w : Nat) : List Int := List.replicate w 2 ++ List.replicate (w + 1) 1
theorem oc_len (w : Nat) : (oc w).length = w + (w + 1) := by
  unfold oc
  rw [List.length_append, List.length_replicate, List.length_replicate]
theorem oc_state {b : Int} {w : Nat} (hb : (w : Int) ≤ b) : ∀ m : Nat, m ≤ w + 1 → (pre b (oc w) (w + m)).2 = (w : Int) ∧ (pre b (oc w) (w + m)).1.length = 2 * w + m
  | 0, _ => by
    have ec : pre b (oc w) w = pre b (List.replicate w 2) w := Wk.pre_congr _ fun j hj => by
      unfold oc
      rw [List.getD_eq_getElem?_getD, List.getD_eq_getElem?_getD, List.getElem?_append_left (by rw [List.length_replicate]; exact hj)]
    obtain ⟨a, l, _⟩ := Wk.twos (b := b) w (List.replicate w 2) hb rfl
    rw [Nat.add_zero, ec]
    exact ⟨a, l⟩
  | m + 1, hm => by
    obtain ⟨a, l⟩ := oc_state hb m (by omega)
    have hg : (oc w).getD (w + m) 0 = 1 := by
      unfold oc
      rw [List.getD_eq_getElem?_getD, List.getElem?_append_right (by rw [List.length_replicate]; omega), List.length_replicate, List.getElem?_replicate, if_pos (by omega)]
      rfl
    have fit : (pre b (oc w) (w + m)).2 + ((1 : Nat) : Int) ≤ b + 1 := by omega
    obtain ⟨t1, t2, _⟩ := turns_fit (b := b) (τ := ((w + m : Nat) : Int)) 1 fit
    have ep : pre b (oc w) (w + (m + 1)) = ((turns b ((w + m : Nat) : Int) 1 (pre b (oc w) (w + m))).1, close (turns b ((w + m : Nat) : Int) 1 (pre b (oc w) (w + m))).2) := pre_succ (i := w + m) (congrArg Int.toNat hg)
    rw [ep]
    refine ⟨?_, ?_⟩
    · show close _ = _
      rw [t1, a]
      unfold close
      rw [if_pos (by omega)]
      omega
    · show (_ : List Let).length = _
      rw [t2, l]
      omega
theorem oc_at {b : Int} {w : Nat} (hb : (w : Int) ≤ b) {m : Nat} (hm : m ≤ w) : (letts b (oc w))[2 * w + m]? = some (((w + m : Nat) : Int), 1, some (w : Int)) := by
  obtain ⟨a, l⟩ := oc_state hb m (by omega)
  have hg : (oc w).getD (w + m) 0 = 1 := by
    unfold oc
    rw [List.getD_eq_getElem?_getD, List.getElem?_append_right (by rw [List.length_replicate]; omega), List.length_replicate, List.getElem?_replicate, if_pos (by omega)]
    rfl
  have fit : (pre b (oc w) (w + m)).2 + ((1 : Nat) : Int) ≤ b + 1 := by omega
  obtain ⟨_, _, _, t4, _⟩ := turns_fit (b := b) (τ := ((w + m : Nat) : Int)) 1 fit
  have t4 := t4 (by decide)
  rw [l, a] at t4
  have ep : (pre b (oc w) (w + m + 1)).1 = (turns b ((w + m : Nat) : Int) 1 (pre b (oc w) (w + m))).1 := by
    rw [pre_succ (n := 1) (by rw [hg]; rfl)]
  rw [← ep] at t4
  obtain ⟨rest, er, _⟩ := Dy.pre_app (b := b) (by omega) (oc w) (w + m + 1) (w - m)
  have el : letts b (oc w) = (pre b (oc w) (w + m + 1 + (w - m))).1 := by
    unfold letts
    rw [oc_len, show w + (w + 1) = w + m + 1 + (w - m) by omega]
  rw [el, er, List.getElem?_append_left ((List.getElem?_eq_some_iff.mp t4).1)]
  exact t4
/-- what the letters with this wait enter -/
def ofW (ls : List Int) (rs : List (List Int)) (w : Int) (L : List Let) : List (List Int) := (L.filter fun l => decide (l.2.2 = some w)).flatMap (pl ls rs)
theorem ofW_snoc (ls : List Int) (rs : List (List Int)) (w : Int) (L : List Let) (l : Let) : ofW ls rs w (L ++ [l]) = if l.2.2 = some w then ofW ls rs w L ++ pl ls rs l else ofW ls rs w L := by
  unfold ofW
  rw [List.filter_append]
  by_cases h : l.2.2 = some w
  · rw [if_pos h, List.filter_cons_of_pos (by simpa using h), List.flatMap_append]
    simp
  · rw [if_neg h, List.filter_cons_of_neg (by simpa using h)]
    simp
theorem ofW_mem {ls : List Int} {rs : List (List Int)} {w : Int} {L : List Let} {l : Let} (h : l ∈ L) (hw : l.2.2 = some w) {r : List Int} (hr : r ∈ pl ls rs l) : r ∈ ofW ls rs w L :=
  List.mem_flatMap.mpr ⟨l, List.mem_filter.mpr ⟨h, by simpa using hw⟩, hr⟩
theorem ofW_append (ls : List Int) (rs : List (List Int)) (w : Int) (A B : List Let) : ofW ls rs w (A ++ B) = ofW ls rs w A ++ ofW ls rs w B := by
  unfold ofW
  rw [List.filter_append, List.flatMap_append]
/-- two of them enter one loop at one tick -/
theorem oc_dup {ls : List Int} {rs : List (List Int)} {w : Nat} (hw : (w : Int) ≤ (rs.length : Int)) {p q : Int × Int} (hp : p ∈ Tb.go ls 0 (Dy.rowOf rs (w : Int))) (hq : q ∈ Tb.go ls 0 (Dy.rowOf rs (w : Int))) (e : p.2 = q.2) (lt : p.1 < q.1) (p0 : 0 ≤ p.1) (qw : q.1 < (w : Int)) :
    ∃ j r, (ofW ls rs (w : Int) (letts (rs.length : Int) (oc w)))[j]? = some r ∧ r ∈ (ofW ls rs (w : Int) (letts (rs.length : Int) (oc w))).take j := by
  have h0 := oc_at hw (m := 0) (by omega)
  obtain ⟨m, hm⟩ : ∃ m : Nat, (m : Int) = q.1 - p.1 := ⟨(q.1 - p.1).toNat, by omega⟩
  have h1 := oc_at hw (m := m) (by omega)
  generalize letts (rs.length : Int) (oc w) = L at h0 h1
  have eL : L = L.take (2 * w + m) ++ L.drop (2 * w + m) := (List.take_append_drop _ _).symm
  have r0 : [(w : Int) + q.1, q.2] ∈ ofW ls rs (w : Int) (L.take (2 * w + m)) := by
    refine ofW_mem (l := (((w + 0 : Nat) : Int), 1, some (w : Int))) (List.mem_iff_getElem?.mpr ⟨2 * w + 0, ?_⟩) rfl ?_
    · rw [List.getElem?_take_of_lt (by omega)]
      exact h0
    · exact List.mem_map.mpr ⟨q, hq, rfl⟩
  have r1 : [(w : Int) + q.1, q.2] ∈ ofW ls rs (w : Int) (L.drop (2 * w + m)) := by
    refine ofW_mem (l := (((w + m : Nat) : Int), 1, some (w : Int))) (List.mem_iff_getElem?.mpr ⟨0, ?_⟩) rfl ?_
    · rw [List.getElem?_drop]
      exact h1
    · refine List.mem_map.mpr ⟨p, hp, ?_⟩
      show [((w + m : Nat) : Int) + p.1, p.2] = [(w : Int) + q.1, q.2]
      rw [e, show ((w + m : Nat) : Int) + p.1 = (w : Int) + q.1 by omega]
  have eE : ofW ls rs (w : Int) L = ofW ls rs (w : Int) (L.take (2 * w + m)) ++ ofW ls rs (w : Int) (L.drop (2 * w + m)) := by
    rw [← ofW_append, ← eL]
  obtain ⟨i, hi⟩ := List.mem_iff_getElem?.mp r1
  rw [eE]
  refine ⟨(ofW ls rs (w : Int) (L.take (2 * w + m))).length + i, [(w : Int) + q.1, q.2], ?_, ?_⟩
  · rw [List.getElem?_append_right (by omega), Nat.add_sub_cancel_left]
    exact hi
  · rw [List.take_append]
    refine List.mem_append_left _ ?_
    rw [List.take_of_length_le (by omega)]
    exact r0
/-! ### a loop twice in a row -/
theorem go_filter_len (ls : List Int) (k : Int) : ∀ (r : List Int) (g : Int), ((Tb.go ls g r).filter fun p => decide (p.2 = k)).length = (r.filter fun x => decide (x = k)).length
  | [], _ => rfl
  | x :: r, g => by
    show (((g, x) :: Tb.go ls (g + Tb.len1 ls x) r).filter _).length = _
    by_cases e : x = k
    · rw [List.filter_cons_of_pos (by simpa using e), List.filter_cons_of_pos (by simpa using e), List.length_cons, List.length_cons, go_filter_len]
    · rw [List.filter_cons_of_neg (by simpa using e), List.filter_cons_of_neg (by simpa using e), go_filter_len]
theorem twice {ls : List Int} (G : Rch.Good ls) {k : Int} {rot row : List Int} {n : Nat} (h : rot = (k :: k :: row).drop n ++ (k :: k :: row).take n) (hin : Tb.InR ls rot) :
    ∃ p q rest, (Tb.go ls 0 rot).filter (fun p => decide (p.2 = k)) = p :: q :: rest ∧ p.1 < q.1 ∧ p.2 = k ∧ q.2 = k ∧ p ∈ Tb.go ls 0 rot ∧ q ∈ Tb.go ls 0 rot := by
  have hl : 2 ≤ ((Tb.go ls 0 rot).filter fun p => decide (p.2 = k)).length := by
    rw [go_filter_len, h]
    have pm : ((k :: k :: row).drop n ++ (k :: k :: row).take n).Perm (k :: k :: row) := by
      refine List.perm_append_comm.trans ?_
      rw [List.take_append_drop]
    rw [(pm.filter _).length_eq, List.filter_cons_of_pos (by simp), List.filter_cons_of_pos (by simp), List.length_cons, List.length_cons]
    omega
  have pw := (Tb.go_up G rot 0 hin).sublist (List.filter_sublist (l := Tb.go ls 0 rot) (p := fun p => decide (p.2 = k)))
  cases e : (Tb.go ls 0 rot).filter fun p => decide (p.2 = k) with
  | nil =>
    rw [e] at hl
    exact absurd hl (by decide)
  | cons p r =>
    cases r with
    | nil =>
      rw [e] at hl
      exact absurd hl (by simp)
    | cons q rest =>
      rw [e] at pw
      have hp : p ∈ (Tb.go ls 0 rot).filter fun p => decide (p.2 = k) := by
        rw [e]
        exact List.mem_cons_self
      have hq : q ∈ (Tb.go ls 0 rot).filter fun p => decide (p.2 = k) := by
        rw [e]
        exact List.mem_cons_of_mem _ List.mem_cons_self
      obtain ⟨p1, p2⟩ := List.mem_filter.mp hp
      obtain ⟨q1, q2⟩ := List.mem_filter.mp hq
      exact ⟨p, q, rest, rfl, (List.pairwise_cons.mp pw).1 q List.mem_cons_self, of_decide_eq_true p2, of_decide_eq_true q2, p1, q1⟩
theorem ents_filter (ls : List Int) (w k : Int) (r : List Int) : (Tb.ents ls w r).filter (fun e => decide (Cl.hd e = k)) = ((Tb.go ls 0 r).filter fun p => decide (p.2 = k)).map (Tb.ent w) := by
  unfold Tb.ents
  rw [List.filter_map]
  rfl
theorem twice_clash {ls : List Int} {rs : List (List Int)} (R : Tb.Right ls rs) {c w : Int} (c1 : 0 ≤ c) (hw : w ≤ (rs.length : Int)) {p q : Int × Int} (hp : p ∈ Tb.go ls 0 (Dy.rowOf rs w)) (hq : q ∈ Tb.go ls 0 (Dy.rowOf rs w)) (lt : p.1 < q.1) (e : p.2 = q.2) (c2 : 1 ≤ c) : Cl.Clash c ls rs (Tb.ent w q) (Tb.ent w p) := by
  obtain ⟨a1, _, _⟩ := mem_wait R hw hp
  obtain ⟨b1, _, _⟩ := mem_wait R hw hq
  refine ⟨b1, a1, e.symm, ?_⟩
  have hm : q.1 - p.1 ≤ c * (q.1 - p.1) := by
    have := Int.mul_le_mul_of_nonneg_right c2 (show 0 ≤ q.1 - p.1 by omega)
    omega
  show (decide ((w - p.1) - (w - q.1) > 0) && (decide (q.1 ≥ p.1) && decide ((w - p.1) - (w - q.1) ≤ c * (q.1 - p.1) + c - 1))) = true
  rw [decide_eq_true (by omega), decide_eq_true (by omega), decide_eq_true (by omega)]
  rfl
end Sf

/-! ## generators: if, for, a lock; the first item alone -/
namespace GZ
open PySem PySem.Spec PyProof.Rows L2 GenW
section
variable {M : Model} {A : Around} {R : GenEnd} {Y : Protocol} {n : Nat} {s₀ : Shared} {c : Code} {fs : List Frame} {s : Shared} {env : Env}
  {K : Flow → Sem PySem.Fin} {J : Value → Sem PySem.Fin} {gd : Bool → Bool} {lv : List Value → List Value}
theorem seg_If {test : Expr} {a b : List Stmt} {pos : Pos}
    (h : wpAny M (A.over c fs) (isTrue test env (eval test env)) (fun d s' => if d = true then Seg M A R Y n s₀ c ((execs a env).wrap K J gd lv) fs s' else Seg M A R Y n s₀ c ((execs b env).wrap K J gd lv) fs s')
      (fun x s' => Seg M A R Y n s₀ c (J x) fs s') s) :
    Seg M A R Y n s₀ c ((exec (.If test a b pos) env).wrap K J gd lv) fs s := by
  show Seg M A R Y n s₀ c (.at pos fun _ => (isTrue test env (eval test env) >>= fun d => if d = true then execs a env else execs b env).wrap K J gd lv) fs s
  refine seg_at ?_
  rw [Sem.bind_eq_wrap', Sem.wrap_wrap]
  refine seg_wrap (wpAny_mono h (fun d s' hd => ?_) fun _ _ x => x)
  cases d with
  | true =>
    rw [if_pos rfl] at hd
    exact hd
  | false =>
    rw [if_neg Bool.false_ne_true] at hd
    exact hd
theorem seg_For {target iter : Expr} {body orelse : List Stmt} {pos : Pos}
    (h : wpAny M (A.over c fs) (eval iter env) (fun x s1 => wpAny M (A.over c fs) (pyIter x) (fun it s2 => ∀ p, Seg M A R Y n s₀ (.forLoop target it body orelse env) (M.den (.forLoop target it body orelse env))
      (.ret (fun r => ((match r with | .ok f => (.pure f : Sem Flow) | .error e => .raise e).onRaise (cameBack env)).wrap K J gd lv) none (gd false) (lv []) c p [] :: fs) s2)
        (fun x s' => Seg M A R Y n s₀ c (J x) fs s') s1) (fun x s' => Seg M A R Y n s₀ c (J x) fs s') s)
    (hs : ∀ x, foldedSetIterable iter env x = pure x := by intro _; rfl) :
    Seg M A R Y n s₀ c ((exec (.For target iter body orelse pos) env).wrap K J gd lv) fs s := by
  rw [exec_For]
  show Seg M A R Y n s₀ c (.at pos fun _ => (eval iter env >>= fun v => foldedSetIterable iter env v >>= fun x => standAt iter.pos >>= fun _ => holding [x] (pyIter x) >>= fun it => runOwn (.forLoop target it body orelse env) env).wrap K J gd lv) fs s
  refine seg_at ?_
  rw [Sem.bind_eq_wrap', Sem.wrap_wrap]
  refine seg_wrap (wpAny_mono h (fun x s1 h1 => ?_) fun _ _ x => x)
  simp only [hs]
  show Seg M A R Y n s₀ c (Sem.wrap _ _ _ _ (standAt iter.pos >>= fun _ => holding [x] (pyIter x) >>= fun it => runOwn (.forLoop target it body orelse env) env)) fs s1
  rw [Sem.bind_eq_wrap', Sem.wrap_wrap]
  refine seg_wrap (wpAny_standAt ?_)
  show Seg M A R Y n s₀ c (Sem.wrap _ _ _ _ (holding [x] (pyIter x) >>= fun it => runOwn (.forLoop target it body orelse env) env)) fs s1
  rw [Sem.bind_eq_wrap', Sem.wrap_wrap]
  refine seg_wrap (wpAny_holding (wpAny_mono h1 (fun it s2 h2 => ?_) fun _ _ x => x))
  exact seg_call h2
end
section
variable {prog : Program} {w : World} {A : Around} {R : GenEnd} {Y : Protocol} {n : Nat} {s₀ : Shared} {fs : List Frame} {s : Shared} {env : Env}
theorem seg_forLoop {target : Expr} {it : Value} {body orelse : List Stmt}
    (h : wpAny (model prog w) (A.over (.forLoop target it body orelse env) fs) (pyNext it) (fun r s1 => match r with
        | none => Seg (model prog w) A R Y n s₀ (.forLoop target it body orelse env) (.pure (.again (.block orelse env))) fs s1
        | some v => wpAny (model prog w) (A.over (.forLoop target it body orelse env) fs) (letOwnedTupleGo target it v) (fun _ s2 => wpAny (model prog w) (A.over (.forLoop target it body orelse env) fs) (assign target env v) (fun _ s3 =>
          Seg (model prog w) A R Y n s₀ (.forLoop target it body orelse env) ((execs body env).wrap (fun f => match f with
            | .next | .cont => .pure (.again (.forLoop target it body orelse env))
            | .brk => .pure (.done .next)
            | .ret v => .pure (.done (.ret v))) (fun e => (do noteFrame e env; theTreesLotGoes e : Sem Unit).wrap (fun _ => .raise e) .raise id id) id id) fs s3)
          (fun x s' => Seg (model prog w) A R Y n s₀ (.forLoop target it body orelse env) ((do noteFrame x env; theTreesLotGoes x : Sem Unit).wrap (fun _ => .raise x) .raise id id) fs s') s2)
          (fun x s' => Seg (model prog w) A R Y n s₀ (.forLoop target it body orelse env) ((do noteFrame x env; theTreesLotGoes x : Sem Unit).wrap (fun _ => .raise x) .raise id id) fs s') s1)
      (fun x s' => Seg (model prog w) A R Y n s₀ (.forLoop target it body orelse env) ((do noteFrame x env; theTreesLotGoes x : Sem Unit).wrap (fun _ => .raise x) .raise id id) fs s') s) :
    Seg (model prog w) A R Y n s₀ (.forLoop target it body orelse env) ((model prog w).den (.forLoop target it body orelse env)) fs s := by
  show Seg _ A R Y n s₀ _ ((forTurn target it body orelse env).onRaise (fun x => do noteFrame x env; theTreesLotGoes x)) fs s
  have ex : ∀ x s', Seg (model prog w) A R Y n s₀ (.forLoop target it body orelse env) ((do noteFrame x env; theTreesLotGoes x : Sem Unit).wrap (fun _ => .raise x) .raise id id) fs s' →
      Seg (model prog w) A R Y n s₀ (.forLoop target it body orelse env) ((do noteFrame x env; theTreesLotGoes x : Sem Unit).bind fun _ => .raise x) fs s' := fun x s' hx => by
    rw [Sem.bind_eq_wrap]
    exact hx
  unfold forTurn
  rw [Sem.onRaise_eq_wrap, Sem.bind_eq_wrap', Sem.wrap_wrap]
  refine seg_wrap (wpAny_standAt ?_)
  rw [Sem.bind_eq_wrap', Sem.wrap_wrap]
  refine seg_wrap (wpAny_onRaise (wpAny_mono h (fun r s1 h1 => ?_) fun x s' hx => wpAny_standAt (ex x s' hx)))
  cases r with
  | none => exact h1
  | some v =>
    show Seg _ A R Y n s₀ _ (Sem.wrap _ _ _ _ (letOwnedTupleGo target it v >>= fun _ => assign target env v >>= fun _ => execs body env >>= _)) fs s1
    rw [Sem.bind_eq_wrap', Sem.wrap_wrap]
    refine seg_wrap (wpAny_mono h1 (fun _ s2 h2 => ?_) fun x s' hx => ex x s' hx)
    show Seg _ A R Y n s₀ _ (Sem.wrap _ _ _ _ (assign target env v >>= fun _ => execs body env >>= _)) fs s2
    rw [Sem.bind_eq_wrap', Sem.wrap_wrap]
    refine seg_wrap (wpAny_mono h2 (fun _ s3 h3 => ?_) fun x s' hx => ex x s' hx)
    show Seg _ A R Y n s₀ _ (Sem.wrap _ _ _ _ (execs body env >>= _)) fs s3
    rw [Sem.bind_eq_wrap', Sem.wrap_wrap]
    rw [Sem.wrap_congr (execs body env) _ _ (K' := fun f => match f with
            | .next | .cont => .pure (.again (.forLoop target it body orelse env))
            | .brk => .pure (.done .next)
            | .ret v => .pure (.done (.ret v))) (H' := (fun e => (do noteFrame e env; theTreesLotGoes e : Sem Unit).wrap (fun _ => .raise e) .raise id id))
        (fun f => by cases f <;> rfl)
        (fun e => by first | exact Sem.bind_eq_wrap _ _ | (show (do noteFrame e env; theTreesLotGoes e : Sem Unit).bind (fun _ => .raise e) = _; rw [Sem.bind_eq_wrap]))]
    exact h3
theorem seg_block {orelse : List Stmt} (h : Seg (model prog w) A R Y n s₀ (.block orelse env) ((execs orelse env).wrap (fun f => .pure (.done f)) (fun e => (do noteFrame e env; theTreesLotGoes e : Sem Unit).wrap (fun _ => .raise e) .raise id id) id id) fs s) :
    Seg (model prog w) A R Y n s₀ (.block orelse env) ((model prog w).den (.block orelse env)) fs s := by
  show Seg _ A R Y n s₀ _ ((execs orelse env).onRaise (fun x => do noteFrame x env; theTreesLotGoes x) >>= fun f => pure (.done f)) fs s
  rw [Sem.onRaise_eq_wrap, Sem.bind_eq_wrap', Sem.wrap_wrap]
  rw [Sem.wrap_congr (execs orelse env) _ _ (K' := fun f => (.pure (.done f) : Sem PySem.Fin)) (H' := (fun e => (do noteFrame e env; theTreesLotGoes e : Sem Unit).wrap (fun _ => .raise e) .raise id id)) (fun f => by rfl)
    (fun e => by rw [Sem.bind_eq_wrap, Sem.wrap_wrap]; rfl)]
  exact h
end

/-! ### the family: a consumer's list, or none (the first item alone) -/
structure ZEnds where
  nx : List V → L2.St → Hp → Prop
  rt : List V → VK
  bk : List V → L2.St → Hp → Prop := fun _ _ _ => False
  ct : List V → L2.St → Hp → Prop := fun _ _ _ => False
  yd : V → Hp → Prop := fun _ _ => True
abbrev TZn := ZEnds → List V → L2.St → Hp → Prop
def ZEnds.at (D : ZEnds) (ys : List V) : Ends := { nx := D.nx ys, rt := D.rt ys, bk := D.bk ys, ct := D.ct ys }
def GIz (X : Cx) : Option Addr → List (Addr × Obj) → List V → L2.St → Hp → Shared → Prop
  | some S, ip, ys, σ, H, s => GI X S ip ys σ H s
  | none, ip, ys, σ, H, s => ys = [] ∧ Inv X ip σ H s
theorem GIz.open {X : Cx} {So : Option Addr} {ip : List (Addr × Obj)} {ys : List V} {σ : L2.St} {H : Hp} {s : Shared} (h : GIz X So ip ys σ H s) :
    ∃ base : List (Addr × Obj), (∀ p ∈ base, So = some p.1) ∧ (∀ S, So = some S → ∃ o, (S, o) ∈ base) ∧ Inv X (base ++ ip) σ H s ∧ ∀ ip' σ' H' s', Inv X (base ++ ip') σ' H' s' → GIz X So ip' ys σ' H' s' := by
  cases So with
  | none =>
    refine ⟨[], ?_, ?_, h.2, ?_⟩
    · intro p hp
      cases hp
    · intro S hS
      cases hS
    · intro _ _ _ _ I
      exact ⟨h.1, I⟩
  | some S =>
    obtain ⟨acc, c, r, I⟩ := h
    refine ⟨[(S, lstObj acc c)], ?_, ?_, I, ?_⟩
    · intro p hp
      rw [List.mem_singleton.mp hp]
    · intro S' hS
      cases hS
      exact ⟨_, List.mem_singleton.mpr rfl⟩
    · intro _ _ _ _ I
      exact ⟨acc, c, r, I⟩
def YZ (X : Cx) : Option Addr → (V → Hp → Prop) → Protocol
  | some S, _ => GY X S
  | none, yd => fun _ _ v s _ => ∃ x ip σ H, RelV x v ∧ Inv X ip σ H s ∧ yd x H
def GSPz (X : Cx) (So : Option Addr) (ip : List (Addr × Obj)) (D : ZEnds) (ys : List V) (f : Flow) (s : Shared) : Prop :=
  match f with
  | .next => ∃ σ H, GIz X So ip ys σ H s ∧ D.nx ys σ H
  | .brk => ∃ σ H, GIz X So ip ys σ H s ∧ D.bk ys σ H
  | .cont => ∃ σ H, GIz X So ip ys σ H s ∧ D.ct ys σ H
  | .ret u => ∃ v σ H, GIz X So ip ys σ H s ∧ RelV v u ∧ D.rt ys v H
structure GCz (X : Cx) (So : Option Addr) (ip : List (Addr × Obj)) (A : Around) (c : Code) (fs : List Frame) (gd : Bool → Bool) : Prop where
  pn : ∀ S, So = some S → ∀ p ∈ X.pn, p.1 ≠ S
  ip : ∀ S, So = some S → ∀ p ∈ ip, p.1 ≠ S
  apart : ∀ S, So = some S → Apart X S
  over : A.over c fs = X.A
  split : splitAtGen fs = none
  guard : fs.any Frame.guarded = false
  gd : gd false = false
structure GKz (X : Cx) (So : Option Addr) (ip : List (Addr × Obj)) (A : Around) (R : GenEnd) (c : Code) (fs : List Frame) (K : Flow → Sem PySem.Fin) (J : Value → Sem PySem.Fin) (D : ZEnds) : Prop where
  ok : ∀ (n : Nat) (ys : List V) (s₀ s : Shared) (f : Flow), n + ys.length = sizeLine → GSPz X So ip D ys f s → Seg (model X.prog X.w) A R (YZ X So D.yd) n s₀ c (K f) fs s
  exc : ∀ (n : Nat) (s₀ : Shared) (e : Value) (s : Shared), X.xe e s → Seg (model X.prog X.w) A R (YZ X So D.yd) n s₀ c (J e) fs s
structure GSz (X : Cx) (st : Stmt) (t : TZn) : Prop where
  run : ∀ (A : Around) (So : Option Addr) (ip : List (Addr × Obj)) (R : GenEnd) (n : Nat) (ys : List V) (s₀ : Shared) (c : Code) (fs : List Frame) (K : Flow → Sem PySem.Fin) (J : Value → Sem PySem.Fin) (gd : Bool → Bool) (lv : List Value → List Value) (s : Shared) (σ : L2.St) (H : Hp) (D : ZEnds),
    GCz X So ip A c fs gd → n + ys.length = sizeLine → GKz X So ip A R c fs K J D → GIz X So ip ys σ H s → t D ys σ H →
    Seg (model X.prog X.w) A R (YZ X So D.yd) n s₀ c ((exec st X.env).wrap K J gd lv) fs s
structure GSsz (X : Cx) (st : List Stmt) (t : TZn) : Prop where
  run : ∀ (A : Around) (So : Option Addr) (ip : List (Addr × Obj)) (R : GenEnd) (n : Nat) (ys : List V) (s₀ : Shared) (c : Code) (fs : List Frame) (K : Flow → Sem PySem.Fin) (J : Value → Sem PySem.Fin) (gd : Bool → Bool) (lv : List Value → List Value) (s : Shared) (σ : L2.St) (H : Hp) (D : ZEnds),
    GCz X So ip A c fs gd → n + ys.length = sizeLine → GKz X So ip A R c fs K J D → GIz X So ip ys σ H s → t D ys σ H →
    Seg (model X.prog X.w) A R (YZ X So D.yd) n s₀ c ((execs st X.env).wrap K J gd lv) fs s
section
variable {X : Cx} {st : Stmt} {rest : List Stmt}
def tzPlain (t : TS) : TZn := fun D ys σ H => t (D.at ys) σ H
theorem sp_gspz {So : Option Addr} {base ip : List (Addr × Obj)} {s : Shared} {D : ZEnds} {ys : List V} {f : Flow} (r : ∀ σ' H' s', Inv X (base ++ ip) σ' H' s' → GIz X So ip ys σ' H' s') (h : SP X (base ++ ip) (D.at ys) f s) : GSPz X So ip D ys f s := by
  cases f with
  | next => obtain ⟨σ, H, I, q⟩ := h; exact ⟨σ, H, r _ _ _ I, q⟩
  | brk => obtain ⟨σ, H, I, q⟩ := h; exact ⟨σ, H, r _ _ _ I, q⟩
  | cont => obtain ⟨σ, H, I, q⟩ := h; exact ⟨σ, H, r _ _ _ I, q⟩
  | ret u => obtain ⟨v, σ, H, I, r1, q⟩ := h; exact ⟨v, σ, H, r _ _ _ I, r1, q⟩
theorem gz_ps {t : TS} (h : PS X st t) : GSz X st (tzPlain t) := by
  refine ⟨fun A So ip R n ys s₀ c fs K J gd lv s σ H D g hn k hI ht => ?_⟩
  obtain ⟨base, _, _, I, back⟩ := hI.open
  refine seg_wrap ?_
  rw [g.over]
  exact wpAny_mono (h.run _ s σ H (D.at ys) I ht) (fun f s' hs => k.ok n ys s₀ s' f hn (sp_gspz (back ip) hs)) fun x s' hx => k.exc n s₀ x s' hx
def tz0 : TZn := fun D ys σ H => D.nx ys σ H
theorem gzs_nil : GSsz X [] tz0 := by
  refine ⟨fun A So ip R n ys s₀ c fs K J gd lv s σ H D g hn k hI ht => ?_⟩
  exact seg_execs_nil (k.ok n ys s₀ s .next hn ⟨σ, H, hI, ht⟩)
def tzThen (t u : TZn) : TZn := fun D ys σ H => t { D with nx := fun ys' σ' H' => u D ys' σ' H' } ys σ H
theorem gzs_cons {t u : TZn} (a : GSz X st t) (b : GSsz X rest u) : GSsz X (st :: rest) (tzThen t u) := by
  refine ⟨fun A So ip R n ys s₀ c fs K J gd lv s σ H D g hn k hI ht => ?_⟩
  refine seg_execs_cons ?_
  refine a.run A So ip R n ys s₀ c fs _ J gd lv s σ H { D with nx := fun ys' σ' H' => u D ys' σ' H' } g hn ⟨fun n' ys' s₀' s' f hn' hs => ?_, k.exc⟩ hI ht
  cases f with
  | next =>
    obtain ⟨σ', H', I', q⟩ := hs
    exact b.run A So ip R n' ys' s₀' c fs K J gd lv s' σ' H' D g hn' k I' q
  | brk => exact k.ok n' ys' s₀' s' .brk hn' hs
  | cont => exact k.ok n' ys' s₀' s' .cont hn' hs
  | ret u => exact k.ok n' ys' s₀' s' (.ret u) hn' hs
theorem gzs_one {t : TZn} (a : GSz X st t) : GSsz X [st] t := by
  refine ⟨fun A So ip R n ys s₀ c fs K J gd lv s σ H D g hn k hI ht => ?_⟩
  refine seg_execs_cons ?_
  refine a.run A So ip R n ys s₀ c fs _ J gd lv s σ H D g hn ⟨fun n' ys' s₀' s' f hn' hs => ?_, k.exc⟩ hI ht
  cases f with
  | next => exact seg_execs_nil (k.ok n' ys' s₀' s' .next hn' hs)
  | brk => exact k.ok n' ys' s₀' s' .brk hn' hs
  | cont => exact k.ok n' ys' s₀' s' .cont hn' hs
  | ret u => exact k.ok n' ys' s₀' s' (.ret u) hn' hs
/-- yield e: D.yd is told of the item, too -/
def tzYield (te : TE) : TZn := fun D ys σ H => ys.length < sizeLine ∧ te σ H fun x H1 => (ys = [] → D.yd x H1) ∧ D.nx (ys ++ [x]) σ H1
theorem gz_yield {e : Expr} {yp pos : Pos} {te : TE} (he : PE X e te) (hco : X.env.scope.isCoroutine = false := by rfl) (hi : interactive X.env = false := by rfl) : GSz X (.Expr (.Yield (some e) yp) pos) (tzYield te) := by
  refine ⟨fun A So ip R n ys s₀ c fs K J gd lv s σ H D g hn k hI ht => ?_⟩
  obtain ⟨hlt, ht⟩ := ht
  obtain ⟨n, rfl⟩ : ∃ m, n = m + 1 := ⟨n - 1, by omega⟩
  obtain ⟨base, _, _, I, back⟩ := hI.open
  refine seg_Expr_Yield g.split g.gd g.guard ?_ hco hi
  rw [g.over]
  refine wpAny_mono (he.run _ s σ H _ I ht) (fun v s' hv => ?_) fun x s' hx => k.exc _ s₀ x s' hx
  obtain ⟨x, H1, I1, rv, q0, q⟩ := hv
  have G1 : GIz X So ip ys σ H1 s' := back _ _ _ _ I1
  intro kap hk
  cases So with
  | none =>
    obtain ⟨ey, I2⟩ := G1
    exact ⟨x, ip, σ, H1, rv, I2, q0 ey⟩
  | some S =>
    have G1 : GI X S ip ys σ H1 s' := G1
    refine ⟨ys, x, ip, σ, H1, hn, rv, G1, fun s'' z => hk .none s'' ?_⟩
    refine k.ok n (ys ++ [x]) s'' s'' .next ?_ ⟨σ, H1, (show GI X S ip (ys ++ [x]) σ H1 s'' from G1.woken (g.pn S rfl) (g.ip S rfl) (g.apart S rfl) rv z), q⟩
    rw [List.length_append, List.length_singleton]; omega
/-- if -/
def tzIf (c : TT) (t u : TZn) : TZn := fun D ys σ H => c σ H fun b H1 => if b = true then t D ys σ H1 else u D ys σ H1
theorem gz_if {test : Expr} {a b : List Stmt} {pos : Pos} {tc : TT} {t u : TZn} (hc : PT X test tc) (ha : GSsz X a t) (hb : GSsz X b u) : GSz X (.If test a b pos) (tzIf tc t u) := by
  refine ⟨fun A So ip R n ys s₀ c fs K J gd lv s σ H D g hn k hI ht => ?_⟩
  obtain ⟨base, _, _, I, back⟩ := hI.open
  refine seg_If ?_
  rw [g.over]
  refine wpAny_mono (hc.run _ s σ H _ I ht) (fun d s' hd => ?_) fun x s' hx => k.exc n s₀ x s' hx
  obtain ⟨H1, I1, q⟩ := hd
  have G1 : GIz X So ip ys σ H1 s' := back _ _ _ _ I1
  cases d with
  | true =>
    rw [if_pos rfl] at q ⊢
    exact ha.run A So ip R n ys s₀ c fs K J gd lv s' σ H1 D g hn k G1 q
  | false =>
    rw [if_neg Bool.false_ne_true] at q ⊢
    exact hb.run A So ip R n ys s₀ c fs K J gd lv s' σ H1 D g hn k G1 q
/-- the thing at d is locked meanwhile -/
def tzLock (t : TZn) : TZn := fun D ys σ H => ∃ d u, H d = some u ∧ Mut (some u) ∧ ∀ od, t ⟨fun ys' σ' H' => H' d = some (.frz od u) ∧ D.nx ys' σ' (upd H' d u), fun ys' v H' => H' d = some (.frz od u) ∧ D.rt ys' v (upd H' d u),
  fun ys' σ' H' => H' d = some (.frz od u) ∧ D.bk ys' σ' (upd H' d u), fun ys' σ' H' => H' d = some (.frz od u) ∧ D.ct ys' σ' (upd H' d u), D.yd⟩ ys σ (upd H d (.frz od u))
theorem gz_lock {t : TZn} (h : GSz X st t) : GSz X st (tzLock t) := by
  refine ⟨fun A So ip R n ys s₀ c fs K J gd lv s σ H D g hn k hI ht => ?_⟩
  obtain ⟨d, u, hd, mu, ht⟩ := ht
  obtain ⟨base, _, _, I, back⟩ := hI.open
  obtain ⟨od, I1⟩ := I.lock hd mu
  have un : ∀ {ys' : List V} {σ' : L2.St} {H' : Hp} {s' : Shared}, GIz X So ip ys' σ' H' s' → H' d = some (.frz od u) → GIz X So ip ys' σ' (upd H' d u) s' := fun {ys' σ' H' s'} G e => by
    obtain ⟨base', _, _, I', back'⟩ := G.open
    exact back' _ _ _ _ (I'.unlock e (I.nofrz hd mu))
  refine h.run A So ip R n ys s₀ c fs K J gd lv s σ _ { nx := fun ys' σ' H' => H' d = some (.frz od u) ∧ D.nx ys' σ' (upd H' d u), rt := fun ys' v H' => H' d = some (.frz od u) ∧ D.rt ys' v (upd H' d u), bk := fun ys' σ' H' => H' d = some (.frz od u) ∧ D.bk ys' σ' (upd H' d u), ct := fun ys' σ' H' => H' d = some (.frz od u) ∧ D.ct ys' σ' (upd H' d u), yd := D.yd } g hn ⟨fun n' ys' s₀' s' f hn' hs => ?_, k.exc⟩ (back _ _ _ _ I1) (ht od)
  cases f with
  | next => obtain ⟨σ', H', G, e, q⟩ := hs; exact k.ok n' ys' s₀' s' .next hn' ⟨σ', _, un G e, q⟩
  | brk => obtain ⟨σ', H', G, e, q⟩ := hs; exact k.ok n' ys' s₀' s' .brk hn' ⟨σ', _, un G e, q⟩
  | cont => obtain ⟨σ', H', G, e, q⟩ := hs; exact k.ok n' ys' s₀' s' .cont hn' ⟨σ', _, un G e, q⟩
  | ret v => obtain ⟨x, σ', H', G, r, e, q⟩ := hs; exact k.ok n' ys' s₀' s' (.ret v) hn' ⟨x, σ', _, un G e, r, q⟩
/-! ### for -/
def tzFor (wi : TI) (g : TG) (tb : TZn) : TZn := fun D ys σ H => wi σ H fun J H1 => ∃ W : Nat → Nat → List V → L2.St → Hp → Prop, (∃ m, W 0 m ys σ H1) ∧ ∀ i m ys σ H, W i m ys σ H →
  (J.stop i H ∧ D.nx ys σ H) ∨ (J.go i H ∧ ∃ N : List V → L2.St → Hp → Prop, (∀ ys' σ' H', N ys' σ' H' → ∃ m', m' < m ∧ W (i + 1) m' ys' σ' H') ∧ ∀ x H', J.yld i H x H' → g x σ H' fun σ2 H2 => tb { D with nx := N, ct := N, bk := D.nx } ys σ2 H2)
theorem gcz_loop {So : Option Addr} {ip : List (Addr × Obj)} {A : Around} {c c' : Code} {fs : List Frame} {gd : Bool → Bool} {k : Result → Sem PySem.Fin} {l kp : List Value} {p : Pos} (g : GCz X So ip A c fs gd) (hw : c'.weight = 0) (hu : c'.cUnits = 0) :
    GCz X So ip A c' (.ret k none (gd false) l c p kp :: fs) id where
  pn := g.pn
  ip := g.ip
  apart := g.apart
  over := (over_loop hw hu).trans g.over
  split := by
    show (splitAtGen fs).map _ = none
    rw [g.split]; rfl
  guard := by
    show (gd false || fs.any Frame.guarded) = false
    rw [g.gd, g.guard]; rfl
  gd := rfl
theorem GCz.more {So : Option Addr} {ip ip' : List (Addr × Obj)} {A : Around} {c : Code} {fs : List Frame} {gd : Bool → Bool} (g : GCz X So ip A c fs gd) (h : ∀ S, So = some S → ∀ p ∈ ip', p.1 ≠ S) : GCz X So ip' A c fs gd :=
  ⟨g.pn, h, g.apart, g.over, g.split, g.guard, g.gd⟩
theorem seg_cameBackz {So : Option Addr} {ip : List (Addr × Obj)} {A : Around} {R : GenEnd} {c : Code} {fs : List Frame} {K : Flow → Sem PySem.Fin} {J : Value → Sem PySem.Fin} {gd : Bool → Bool} {lv : List Value → List Value} {D : ZEnds} {n : Nat} {s₀ s : Shared} {e : Value}
    (g : GCz X So ip A c fs gd) (k : GKz X So ip A R c fs K J D) (h : cameBackBy (model X.prog X.w) X.A X.env X.xe e s) :
    Seg (model X.prog X.w) A R (YZ X So D.yd) n s₀ c (((Sem.raise e : Sem Flow).onRaise (cameBack X.env)).wrap K J gd lv) fs s := by
  show Seg _ _ _ _ _ _ _ (((cameBack X.env e).bind fun _ => (Sem.raise e : Sem Flow)).wrap K J gd lv) _ _
  rw [Sem.bind_eq_wrap, Sem.wrap_wrap]
  refine seg_wrap ?_
  rw [g.over]
  exact wpAny_mono h (fun _ s' hx => k.exc n s₀ e s' hx) fun x s' hx => k.exc n s₀ x s' hx
theorem gz_for {tg iter : Expr} {body : List Stmt} {wi : TI} {g : TG} {tb : TZn} {pos : Pos} (hp : PassesOwn (model X.prog X.w) X.A X.env X.xe) (hc : X.calm = true) (hi : PI X tg iter wi) (hg : PG X tg g) (hb : GSsz X body tb)
    (hs : ∀ x, foldedSetIterable iter X.env x = pure x := by intro _; rfl) : GSz X (.For tg iter body [] pos) (tzFor wi g tb) := by
  refine ⟨fun A So ip R n ys s₀ c fs K J gd lv s σ H D gc hn k hI ht => ?_⟩
  obtain ⟨base, hbs, hbo, I, back⟩ := hI.open
  refine seg_For ?_ hs
  rw [gc.over]
  refine wpAny_mono (hi.run _ s σ H _ I ht) (fun v s1 h1 => ?_) fun x s' hx => k.exc n s₀ x s' hx
  refine wpAny_mono h1 (fun itv s2 h2 => ?_) fun x s' hx => k.exc n s₀ x s' hx
  intro p
  obtain ⟨it, fp, tn, Jt, H2, e, I2, T, st2, f2, W, ⟨m0, w0⟩, turn⟩ := h2
  subst e
  have stat : ∀ {base' : List (Addr × Obj)} {H' : Hp}, (∀ p ∈ base', So = some p.1) → (∀ b ∈ fp, H' b = none) → ∀ b ∈ fp, FpOk X (base' ++ ip) H' b := fun {base' H'} hb' hn b hb => by
    obtain ⟨q1, q2, q3, q4, q5, q6⟩ := f2 b hb
    refine ⟨hn b hb, q2, q3, q4, q5, fun p hp => ?_⟩
    rcases List.mem_append.mp hp with hp | hp
    · exact q6 p (List.mem_append_left _ hp)
    · rcases List.mem_append.mp hp with hp | hp
      · obtain ⟨o, ho⟩ := hbo p.1 (hb' p hp)
        exact q6 (p.1, o) (List.mem_append_right _ (List.mem_append_left _ ho))
      · exact q6 p (List.mem_append_right _ (List.mem_append_right _ hp))
  have notS : ∀ S, So = some S → ∀ b ∈ fp, b ≠ S := fun S hS b hb z => by
    obtain ⟨o, ho⟩ := hbo S hS
    obtain ⟨_, _, _, _, _, q6⟩ := f2 b hb
    exact q6 (S, o) (List.mem_append_right _ (List.mem_append_left _ ho)) z.symm
  have gl := fun (kk : Result → Sem PySem.Fin) => gcz_loop (k := kk) (c' := .forLoop tg (.ref it) body [] X.env) (l := lv []) (kp := []) (p := p) gc rfl rfl
  have loop : ∀ (m i n : Nat) (ys : List V) (s₀ s : Shared) (σ : L2.St) (H : Hp), n + ys.length = sizeLine → W i m ys σ H → GIz X So ip ys σ H s → tn i s.heap → (∀ b ∈ fp, H b = none) →
      Seg (model X.prog X.w) A R (YZ X So D.yd) n s₀ (.forLoop tg (.ref it) body [] X.env) ((model X.prog X.w).den (.forLoop tg (.ref it) body [] X.env))
        (.ret (fun r => ((match r with | .ok f => (.pure f : Sem Flow) | .error e => .raise e).onRaise (cameBack X.env)).wrap K J gd lv) none (gd false) (lv []) c p [] :: fs) s := by
    intro m
    induction m using Nat.strongRecOn with
    | ind m ih =>
      intro i n ys s₀ s3 σ3 H3 hn w3 hI3 st3 fr3
      have ee : ∀ (n : Nat) (s₀ : Shared) (x : Value) (s' : Shared), X.xe x s' → Seg (model X.prog X.w) A R (YZ X So D.yd) n s₀ (.forLoop tg (.ref it) body [] X.env)
          ((do noteFrame x X.env; theTreesLotGoes x : Sem Unit).wrap (fun _ => .raise x) .raise id id)
          (.ret (fun r => ((match r with | .ok f => (.pure f : Sem Flow) | .error e => .raise e).onRaise (cameBack X.env)).wrap K J gd lv) none (gd false) (lv []) c p [] :: fs) s' := fun n s₀ x s' hx => by
        refine seg_wrap ?_
        rw [(gl _).over]
        refine wpAny_bind (wpAny_mono (hp x s' hx) (fun _ s'' hcb => wpAny_theTreesLotGoes ?_) fun y s'' hcb => ?_)
        · exact seg_leaf (.error x) (seg_cameBackz gc k hcb)
        · exact seg_leaf (.error y) (seg_cameBackz gc k hcb)
      obtain ⟨base3, hbs3, hbo3, I3, back3⟩ := hI3.open
      refine seg_forLoop ?_
      rw [(gl _).over]
      rcases turn i m ys σ3 H3 w3 with ⟨stop, qn⟩ | ⟨go, N, hN, step⟩
      · refine wpAny_mono (T.done X rfl rfl rfl hc i _ s3 σ3 H3 X.xe I3 (stat hbs3 fr3) st3 stop) (fun r s4 ⟨hr, I4⟩ => ?_) fun x s' hx => ee n s₀ x s' hx
        subst hr
        refine seg_again rfl (seg_block (seg_execs_nil ?_))
        exact seg_leaf (.ok .next) (k.ok n ys s₀ s4 .next hn ⟨σ3, H3, back3 _ _ _ _ I4, qn⟩)
      · refine wpAny_mono (T.item X rfl rfl rfl hc i _ s3 σ3 H3 X.xe I3 (stat hbs3 fr3) st3 go) (fun r s4 ⟨u, hr, h4⟩ => ?_) fun x s' hx => ee n s₀ x s' hx
        subst hr
        refine wpAny_mono h4 (fun _ s5 ⟨x, H5, I5, r5, y5, st5, fr5⟩ => ?_) fun x s' hx => ee n s₀ x s' hx
        have I5' := I5.pinned (stat hbs3 fr5) (T.obj _ _ st5)
        refine wpAny_mono (hg.run _ s5 σ3 H5 x u _ I5' r5 (step x H5 y5)) (fun _ s6 ⟨σ6, H6, I6, q6⟩ => ?_) fun x s' hx => ee n s₀ x s' hx
        rw [List.append_assoc] at I6
        have G6 := back3 _ _ _ _ I6
        have gc6 := (gl (fun r => ((match r with | .ok f => (.pure f : Sem Flow) | .error e => .raise e).onRaise (cameBack X.env)).wrap K J gd lv)).more (ip' := ip ++ pinsAt fp s5.heap) (fun S hS p hp => by
          rcases List.mem_append.mp hp with hp | hp
          · exact gc.ip S hS p hp
          · exact notS S hS p.1 (of_pinsAt hp).1)
        refine hb.run A So _ R n ys s₀ _ _ _ _ id id s6 σ6 H6 { D with nx := N, ct := N, bk := D.nx } gc6 hn ⟨fun n' ys' s₀' s7 f hn' hs7 => ?_, fun n' s₀' x s7 hx => ee n' s₀' x s7 hx⟩ G6 q6
        have un : ∀ {ys7 : List V} {σ7 : L2.St} {H7 : Hp}, GIz X So (ip ++ pinsAt fp s5.heap) ys7 σ7 H7 s7 → GIz X So ip ys7 σ7 H7 s7 ∧ tn (i + 1) s7.heap ∧ ∀ b ∈ fp, H7 b = none := fun {ys7 σ7 H7} G7 => by
          obtain ⟨base7, _, _, I7, back7⟩ := G7.open
          rw [← List.append_assoc] at I7
          refine ⟨back7 _ _ _ _ I7.unpinned, T.keep _ _ _ st5 fun b hb o e => (I7.pin (b, o) (List.mem_append_right _ (List.mem_append_right _ (mem_pinsAt hb e)))).1, fun b hb => ?_⟩
          obtain ⟨o, e, d⟩ := T.obj _ _ st5 b hb
          exact (I7.pin (b, o) (List.mem_append_right _ (List.mem_append_right _ (mem_pinsAt hb e)))).2.1
        cases f with
        | next =>
          obtain ⟨σ7, H7, G7, n7⟩ := hs7
          obtain ⟨m', hm, w7⟩ := hN ys' σ7 H7 n7
          obtain ⟨u1, u2, u3⟩ := un G7
          exact seg_again rfl (ih m' hm (i + 1) n' ys' s₀' s7 σ7 H7 hn' w7 u1 u2 u3)
        | cont =>
          obtain ⟨σ7, H7, G7, n7⟩ := hs7
          obtain ⟨m', hm, w7⟩ := hN ys' σ7 H7 n7
          obtain ⟨u1, u2, u3⟩ := un G7
          exact seg_again rfl (ih m' hm (i + 1) n' ys' s₀' s7 σ7 H7 hn' w7 u1 u2 u3)
        | brk =>
          obtain ⟨σ7, H7, G7, q7⟩ := hs7
          exact seg_leaf (.ok .next) (k.ok n' ys' s₀' s7 .next hn' ⟨σ7, H7, (un G7).1, q7⟩)
        | ret v =>
          obtain ⟨x7, σ7, H7, G7, r7, q7⟩ := hs7
          exact seg_leaf (.ok (.ret v)) (k.ok n' ys' s₀' s7 (.ret v) hn' ⟨x7, σ7, H7, (un G7).1, r7, q7⟩)
  exact loop m0 0 n ys s₀ s2 σ H2 hn w0 (back _ _ _ _ I2) st2 fun b hb => (f2 b hb).1
/-! ### as the library's generator bodies are -/
theorem gss_of {sts : List Stmt} {t : TZn} (h : GSsz X sts t) : GSs X sts (fun D ys σ H => t { nx := D.nx, rt := D.rt, bk := D.bk, ct := D.ct } ys σ H) := by
  refine ⟨fun A S ip R n ys s₀ c fs K J gd lv s σ H D g hn k hI ht => ?_⟩
  refine h.run A (some S) ip R n ys s₀ c fs K J gd lv s σ H { nx := D.nx, rt := D.rt, bk := D.bk, ct := D.ct } ⟨?_, ?_, ?_, g.over, g.split, g.guard, g.gd⟩ hn ⟨fun n' ys' s₀' s' f hn' hs => ?_, k.exc⟩ hI ht
  · intro S' hS
    cases hS
    exact g.pn
  · intro S' hS
    cases hS
    exact g.ip
  · intro S' hS
    cases hS
    exact g.apart
  · refine k.ok n' ys' s₀' s' f hn' ?_
    cases f with
    | next => exact hs
    | brk => exact hs
    | cont => exact hs
    | ret u => exact hs
end
/-! ### the first item alone -/
def RF (P : Program) (w : World) (outer : List Env) (H : Hp) (s : Shared) (Qe : Hp → Prop) : GenEnd := fun _ _ r s1 =>
  ((r = .ok (.ret .none) ∨ r = .ok .next) ∧ ∃ H', s1.os = s.os ∧ AllBare s1.gens ∧ Un (frs outer) [] H H' s.heap s1.heap ∧ HOk P w H' s1.heap ∧ Qe H') ∨ ∃ e, r = .error e ∧ (fun (_ : Value) (_ : Shared) => False) e s1
def YF (P : Program) (w : World) (outer : List Env) (H : Hp) (s : Shared) (Yd : V → Hp → Prop) : Protocol := fun _ _ v s1 _ =>
  ∃ x H', s1.os = s.os ∧ AllBare s1.gens ∧ Un (frs outer) [] H H' s.heap s1.heap ∧ HOk P w H' s1.heap ∧ RelV x v ∧ Yd x H'
def GMadeF (P : Program) (w : World) (k : Nat) (outer : List Env) (H : Hp) (s : Shared) (Yd : V → Hp → Prop) (Qe : Hp → Prop) (u : Value) (s' : Shared) : Prop :=
  ∃ (a : Addr) (g : Nat) (c : Code), u = .ref a ∧ s'.heap.IsGen a g ∧ s'.gens[g]? = some (.fresh c) ∧ s'.os = s.os ∧ AllBare s'.gens ∧ s'.heap.NoLimit ∧ (∀ b o, s.heap.get? b = some o → s'.heap.get? b = some o) ∧
    ∀ (A : Around) (s2 : Shared), Room k A → A.frames = some outer → (∀ b o, s'.heap.get? b = some o → s2.heap.get? b = some o) → s2.os = s.os → AllBare s2.gens →
      Seg (model P w) A (RF P w outer H s Qe) (YF P w outer H s Yd) sizeLine s2 c ((model P w).den c) [] s2
/-- the promise: what is told of the first item, what of the end if there is none -/
abbrev SpF := List V → Hp → (V → Hp → Prop) → (Hp → Prop) → Prop
structure GFnF (P : Program) (w : World) (K : PySem.W.Frag) (mg : Str → Option Value) (base : Heap) (k : Nat) (f : Addr) (fd : FuncData) (ps : List Str) (sp : SpF) : Prop where
  len : ∀ vs H Yd Qe, sp vs H Yd Qe → vs.length = ps.length
  run : ∀ (A : Around) (outer : List Env) (s : Shared) (H : Hp) (args : Args) (us : List Value) (vs : List V) (Yd : V → Hp → Prop) (Qe : Hp → Prop), Room k A → Env0 P w K mg base A outer s H → BindsTo s fd args (ps.zip us) → Vals vs us → sp vs H Yd Qe →
    codeAny (model P w) A (.call (.ref f) args) (fun r s' => match r with | .ok (.ret u) => GMadeF P w k outer H s Yd Qe u s' | _ => False) s
theorem gfnF_of {P : Program} {w : World} {K : PySem.W.Frag} {mg : Str → Option Value} {base : Heap} {k : Nat} {f : Addr} {name qual : Str} {params : Arguments} {body : List Stmt} {scope : Scope} {dV kV doc pm cdv ct oc : Value} {an od : Option Addr}
    {osl : Array (Option Value)} {N ps : List Str} {sp : SpF} (lk : K.lookup f = some ⟨oc, od, .func (PySem.W.fnOf name qual params body scope dV kV doc pm an cdv ct), osl⟩) (hcd : PySem.W.codeIn K cdv qual = true) (S : GScope N ps scope)
    (len : ∀ vs H Yd Qe, sp vs H Yd Qe → vs.length = ps.length)
    (hbody : ∀ (A : Around) (outer : List Env) (s : Shared) (H : Hp) (vs : List V) (Yd : V → Hp → Prop) (Qe : Hp → Prop), Room k (A.deeper (envOfC qual scope s.heap.objs.size f cdv)) → sp vs H Yd Qe →
      ∃ t, GSsz (gcxOf P w K mg base N qual scope f cdv A outer s H (fun _ _ _ => False) []) body t ∧ t { nx := fun ys _ H' => ys = [] → Qe H', rt := fun ys v H' => v = .non ∧ (ys = [] → Qe H'), yd := Yd } [] (start N vs) H) :
    GFnF P w K mg base (k + 1) f (PySem.W.fnOf name qual params body scope dV kV doc pm an cdv ct) ps sp := by
  refine ⟨len, fun A outer s H args us vs Yd Qe hr e0 hb r hsp => ?_⟩
  have hl := len _ _ _ _ hsp
  have KX : K.In s.heap := e0.mod.kin.keeps fun b o e => (e0.bs b o e).1
  have lim : s.heap.NoLimit := e0.mod.nolimit.keeps fun b o e => (e0.bs b o e).1
  have hkind : ∀ y ∈ ps.zip us, scope.names.lookup y.1 = some .local ∨ (scope.names.lookup y.1 = some .cell ∧ ((cellsFrom (s.heap.objs.size + 1) scope.names []).lookup y.1).isSome = true) := fun ⟨n, v⟩ hy => by
    rcases S.par n (List.of_mem_zip hy).1 with q | q
    · exact .inl q
    · exact .inr ⟨q, PySem.W.cellsFrom_some _ _ _ (.inl q)⟩
  refine codeAny_call_generator hr.depth (KX _ _ lk) rfl S.co S.gen rfl (PySem.W.codeRec_of KX hcd) (hb _ _ _ _ ?_)
  refine wpAny_newFunctionEnv_cells S.kind hkind fun env he s1 x => ?_
  subst he
  have lim1 : s1.heap.NoLimit := lim.keeps x.toInCall.keep
  refine ⟨lim1, ?_⟩
  obtain ⟨h1, tk, es1, hk1⟩ := x.done
  have os1 : s1.os = s.os := by rw [es1]
  have gen1 : s1.gens = s.gens := by rw [es1]
  have kp1 : ∀ b o, s.heap.get? b = some o → s1.heap.get? b = some o := x.toInCall.keep
  have main : ∀ (go : Obj) (nm qn : Value) (tk2 : Nat), go.cls = .type "generator" → go.data = .fields #[.int s1.gens.size 0, nm, qn] → go.slots = #[] → (∀ h : Heap, (h.push go).get? h.objs.size = some go) →
      GMadeF P w (k + 1) outer H s Yd Qe (.ref s1.heap.objs.size) { s1 with gens := s1.gens.push (.fresh (.func body (envOfC qual scope s.heap.objs.size f cdv))), toks := tk2, heap := s1.heap.push go } := by
    intro go nm qn tk2 hgc hgd0 hgs hgp
    refine ⟨s1.heap.objs.size, s1.gens.size, _, rfl, ⟨go, nm, qn, hgp _, hgc, hgd0, hgs⟩, Array.getElem?_push_size .., os1, ?_, lim1.keeps fun b o e => Heap.get?_push_of_some _ e, fun b o e => Heap.get?_push_of_some _ (kp1 b o e), ?_⟩
    · exact AllBare.push (by rw [gen1]; exact e0.bare) rfl
    intro Aw s2 hrw hfr hk2 hos hba
    have e0w : Env0 P w K mg base Aw outer s H := ⟨hfr, e0.mod, e0.bs, e0.bsz, e0.funs, e0.frf, e0.hok, e0.bare⟩
    obtain ⟨t, ht, hq⟩ := hbody Aw outer s H vs Yd Qe (hrw.deeper _) hsp
    have I1 : Inv (gcxOf P w K mg base N qual scope f cdv Aw outer s H (fun _ _ _ => False) []) [] (start N vs) H s1 := inv_startG S hrw.hd e0w hl r x
    have kp2 : ∀ b o, s1.heap.get? b = some o → s2.heap.get? b = some o := fun b o e => hk2 b o (Heap.get?_push_of_some _ e)
    have I2 : Inv (gcxOf P w K mg base N qual scope f cdv Aw outer s H (fun _ _ _ => False) []) [] (start N vs) H s2 :=
      I1.call' (ch := []) (hos.trans os1.symm) (Un.kept kp2) (I1.hok.kept kp2) hba fun b z => by simp at z
    refine seg_func ?_
    refine seg_imp (R := RF P w outer H s Qe) (Y := YZ (gcxOf P w K mg base N qual scope f cdv Aw outer s H (fun _ _ _ => False) []) none Yd) (fun n s₀ r s1' hR => hR) (fun n s₀ v s1' kap kap' hkk hY => ?_) sizeLine ?_
    · obtain ⟨xx, ip, σ', H', rv, J, hy⟩ := hY
      exact ⟨xx, H', J.os, J.bare, J.base, J.hok, rv, hy⟩
    · refine ht.run Aw none [] _ sizeLine [] s2 _ [] _ _ id id s2 (start N vs) H { nx := fun ys _ H' => ys = [] → Qe H', rt := fun ys v H' => v = .non ∧ (ys = [] → Qe H'), yd := Yd }
        ⟨?_, ?_, ?_, over_func, rfl, rfl, rfl⟩ (Nat.add_zero _) ⟨fun n ys s₀ s' fl hn hs => ?_, fun n s₀ e s' hx => ?_⟩ ⟨rfl, I2⟩ hq
      · intro S' hS
        cases hS
      · intro S' hS
        cases hS
      · intro S' hS
        cases hS
      · cases fl with
        | next =>
          obtain ⟨σ', H', ⟨ey, J⟩, hQ⟩ := hs
          exact seg_end (.ok (.ret .none)) (.inl ⟨.inl rfl, H', J.os, J.bare, J.base, J.hok, hQ ey⟩)
        | brk => obtain ⟨_, _, _, q⟩ := hs; exact False.elim q
        | cont => obtain ⟨_, _, _, q⟩ := hs; exact False.elim q
        | ret u =>
          obtain ⟨v, σ', H', ⟨ey, J⟩, rv, ev, hQ⟩ := hs
          subst ev
          have eu : u = Value.none := rv
          subst eu
          exact seg_end (.ok (.ret .none)) (.inl ⟨.inl rfl, H', J.os, J.bare, J.base, J.hok, hQ ey⟩)
      · refine seg_wrap ?_
        rw [over_func]
        refine wpAny_mono (show wpAny (model P w) (Aw.deeper (envOfC qual scope s.heap.objs.size f cdv)) (leaving (envOfC qual scope s.heap.objs.size f cdv) e) (fun _ s'' => CX P w outer H s (fun _ _ _ => False) e s'' ∧ ∀ p ∈ ([] : List (Addr × Obj)), s''.heap.get? p.1 = some p.2) (fun _ _ => False) s' from hx) (fun _ s'' q => ?_) fun _ s'' q => q.elim
        obtain ⟨_, _, _, _, _, _, _, _, _, _, _, _, z⟩ := q.1
        exact z.elim
  exact main _ _ _ _ rfl rfl rfl fun h => Heap.get?_push_size _ rfl
/-- an expression whose value is such a generator -/
abbrev TGenF := L2.St → Hp → (V → Hp → Prop) → (Hp → Prop) → Prop
structure PGenF (X : Cx) (k : Nat) (e : Expr) (tg : TGenF) : Prop where
  run : ∀ (pins : List (Addr × Obj)) (s : Shared) (σ : L2.St) (H : Hp) (Yd : V → Hp → Prop) (Qe : Hp → Prop), Inv X pins σ H s → tg σ H Yd Qe → wpAny (model X.prog X.w) X.A (eval e X.env)
    (fun u s' => ∃ H1 sc, Inv X pins σ H1 sc ∧ GMadeF X.prog X.w k X.stack H1 sc Yd Qe u s') X.xe s
section
variable {X : Cx} {k : Nat} {f : Addr} {fd : FuncData} {ps : List Str} {sp : SpF} {x : Str} {p pos' pos : Pos}
def tCallF (sp : SpF) (t : TA) : TGenF := fun σ H Yd Qe => t σ H fun vs H1 => sp vs H1 Yd Qe
theorem pgenF_call {e : Expr} {es : List Expr} {t : TA} (F : GFnF X.prog X.w X.K X.mg X.base k f fd ps sp) (hr : Room k X.A) (hg : Gl X x) (hm : X.mg x = some (.ref f)) (hk : PySem.W.keepIn X.K (.ref f) = true) (hb : Binds X.K fd ps [])
    (ha : PA X (e :: es) t) (hdb : (x == ("__debug__" : Str)) = false := by decide) (he : starEach (e :: es) X.env = (false, eval e X.env) :: starEach es X.env := by rfl) (hpl : (backTo pos' (starEach es X.env)).any (·.1) = false := by rfl) :
    PGenF X k (.Call (.Name x p) (e :: es) [] pos') (tCallF sp t) := by
  refine ⟨fun pins s σ H Yd Qe I h => ?_⟩
  refine wpAny_Call_Name_kw (ld_glob I hg hm ?_ hdb)
  refine PySem.W.callWith_K (h₀ := X.base) I.ok.mod.kin hk (thn (ha.run pos' pins s σ H _ I h) fun us s1 ⟨vs, H1, I1, r, q⟩ => ⟨I1.kIn, ?_⟩) he hpl
  have hl : us.length = ps.length := by rw [← r.length]; exact F.len _ _ _ _ q
  have b := hb s1 us I1.kIn (by rw [List.append_nil]; exact hl)
  rw [List.append_nil] at b
  refine wpAny_call (codeAny_mono (F.run X.A X.stack s1 H1 ⟨us, []⟩ us vs Yd Qe hr I1.env0 b r q) fun r s' hq => ?_)
  cases r with
  | error e => exact False.elim hq
  | ok fl =>
    cases fl with
    | ret u => exact ⟨H1, s1, I1, hq⟩
    | next => exact False.elim hq
    | brk => exact False.elim hq
    | cont => exact False.elim hq
def tFor1 (tg : TGenF) (g : TG) (tb : TS) : TS := fun D σ H => tg σ H (fun x H1 => g x σ H1 fun σ2 H2 => tb { D with nx := fun _ _ => False, ct := fun _ _ => False, bk := D.nx } σ2 H2) fun H1 => D.nx σ H1
theorem ps_for1 {iter target : Expr} {body : List Stmt} {tg : TGenF} {g : TG} {tb : TS} (hp : PassesOwn (model X.prog X.w) X.A X.env X.xe) (hc : X.calm = true) (h : PGenF X k iter tg) (hr : Room (k + 3) X.A) (hg : PG X target g) (hb : PSs X body tb)
    (hs : ∀ x, foldedSetIterable iter X.env x = pure x := by intro _; rfl) (ht : ∀ it v, letOwnedTupleGo target it v = pure () := by intro _ _; rfl) : PS X (.For target iter body [] pos) (tFor1 tg g tb) := by
  refine ⟨fun pins s σ H D I hw => ?_⟩
  refine wpAny_For (thn (h.run pins s σ H _ _ I hw) fun u s1 ⟨H1, sc, I1, hG⟩ => ?_) hs
  obtain ⟨a, g', c, rfl, hgen, hgs, hos, hba, hlim, hkp, wake⟩ := hG
  refine wpAny_pyIter_gen hgen ?_
  refine codeAny_forLoop_any (fun n s' => n = 0 ∧ s' = s1) ?_ 0 ⟨rfl, rfl⟩
  rintro n s3 ⟨rfl, rfl⟩
  have hr1 : Room k X.A.in1 := ⟨hr.hd, by have := hr.dp; show X.A.depth + 3 * k + 5 < _; omega, by have := hr.un; show X.A.units + 1 + 16 * k + 200 < _; omega⟩
  have fin : ∀ (s1 : Shared) (gg : Array GenState) (h' : Heap) (H' : Hp), s1.os = sc.os → AllBare gg → Un (frs X.stack) [] H1 H' sc.heap h' → HOk X.prog X.w H' h' → Inv X pins σ H' { s1 with gens := gg, heap := h' } := fun s1 gg h' H' e1 e2 e3 e4 =>
    I1.call' (ch := []) e1 e3 e4 e2 fun b z => by simp at z
  refine wpAny_passesOwn hp ?_
  refine next_genG (Er := fun _ _ => False) (F := fun _ _ s1 => ∃ H', s1.os = sc.os ∧ AllBare s1.gens ∧ Un (frs X.stack) [] H1 H' sc.heap s1.heap ∧ HOk X.prog X.w H' s1.heap ∧ _) (Y := YF X.prog X.w X.stack H1 sc _) (n := sizeLine) hr.hd hlim (by have := hr.dp; show X.A.depth < _; omega) hgen hgs
    ⟨rfl, wake X.A.in1 (s3.setGen g' .running) hr1 I1.ok.frames (fun _ _ e => e) hos (allBare_setGen hba rfl)⟩ (fun v s4 gs' hbare hv => ?_) (fun s4 hp4 h' hk => ?_) fun e s4 he => he.elim
  · obtain ⟨xx, H', q1, q2, q3, q4, rv, hy⟩ := hv
    have I4 : Inv X pins σ H' (s4.setGen g' gs') := fin s4 _ s4.heap H' q1 (allBare_setGen q2 hbare) q3 q4
    refine wpAny_of_eq (ht _ v) ?_
    refine wpAny_passesOwn hp (thn (hg.run _ _ σ H' xx v _ I4 rv hy) fun _ s6 ⟨σ6, H6, I6, q6⟩ => ?_)
    refine wpAny_passesOwn hp (thn (hb.run _ s6 σ6 H6 _ I6 q6) fun f s7 q7 => ?_)
    cases f with
    | next => obtain ⟨_, _, _, q⟩ := q7; exact False.elim q
    | cont => obtain ⟨_, _, _, q⟩ := q7; exact False.elim q
    | brk => obtain ⟨σ7, H7, I7, q7⟩ := q7; exact ⟨σ7, H7, I7, q7⟩
    | ret v => obtain ⟨x7, σ7, H7, I7, r7, q7⟩ := q7; exact ⟨x7, σ7, H7, I7, r7, q7⟩
  · obtain ⟨H', q1, q2, q3, q4, hq⟩ := hp4
    exact wpAny_execs_nil ⟨σ, H', fin s4 _ h' H' q1 (allBare_setGen q2 rfl) (q3.trans (Un.kept hk)) (q4.kept hk), hq⟩
end
/-! ### by a def of the text -/
section
variable {P : Program} {w : World} {K : PySem.W.Frag} {mg : Str → Option Value} {base : Heap}
theorem okF {x qual : Str} {st : Stmt} {f : Addr} {fd : FuncData} {N ps : List Str} {k : Nat} {sp : SpF} (F : Fun K x qual st f fd) (S : GScope N ps (defScope st)) (len : ∀ vs H Yd Qe, sp vs H Yd Qe → vs.length = ps.length)
    (hbody : ∀ (cdv : Value) (A : Around) (outer : List Env) (s : Shared) (H : Hp) (vs : List V) (Yd : V → Hp → Prop) (Qe : Hp → Prop), Room k (A.deeper (envOfC qual (defScope st) s.heap.objs.size f cdv)) → sp vs H Yd Qe →
      ∃ t, GSsz (gcxOf P w K mg base N qual (defScope st) f cdv A outer s H (fun _ _ _ => False) []) (defBody st) t ∧ t { nx := fun ys _ H' => ys = [] → Qe H', rt := fun ys v H' => v = .non ∧ (ys = [] → Qe H'), yd := Yd } [] (start N vs) H) :
    GFnF P w K mg base (k + 1) f fd ps sp := by
  obtain ⟨oc, od, kV, doc, pm, an, cdv, ct, osl, rfl, lk, hcd⟩ := F.ex
  exact gfnF_of lk hcd S len fun A outer s H vs Yd Qe hr hsp => hbody cdv A outer s H vs Yd Qe hr hsp
theorem okG {x qual : Str} {st : Stmt} {f : Addr} {fd : FuncData} {N ps : List Str} {k : Nat} {sp : SpG} (F : Fun K x qual st f fd) (S : GScope N ps (defScope st)) (len : ∀ vs H Q E, sp vs H Q E → vs.length = ps.length)
    (hbody : ∀ (cdv : Value) (A : Around) (outer : List Env) (s : Shared) (H : Hp) (vs : List V) (Q : List V → Hp → Prop) (E : XK) (pn : List (Addr × Obj)), Room k (A.deeper (envOfC qual (defScope st) s.heap.objs.size f cdv)) → sp vs H Q E →
      ∃ t, GSsz (gcxOf P w K mg base N qual (defScope st) f cdv A outer s H E pn) (defBody st) t ∧ t { nx := fun ys _ H' => Q ys H', rt := fun ys v H' => v = .non ∧ Q ys H' } [] (start N vs) H) :
    GFn P w K mg base (k + 1) f fd ps sp := by
  obtain ⟨oc, od, kV, doc, pm, an, cdv, ct, osl, rfl, lk, hcd⟩ := F.ex
  refine gfn_of lk hcd S len fun A outer s H vs Q E pn hr hsp => ?_
  obtain ⟨t, ht, hq⟩ := hbody cdv A outer s H vs Q E pn hr hsp
  exact ⟨_, gss_of ht, hq⟩
end
/-! ### walks in generators -/
theorem zfor_list {K : PySem.W.Frag} {a : Addr} {xs : List V} {g : TG} {tb : TZn} {D : ZEnds} {ys : List V} {σ : L2.St} {H : Hp} (Pv : Nat → List V → L2.St → Hp → Prop) (h0 : Pv 0 ys σ H) (hl : ∀ i ys σ H, i ≤ xs.length → Pv i ys σ H → SqL K H a xs)
    (hs : ∀ i x ys σ H, xs[i]? = some x → Pv i ys σ H → g x σ H fun σ2 H2 => tb { D with nx := Pv (i + 1), ct := Pv (i + 1), bk := D.nx } ys σ2 H2) (hd : ∀ ys σ H, Pv xs.length ys σ H → D.nx ys σ H) :
    ∃ W : Nat → Nat → List V → L2.St → Hp → Prop, (∃ m, W 0 m ys σ H) ∧ ∀ i m ys σ H, W i m ys σ H →
      ((Itl K a).stop i H ∧ D.nx ys σ H) ∨ ((Itl K a).go i H ∧ ∃ N : List V → L2.St → Hp → Prop, (∀ ys' σ' H', N ys' σ' H' → ∃ m', m' < m ∧ W (i + 1) m' ys' σ' H') ∧ ∀ x H', (Itl K a).yld i H x H' → g x σ H' fun σ2 H2 => tb { D with nx := N, ct := N, bk := D.nx } ys σ2 H2) := by
  refine ⟨fun i m ys σ H => m = xs.length - i ∧ i ≤ xs.length ∧ Pv i ys σ H, ⟨xs.length, by simp, Nat.zero_le _, h0⟩, ?_⟩
  rintro i m ys σ H ⟨rfl, hi, p⟩
  have q := hl i ys σ H hi p
  by_cases hlt : i < xs.length
  · refine .inr ⟨⟨xs, xs[i], q, by simp [hlt]⟩, Pv (i + 1), fun ys' σ' H' p' => ⟨xs.length - (i + 1), by omega, rfl, hlt, p'⟩, fun x H' y => ?_⟩
    obtain ⟨e, y⟩ := y
    subst e
    exact hs i x ys σ _ (y xs q) p
  · have e : i = xs.length := by omega
    subst e
    exact .inl ⟨⟨xs, q, Nat.le_refl _⟩, hd ys σ H p⟩
theorem zfor_vals {d : Addr} {o : Obj} {kvs : List (Key × V)} {g : TG} {tb : TZn} {D : ZEnds} {ys : List V} {σ : L2.St} {H : Hp} (Pv : Nat → List V → L2.St → Hp → Prop) (h0 : Pv 0 ys σ H) (hl : ∀ i ys σ H, i ≤ kvs.length → Pv i ys σ H → H d = some (.frz o (.dK kvs)))
    (hs : ∀ i k x ys σ H, kvs[i]? = some (k, x) → Pv i ys σ H → g x σ H fun σ2 H2 => tb { D with nx := Pv (i + 1), ct := Pv (i + 1), bk := D.nx } ys σ2 H2) (hd : ∀ ys σ H, Pv kvs.length ys σ H → D.nx ys σ H) :
    ∃ W : Nat → Nat → List V → L2.St → Hp → Prop, (∃ m, W 0 m ys σ H) ∧ ∀ i m ys σ H, W i m ys σ H →
      ((Itd d o kvs).stop i H ∧ D.nx ys σ H) ∨ ((Itd d o kvs).go i H ∧ ∃ N : List V → L2.St → Hp → Prop, (∀ ys' σ' H', N ys' σ' H' → ∃ m', m' < m ∧ W (i + 1) m' ys' σ' H') ∧ ∀ x H', (Itd d o kvs).yld i H x H' → g x σ H' fun σ2 H2 => tb { D with nx := N, ct := N, bk := D.nx } ys σ2 H2) := by
  refine ⟨fun i m ys σ H => m = kvs.length - i ∧ i ≤ kvs.length ∧ Pv i ys σ H, ⟨kvs.length, by simp, Nat.zero_le _, h0⟩, ?_⟩
  rintro i m ys σ H ⟨rfl, hi, p⟩
  have q := hl i ys σ H hi p
  by_cases hlt : i < kvs.length
  · refine .inr ⟨⟨q, hlt⟩, Pv (i + 1), fun ys' σ' H' p' => ⟨kvs.length - (i + 1), by omega, rfl, hlt, p'⟩, fun x H' y => ?_⟩
    obtain ⟨e, k, y⟩ := y
    subst e
    exact hs i k x ys σ _ y p
  · have e : i = kvs.length := by omega
    subst e
    exact .inl ⟨⟨q, Nat.le_refl _⟩, hd ys σ H p⟩
/-! ### a op b op c op d, as a test -/
def tChain3 (r r' r'' : R2) (ta tb tc td : TE) : TE := fun σ H Q => ta σ H fun x H1 => tb σ H1 fun y H2 => r x y H2 fun z H3 => ∃ k, z = .bl k ∧
  (if k = true then tc σ H3 fun u H4 => r' y u H4 fun z2 H5 => ∃ k2, z2 = .bl k2 ∧ (if k2 = true then td σ H5 fun v H6 => r'' u v H6 Q else Q (.bl false) H5) else Q (.bl false) H3)
section
variable {X : Cx} {a b c d : Expr} {ta tb tc td : TE} {pos : Pos}
theorem pt_chain3 {op op' op'' : CmpOp} {r r' r'' : R2} (ho : OpR X (compareOp op) r) (ho' : OpR X (compareOp op') r') (ho'' : OpR X (compareOp op'') r'') (ha : PE X a ta) (hb : PE X b tb) (hc : PE X c tc) (hd : PE X d td)
    (hm : lastMarks [op, op', op''] [b, c, d] = false := by with_unfolding_all rfl) : PT X (.Compare a [op, op', op''] [b, c, d] pos) (tTest (tChain3 r r' r'' ta tb tc td)) := by
  refine ⟨fun pins s σ H Q I h => ?_⟩
  refine isTrue_chain (thn (ha.run pins s σ H _ I h) fun v s1 ⟨x, H1, I1, r1, q1⟩ => test_link (thn (hb.run pins s1 σ H1 _ I1 q1) fun u s2 ⟨y, H2, I2, r2, q2⟩ =>
    thn (ho pins s2 σ H2 x y v u _ I2 r1 r2 q2) fun d s3 ⟨z, H3, I3, r3, k, e, q3⟩ => ?_)) hm
  subst e
  cases r3
  refine wpAny_truthy_bool ?_
  cases k with
  | false =>
    obtain ⟨k', e', q'⟩ := q3
    cases e'
    exact ite_ff ⟨H3, I3, q'⟩
  | true =>
    refine ite_tt (test_link (thn (hc.run pins s3 σ H3 _ I3 q3) fun w' s4 ⟨z', H4, I4, r4, q4⟩ => thn (ho' pins s4 σ H4 y z' u w' _ I4 r2 r4 q4) fun d' s5 ⟨z2, H5, I5, r5, k2, e2, q5⟩ => ?_))
    subst e2
    cases r5
    refine wpAny_truthy_bool ?_
    cases k2 with
    | false =>
      obtain ⟨k', e', q'⟩ := q5
      cases e'
      exact ite_ff ⟨H5, I5, q'⟩
    | true =>
      refine ite_tt (test_last (thn (hd.run pins s5 σ H5 _ I5 q5) fun w6 s6 ⟨z6, H6, I6, r6, q6⟩ => thn (ho'' pins s6 σ H6 z' z6 w' w6 _ I6 r4 r6 q6) fun d7 s7 ⟨z7, H7, I7, r7, k7, e7, q7⟩ => ?_))
      subst e7
      cases r7
      exact wpAny_truthy_bool ⟨H7, I7, q7⟩
end
end GZ

/-! ## pairs of tuples of ints; sorted(xs) of them -/
namespace My
open PySem PySem.Spec PyProof.Rows L2
/-- the pairs that are told, each a new tuple of two -/
inductive PT2 (H : Hp) : List Addr → List (List Int × List Int) → Prop
  | nil : PT2 H [] []
  | cons {q a b : Addr} {x y : List Int} {qs : List Addr} {ps : List (List Int × List Int)} : H q = some (.tup [.ref a, .ref b]) → H a = some (.tup (fI x)) → H b = some (.tup (fI y)) → PT2 H qs ps → PT2 H (q :: qs) ((x, y) :: ps)
theorem PT2.keep {H H' : Hp} {qs : List Addr} {ps : List (List Int × List Int)} (h : PT2 H qs ps) (e : ∀ b ys, H b = some (.tup ys) → H' b = some (.tup ys)) : PT2 H' qs ps := by
  induction h with
  | nil => exact .nil
  | cons a b c _ ih => exact .cons (e _ _ a) (e _ _ b) (e _ _ c) ih
theorem PT2.same {H H' : Hp} {qs : List Addr} {ps : List (List Int × List Int)} (h : PT2 H qs ps) (e : Same H H') : PT2 H' qs ps := h.keep fun _ _ z => e _ _ z
theorem PT2.snoc {H : Hp} {q a b : Addr} {x y : List Int} {qs : List Addr} {ps : List (List Int × List Int)} (h : PT2 H qs ps) (h1 : H q = some (.tup [.ref a, .ref b])) (h2 : H a = some (.tup (fI x))) (h3 : H b = some (.tup (fI y))) : PT2 H (qs ++ [q]) (ps ++ [(x, y)]) := by
  induction h with
  | nil => exact .cons h1 h2 h3 .nil
  | cons a b c _ ih => exact .cons a b c ih
theorem PT2.length {H : Hp} {qs : List Addr} {ps : List (List Int × List Int)} (h : PT2 H qs ps) : qs.length = ps.length := by
  induction h with
  | nil => rfl
  | cons a b c _ ih => rw [List.length_cons, List.length_cons, ih]
theorem PT2.get {H : Hp} {qs : List Addr} {ps : List (List Int × List Int)} (h : PT2 H qs ps) : ∀ {i : Nat} {v : V}, (qs.map V.ref)[i]? = some v → ∃ q a b x y, v = .ref q ∧ ps[i]? = some (x, y) ∧ H q = some (.tup [.ref a, .ref b]) ∧ H a = some (.tup (fI x)) ∧ H b = some (.tup (fI y)) := by
  induction h with
  | nil =>
    intro i v h
    simp at h
  | cons a b c _ ih =>
    intro i v h
    cases i with
    | zero =>
      simp at h
      exact ⟨_, _, _, _, _, h.symm, rfl, a, b, c⟩
    | succ i =>
      simp only [List.map_cons, List.getElem?_cons_succ] at h ⊢
      exact ih h
/-! ### the order of tuples of ints, as a number -/
theorem lex_code {B : Int} : ∀ {x y : List Int}, x.length = y.length → TS.Bd B x → TS.Bd B y → HT.lexLt x y = decide (TS.code B x < TS.code B y)
  | [], [], _, _, _ => by
    rw [decide_eq_false (Int.lt_irrefl _)]
    rfl
  | [], _ :: _, h, _, _ => by cases h
  | _ :: _, [], h, _, _ => by cases h
  | a :: x, b :: y, h, h1, h2 => by
    have hl : x.length = y.length := by simpa using h
    rw [HT.lexLt_cons]
    by_cases e : a = b
    · subst e
      rw [if_pos rfl, lex_code hl h1.tail h2.tail]
      exact decide_eq_decide.mpr (TS.code_same hl).symm
    · rw [if_neg e]
      refine decide_eq_decide.mpr ⟨fun z => TS.code_lt hl h1.tail h2.tail z, fun z => ?_⟩
      rcases Int.lt_trichotomy a b with y1 | y1 | y1
      · exact y1
      · exact absurd y1 e
      · have := TS.code_lt hl.symm h2.tail h1.tail y1
        omega
theorem code_app {B : Int} : ∀ (x u : List Int), TS.code B (x ++ u) = TS.code B x * B ^ u.length + TS.code B u
  | [], u => by
    show TS.code B u = 0 * B ^ u.length + TS.code B u
    rw [Int.zero_mul, Int.zero_add]
  | a :: x, u => by
    show a * B ^ (x ++ u).length + TS.code B (x ++ u) = (a * B ^ x.length + TS.code B x) * B ^ u.length + TS.code B u
    rw [code_app x u, List.length_append, Int.pow_add, Int.add_mul, ← Int.mul_assoc]
    omega
theorem bd_app {B : Int} {x u : List Int} (h1 : TS.Bd B x) (h2 : TS.Bd B u) : TS.Bd B (x ++ u) := fun m hm => (List.mem_append.mp hm).elim (h1 m) (h2 m)
/-- a pair as one list -/
def cat2 (p : List Int × List Int) : List Int := p.1 ++ p.2
def Ok33 (B : Int) (p : List Int × List Int) : Prop := (p.1.length = 3 ∧ TS.Bd B p.1) ∧ p.2.length = 3 ∧ TS.Bd B p.2
theorem Ok33.cat {B : Int} {p : List Int × List Int} (h : Ok33 B p) : (cat2 p).length = 6 ∧ TS.Bd B (cat2 p) := ⟨by
  unfold cat2
  rw [List.length_append, h.1.1, h.2.1], bd_app h.1.2 h.2.2⟩
theorem cat2_inj {B : Int} {p q : List Int × List Int} (h1 : Ok33 B p) (h2 : Ok33 B q) (e : cat2 p = cat2 q) : p = q := by
  have e' := List.append_inj e (by rw [h1.1.1, h2.1.1])
  exact Prod.ext e'.1 e'.2
theorem itemsInt {P : Program} {w : World} : ∀ {vs : List Value} {ns : List Int}, IntsAre vs ns → ItemsAre (PySem.intKind P w) ns vs := fun {vs ns} h => by
  induction h with
  | nil => exact .nil
  | cons p t _ ih => exact .cons (by show Value.isInt p (.int p t) = true; first | rfl | simp [Value.isInt] | decide) ih
theorem isT_of {P : Program} {w : World} {h : Heap} {a : Addr} {items : Array Value} {ns : List Int} (t : IsTup h a items) (i : IntsAre items.toList ns) : IsTupleKey (PySem.intKind P w) h ns a := by
  obtain ⟨o, ho, hc, n, hd⟩ := t
  exact ⟨o, items, n, ho, hc, hd, itemsInt i⟩
/-- v is a pair of tuples of ints -/
def PairT (h : Heap) (v : Value) (p : List Int × List Int) : Prop := ∃ q a b : Addr, v = .ref q ∧ IsTup h q #[.ref a, .ref b] ∧ TS.TupInts h (.ref a) p.1 ∧ TS.TupInts h (.ref b) p.2
theorem PairT.keeps {h h' : Heap} {v : Value} {p : List Int × List Int} (x : PairT h v p) (k : ∀ b o, h.get? b = some o → o.cls = .type "tuple" → h'.get? b = some o) : PairT h' v p := by
  obtain ⟨q, a, b, e, ⟨o, ho, hc, n⟩, h1, h2⟩ := x
  exact ⟨q, a, b, e, ⟨o, k _ _ ho hc, hc, n⟩, h1.keeps k, h2.keeps k⟩
theorem firstsP {h : Heap} {k : Value → List Int × List Int} : ∀ vs : List Value, (∀ v ∈ vs, PairT h v (k v)) → ∃ fs : List Value, PySem.W.KatTups h vs fs ∧ fs.length = vs.length ∧ ∀ f ∈ fs, ∃ (q : Addr) (o : Obj), f = Value.ref q ∧ h.get? q = some o ∧ o.cls = .type "tuple"
  | [], _ => ⟨[], PySem.W.KatTups.nil, rfl, fun f hf => by simp at hf⟩
  | v :: vs, x => by
    obtain ⟨fs, kk, hl, hi⟩ := firstsP vs fun u hu => x u (List.mem_cons_of_mem _ hu)
    obtain ⟨q, a, b, rfl, ⟨o, ho, hc, n, hd⟩, ⟨a2, xs2, e2, ⟨o2, ho2, hc2, _⟩, _⟩, _⟩ := x v (List.mem_cons_self ..)
    cases e2
    refine ⟨.ref a :: fs, PySem.W.KatTups.cons ho hc hd rfl kk, by rw [List.length_cons, List.length_cons, hl], fun f hf => ?_⟩
    rcases List.mem_cons.mp hf with rfl | hf
    · exact ⟨a, o2, rfl, ho2, hc2⟩
    · exact hi f hf
/-- which of two pairs is less, by the code of both lists in a row -/
def codeP (B : Int) (p : List Int × List Int) : Int := TS.code B (cat2 p)
theorem codeP_eq {B : Int} {p : List Int × List Int} (hp : Ok33 B p) : codeP B p = TS.code B p.1 * B ^ 3 + TS.code B p.2 := by
  unfold codeP cat2
  rw [code_app, hp.2.1]
theorem cat_lt {B : Int} {p q : List Int × List Int} (hp : Ok33 B p) (hq : Ok33 B q) (h : TS.code B p.1 < TS.code B q.1) : codeP B p < codeP B q := by
  rw [codeP_eq hp, codeP_eq hq]
  obtain ⟨c0, c1⟩ := TS.code_bd p.2 hp.2.2
  obtain ⟨g0, g1⟩ := TS.code_bd q.2 hq.2.2
  rw [hp.2.1] at c1
  exact TS.num2 c0 c1 g0 h
theorem codeP_lt1 {B : Int} {p q : List Int × List Int} (hp : Ok33 B p) (hq : Ok33 B q) (e : p.1 ≠ q.1) : HT.lexLt p.1 q.1 = decide (codeP B p < codeP B q) := by
  rw [lex_code (by rw [hp.1.1, hq.1.1]) hp.1.2 hq.1.2]
  rcases Int.lt_trichotomy (TS.code B p.1) (TS.code B q.1) with h | h | h
  · rw [decide_eq_true h, decide_eq_true (cat_lt hp hq h)]
  · exact absurd (code_inj hp.1.1 hq.1.1 hp.1.2 hq.1.2 h) e
  · have h' := cat_lt hq hp h
    rw [decide_eq_false (by omega), decide_eq_false (by omega)]
theorem codeP_lt2 {B : Int} {p q : List Int × List Int} (hp : Ok33 B p) (hq : Ok33 B q) (e : p.1 = q.1) : HT.lexLt p.2 q.2 = decide (codeP B p < codeP B q) := by
  rw [lex_code (by rw [hp.2.1, hq.2.1]) hp.2.2 hq.2.2, codeP_eq hp, codeP_eq hq, e]
  exact decide_eq_decide.mpr ⟨fun h => by omega, fun h => by omega⟩
theorem codeP_inj {B : Int} {p q : List Int × List Int} (hp : Ok33 B p) (hq : Ok33 B q) (e : codeP B p = codeP B q) : p = q := cat2_inj hp hq (code_inj hp.cat.1 hq.cat.1 hp.cat.2 hq.cat.2 e)
/-- a pair, read off the heap -/
def pairV (H : Hp) (v : V) : List Int × List Int := match v with
  | .ref q => match H q with
    | some (.tup [a, b]) => (intsV H a, intsV H b)
    | _ => ([], [])
  | _ => ([], [])
theorem pairV_of {H : Hp} {q a b : Addr} {x y : List Int} (h : H q = some (.tup [.ref a, .ref b])) (h1 : H a = some (.tup (fI x))) (h2 : H b = some (.tup (fI y))) : pairV H (.ref q) = (x, y) := by
  show (match H q with
    | some (.tup [a, b]) => (intsV H a, intsV H b)
    | _ => ([], [])) = (x, y)
  rw [h]
  show (intsV H (.ref a), intsV H (.ref b)) = (x, y)
  rw [intsV_of h1, intsV_of h2]
theorem PT2.mem {H : Hp} {qs : List Addr} {ps : List (List Int × List Int)} (h : PT2 H qs ps) : ∀ q ∈ qs, ∃ p ∈ ps, ∃ a b, H q = some (.tup [.ref a, .ref b]) ∧ H a = some (.tup (fI p.1)) ∧ H b = some (.tup (fI p.2)) := by
  induction h with
  | nil => exact fun _ h => absurd h (by simp)
  | cons h1 h2 h3 _ ih =>
    intro q hq
    rcases List.mem_cons.mp hq with rfl | hq
    · exact ⟨_, List.mem_cons_self, _, _, h1, h2, h3⟩
    · obtain ⟨p, hp, r⟩ := ih q hq
      exact ⟨p, List.mem_cons_of_mem _ hp, r⟩
theorem PT2.vals {H : Hp} {qs : List Addr} {ps : List (List Int × List Int)} (h : PT2 H qs ps) : ps = qs.map fun q => pairV H (.ref q) := by
  induction h with
  | nil => rfl
  | cons h1 h2 h3 _ ih => rw [List.map_cons, pairV_of h1 h2 h3, ← ih]
theorem pt2_of {H : Hp} : ∀ {qs : List Addr}, (∀ q ∈ qs, ∃ (p : List Int × List Int) (a b : Addr), H q = some (.tup [.ref a, .ref b]) ∧ H a = some (.tup (fI p.1)) ∧ H b = some (.tup (fI p.2))) → PT2 H qs (qs.map fun q => pairV H (.ref q))
  | [], _ => .nil
  | q :: qs, h => by
    obtain ⟨p, a, b, h1, h2, h3⟩ := h q List.mem_cons_self
    rw [List.map_cons, pairV_of h1 h2 h3]
    exact .cons h1 h2 h3 (pt2_of fun u hu => h u (List.mem_cons_of_mem _ hu))
def rSortP (K : PySem.W.Frag) (B : Int) : List V → Hp → VK → Prop := fun vs H Q => ∃ (a : Addr) (qs : List Addr) (ps : List (List Int × List Int)), vs = [V.ref a] ∧ SqL K H a (qs.map V.ref) ∧ PT2 H qs ps ∧ (∀ p ∈ ps, Ok33 B p) ∧
  ∀ qs' ps' z, PT2 H qs' ps' → ps'.Perm ps → ps'.Pairwise (fun x y => codeP B x ≤ codeP B y) → H z = none → Q (.ref z) (upd H z (.lst (qs'.map V.ref)))
theorem cr_sortP {X : Cx} {B : Int} (hu : X.A.units + 64 < cLine) : CallR X (.builtin "sorted") (rSortP X.K B) := by
  intro pins s σ H vs us Q I r h
  obtain ⟨a, qs, ps, rfl, hs, tu, hb, q⟩ := h
  obtain ⟨its, rv, hl, hz⟩ := I.list hs
  obtain ⟨u, rfl, ru⟩ := vals1 r
  obtain rfl : u = Value.ref a := ru
  obtain ⟨e1, e2⟩ := refs_back rv fun x m => by
    obtain ⟨t, _, e⟩ := List.mem_map.mp m
    exact ⟨t, e.symm⟩
  have key : ∀ v ∈ its, ∃ p, v = Value.ref p ∧ p ∈ qs := fun v hv => by
    obtain ⟨t, rfl⟩ := e2 v hv
    have hm : V.ref t ∈ qs.map V.ref := by rw [e1]; exact List.mem_map.mpr ⟨_, hv, rfl⟩
    obtain ⟨p, hp, e⟩ := List.mem_map.mp hm
    cases e
    exact ⟨t, rfl, hp⟩
  have ti : ∀ {b : Addr} {x : List Int}, H b = some (.tup (fI x)) → TS.TupInts s.heap (.ref b) x := fun {b x} hb' => by
    obtain ⟨its2, r2, pt, _⟩ := I.tuple (SqT.of hb')
    exact ⟨b, its2.toArray, rfl, pt, intsAre_of r2⟩
  have tin : ∀ v ∈ its, PairT s.heap v (pairV H (backV v)) ∧ Ok33 B (pairV H (backV v)) := fun v hv => by
    obtain ⟨p, rfl, hp⟩ := key v hv
    obtain ⟨xy, hm, a, b, h1, h2, h3⟩ := tu.mem p hp
    have ei : pairV H (backV (Value.ref p)) = xy := pairV_of h1 h2 h3
    rw [ei]
    obtain ⟨its2, r2, pt, _⟩ := I.tuple (SqT.of h1)
    obtain ⟨u1, u2, rfl, r1, r3⟩ := vals2 r2
    obtain rfl : u1 = Value.ref a := r1
    obtain rfl : u2 = Value.ref b := r3
    exact ⟨⟨p, a, b, rfl, pt, ti h2, ti h3⟩, hb _ hm⟩
  refine SrtO.sorted_ord (ltv := fun v u => decide (codeP B (pairV H (backV v)) < codeP B (pairV H (backV u)))) (swoC fun v => codeP B (pairV H (backV v))) hl.isList (by rw [← rv.length]; exact hz) (fun h2 h₁ a' ha' kk => ?_) fun out h1 h2 => ?_
  · intro h' keep
    have keep2 : ∀ b o, s.heap.get? b = some o → o.cls = .type "tuple" → h'.get? b = some o := fun b o e c => keep b o (kk b o e).1 (kk b o e).2
    have tin' : ∀ v ∈ its, PairT h' v (pairV H (backV v)) ∧ Ok33 B (pairV H (backV v)) := fun v hv => let ⟨x, y⟩ := tin v hv; ⟨x.keeps keep2, y⟩
    obtain ⟨fs, k1, k2, k3⟩ := firstsP (h := h') (k := fun v => pairV H (backV v)) its fun v hv => (tin' v hv).1
    refine ⟨tuples' false, fun Q E hq => ?_, ?_⟩
    · refine PySem.W.kat_kind (T := .type "tuple") k1 (by omega) (fun f hm => ?_) (by rfl) ?_
      · obtain ⟨q, o, rfl, ho, hc⟩ := k3 f hm
        have z : PySem.W.Looks (model X.prog X.w) h' (typeOf (.ref q)) o.cls := (PySem.W.Looks.ld ho).andThen .now
        rw [hc] at z
        exact z
      · have e : (Value.type "tuple" != Value.type "tuple") = false := by first | decide +kernel | rfl | decide
        rw [e]
        exact hq
    · intro p q hm hm'
      obtain ⟨⟨q1, a1, b1, x1, ⟨o1, ho1, hc1, n1, hd1⟩, ⟨a1', xs, x1', t1, i1⟩, ⟨b1', xs', x1'', t1', i1'⟩⟩, k1⟩ := tin' _ hm
      obtain ⟨⟨q2, a2, b2, x2, ⟨o2, ho2, hc2, n2, hd2⟩, ⟨a2', ys, x2', t2, i2⟩, ⟨b2', ys', x2'', t2', i2'⟩⟩, k2⟩ := tin' _ hm'
      cases x1'
      cases x1''
      cases x2'
      cases x2''
      show wpAny _ _ (keyLt' _ p.1 q.1) (fun r s' => s' = _ ∧ r = decide (codeP B (pairV H (backV p.1)) < codeP B (pairV H (backV q.1)))) (fun _ _ => False) _
      generalize pairV H (backV p.1) = P at *
      generalize pairV H (backV q.1) = R at *
      rw [x1, x2]
      refine PySem.W.kat_lt ho1 hd1 ho2 hd2 ?_
      have hu1 : X.A.in1.in1.units < cLine := by
        show X.A.units + 1 + 1 < cLine
        omega
      show PySem.W.KatLex X.prog X.w X.A.in1.in1 false false _ [(Value.ref a1, Value.ref a2), (Value.ref b1, Value.ref b2)] 0 _
      refine PySem.W.kat_cons (wpAny_eqBool_tuple hu1 (isT_of t1 i1) (isT_of t2 i2) ?_)
      refine PySem.W.kat_go (fun e0 => ?_) (fun e0 => ?_)
      · have e := of_decide_eq_true e0
        refine PySem.W.kat_yes (PySem.W.kat_cons (wpAny_eqBool_tuple hu1 (isT_of t1' i1') (isT_of t2' i2') ?_))
        refine PySem.W.kat_go (fun e1 => ?_) (fun e1 => ?_)
        · have e' := of_decide_eq_true e1
          refine PySem.W.kat_yes (PySem.W.kat_nil ⟨rfl, ?_⟩)
          have : P = R := Prod.ext e e'
          rw [this]
          exact (decide_eq_false (Int.lt_irrefl _)).symm
        · refine PySem.W.kat_no ?_
          show wpAny _ _ (oneLt' false _ _) _ _ _
          exact PySem.W.kat_one _ _ (HT.lt_tupInts t1' t2' i1' i2' hu1 ⟨rfl, codeP_lt2 k1 k2 e⟩)
      · have e := of_decide_eq_false e0
        refine PySem.W.kat_no ?_
        show wpAny _ _ (oneLt' false _ _) _ _ _
        exact PySem.W.kat_one _ _ (HT.lt_tupInts t1 t2 i1 i2 hu1 ⟨rfl, codeP_lt1 k1 k2 e⟩)
  · obtain ⟨ep, he'⟩ := PyProof.Rows.sortedAll_at s.heap its out.toArray
    have h3 : ∀ u ∈ out, ∃ p, u = Value.ref p ∧ p ∈ qs := fun u hu => key u (h2.perm.mem_iff.mp hu)
    have eo : out.map backV = (out.map fun u => match u with
      | Value.ref a => a
      | _ => 0).map V.ref := by
      rw [List.map_map]
      refine List.map_congr_left fun u hu => ?_
      obtain ⟨p, rfl, _⟩ := h3 u hu
      rfl
    have hp : (out.map backV).Perm (qs.map V.ref) := by
      rw [e1]
      exact h2.perm.map backV
    have hlen : (out.map backV).length ≤ sizeLine := by
      rw [hp.length_eq]
      exact hz
    generalize eps : (out.map fun u => match u with
      | Value.ref a => a
      | _ => 0) = qs' at eo
    have pp : qs'.Perm qs := by
      rw [eo] at hp
      have z := hp.map fun v => match v with
        | V.ref a => a
        | _ => 0
      rw [List.map_map, List.map_map] at z
      have id1 : ∀ l : List Addr, l.map ((fun v => match v with
        | V.ref a => a
        | _ => 0) ∘ V.ref) = l := fun l => by
        induction l with
        | nil => rfl
        | cons x l ih => rw [List.map_cons, ih]; rfl
      rw [id1, id1] at z
      exact z
    have tu' : PT2 H qs' (qs'.map fun p => pairV H (.ref p)) := pt2_of fun p hp => by
      obtain ⟨r, _, e⟩ := tu.mem p (pp.mem_iff.mp hp)
      exact ⟨r, e⟩
    have pw : (qs'.map fun p => pairV H (.ref p)).Pairwise (fun x y => codeP B x ≤ codeP B y) := by
      have z : (out.map backV).Pairwise (fun x y => codeP B (pairV H x) ≤ codeP B (pairV H y)) := List.pairwise_map.mpr (h1.imp fun {x y} h => Int.not_lt.mp (of_decide_eq_false h))
      rw [eo] at z
      rw [List.pairwise_map] at z ⊢
      exact z
    rw [eo] at hlen
    refine ⟨.ref _, upd H (s.heap.objs.size + 1) (.lst (qs'.map V.ref)), I.laid (t' := s.toks) (fun _ _ => PyProof.Rows.sortedAll_old) (Nat.le_succ _) ⟨hlen, out, ep, ?_, he'⟩, rfl, q qs' _ _ tu' ?_ pw (I.hok.fresh (Nat.le_succ _))⟩
    · rw [← eo]
      exact vals_back fun u hu => by
        obtain ⟨p, e, _⟩ := h3 u hu
        exact ⟨p, e⟩
    · rw [tu.vals]
      exact pp.map _
/-- of the pairs in a row by their codes and none twice there is just one list -/
theorem codeP_uniq {B : Int} {ps rs : List (List Int × List Int)} (hp : ∀ p ∈ ps, Ok33 B p) (h : ps.Perm rs) (h1 : ps.Pairwise fun x y => codeP B x ≤ codeP B y) (h2 : rs.Pairwise fun x y => codeP B x ≤ codeP B y) : ps = rs :=
  h.eq_of_pairwise (fun x y hx hy a b => codeP_inj (hp x hx) (hp y (h.mem_iff.mpr hy)) (Int.le_antisymm a b)) h1 h2
end My

/-! ### the clashes of a table in a row: just one list -/
namespace Pr
open My
theorem nodup_by {α : Type} {L : List α} (hL : L.Nodup) : ∀ {M : List α}, (∀ (j : Nat) (x : α), M[j]? = some x → x ∉ L ++ M.take j) → (L ++ M).Nodup := fun {M} h => by
  have key : ∀ n, n ≤ M.length → (L ++ M.take n).Nodup := fun n => by
    induction n with
    | zero => intro _; rw [List.take_zero, List.append_nil]; exact hL
    | succ n ih =>
      intro hn
      have hx : M[n]? = some M[n] := List.getElem?_eq_getElem (by omega)
      rw [My.take_snoc hx, ← List.append_assoc]
      refine List.nodup_append.mpr ⟨ih (by omega), List.nodup_cons.mpr ⟨by simp, .nil⟩, fun a ha b hb e => ?_⟩
      rw [List.mem_singleton] at hb
      subst hb
      subst e
      exact h n _ hx ha
  have := key M.length (Nat.le_refl _)
  rw [List.take_of_length_le (Nat.le_refl _)] at this
  exact this
theorem all_nodup {ls : List Int} {rs : List (List Int)} (R : Tb.Right ls rs) : ∀ n, n ≤ rs.length → (Tb.all ls rs n).Nodup
  | 0, _ => .nil
  | n + 1, hn => by
    have hr : rs[n]? = some rs[n] := List.getElem?_eq_getElem (by omega)
    obtain ⟨h1, _, _⟩ := R.2.2.2 n _ hr
    show (Tb.all ls rs n ++ Tb.ents ls ((n : Int) + 1) (rs.getD n [])).Nodup
    rw [Tb.getD_row hr]
    refine nodup_by (all_nodup R n (by omega)) fun j x hx => ?_
    unfold Tb.ents at hx ⊢
    rw [List.getElem?_map] at hx
    obtain ⟨p, hp, rfl⟩ := Option.map_eq_some_iff.mp hx
    rw [← List.map_take]
    exact Tb.new_one R.1 h1 hp
/-- in a row, none twice: each less than the next -/
theorem strict {α : Type} {f : α → Int} : ∀ {l : List α}, (∀ x ∈ l, ∀ y ∈ l, f x = f y → x = y) → l.Nodup → l.Pairwise (fun x y => f x ≤ f y) → l.Pairwise (fun x y => f x < f y)
  | [], _, _, _ => .nil
  | a :: l, hi, hn, hp => by
    obtain ⟨n1, n2⟩ := List.nodup_cons.mp hn
    obtain ⟨p1, p2⟩ := List.pairwise_cons.mp hp
    refine List.pairwise_cons.mpr ⟨fun y hy => ?_, strict (fun x hx y hy => hi x (List.mem_cons_of_mem _ hx) y (List.mem_cons_of_mem _ hy)) n2 p2⟩
    rcases Int.lt_or_eq_of_le (p1 y hy) with h | h
    · exact h
    · have := hi a List.mem_cons_self y (List.mem_cons_of_mem _ hy) h
      subst this
      exact absurd hy n1
theorem nodup_lt {α : Type} {f : α → Int} : ∀ {l : List α}, l.Pairwise (fun x y => f x < f y) → l.Nodup
  | [], _ => .nil
  | a :: l, hp => by
    obtain ⟨p1, p2⟩ := List.pairwise_cons.mp hp
    exact List.nodup_cons.mpr ⟨fun h => absurd (p1 a h) (Int.lt_irrefl _), nodup_lt p2⟩
def E3 (e : List Int) : Prop := e.length = 3 ∧ TS.Bd 1000 e
theorem hd_le {x y : List Int} (hx : E3 x) (hy : E3 y) (h : TS.code 1000 x < TS.code 1000 y) : Cl.hd x ≤ Cl.hd y := by
  obtain ⟨lx, bx⟩ := hx
  obtain ⟨ly, byy⟩ := hy
  match x, y, lx, ly, bx, byy, h with
  | [a, b, c], [d, e, f], _, _, bx, byy, h =>
    show a ≤ d
    apply Classical.byContradiction
    intro z
    have := TS.code_lt (d := d) (e := a) (r := [e, f]) (q := [b, c]) rfl byy.tail bx.tail (by omega)
    omega
theorem heads_up {es : List (List Int)} (hE : ∀ e ∈ es, E3 e) (hp : es.Pairwise fun x y => TS.code 1000 x < TS.code 1000 y) : (Cl.heads es).Pairwise (fun a b => a < b) := by
  have key : ∀ n, n ≤ es.length → (Cl.heads (es.take n)).Pairwise (fun a b => a < b) := fun n => by
    induction n with
    | zero => intro _; rw [List.take_zero]; exact .nil
    | succ n ih =>
      intro hn
      have hx : es[n]? = some es[n] := List.getElem?_eq_getElem (by omega)
      have hp' : (es.take n ++ [es[n]]).Pairwise fun x y => TS.code 1000 x < TS.code 1000 y := by
        rw [← My.take_snoc hx]
        exact hp.sublist (List.take_sublist _ _)
      rw [My.take_snoc hx, Cl.heads_snoc]
      unfold Cl.step
      split
      · exact ih (by omega)
      · next hno =>
        refine List.pairwise_append.mpr ⟨ih (by omega), List.pairwise_cons.mpr ⟨fun _ h => absurd h (by simp), .nil⟩, fun a ha b hb => ?_⟩
        rw [List.mem_singleton] at hb
        subst hb
        obtain ⟨e, he, rfl⟩ := Cl.mem_heads.mp ha
        have h1 := (List.pairwise_append.mp hp').2.2 e he es[n] (by simp)
        have h2 := hd_le (hE e (List.mem_of_mem_take he)) (hE _ (List.getElem_mem _)) h1
        rcases Int.lt_or_eq_of_le h2 with h | h
        · exact h
        · exact absurd (h ▸ ha) hno
  have := key es.length (Nat.le_refl _)
  rw [List.take_of_length_le (Nat.le_refl _)] at this
  exact this
theorem e33 {x y : List Int} (hx : E3 x) (hy : E3 y) : Ok33 1000 (x, y) := ⟨hx, hy⟩
theorem byOne_up {c : Int} {g : List (List Int)} {one : List Int} (h1 : E3 one) (hg : ∀ e ∈ g, E3 e) (hp : g.Pairwise fun x y => TS.code 1000 x < TS.code 1000 y) : (Cl.byOne c g one g.length).Pairwise fun p q => codeP 1000 p < codeP 1000 q := by
  unfold Cl.byOne
  rw [List.take_of_length_le (Nat.le_refl _), List.pairwise_map]
  have hp2 := hp.sublist (List.filter_sublist (p := Cl.cond c one))
  refine hp2.imp_of_mem fun {x y} hx hy h => ?_
  have ex := hg x (List.mem_filter.mp hx).1
  have ey := hg y (List.mem_filter.mp hy).1
  rw [codeP_eq (e33 h1 ex), codeP_eq (e33 h1 ey)]
  show _ + TS.code 1000 x < _ + TS.code 1000 y
  exact Int.add_lt_add_left h _
theorem code_of_hd {x y : List Int} (hx : E3 x) (hy : E3 y) (h : Cl.hd x < Cl.hd y) : TS.code 1000 x < TS.code 1000 y := by
  obtain ⟨lx, bx⟩ := hx
  obtain ⟨ly, byy⟩ := hy
  match x, y, lx, ly, bx, byy, h with
  | [a, b, c], [d, e, f], _, _, bx, byy, h => exact TS.code_lt (d := a) (e := d) (r := [b, c]) (q := [e, f]) rfl bx.tail byy.tail h
theorem cl_up {c : Int} {es : List (List Int)} (hE : ∀ e ∈ es, E3 e) (hp : es.Pairwise fun x y => TS.code 1000 x < TS.code 1000 y) : (Cl.cl c es).Pairwise fun p q => codeP 1000 p < codeP 1000 q := by
  unfold Cl.cl Cl.byHeads
  have hg : ∀ k, ∀ e ∈ Cl.grp k es, E3 e := fun k e he => hE e (Cl.mem_grp.mp he).1
  refine List.pairwise_flatMap.mpr ⟨fun k _ => ?_, (heads_up hE hp).imp fun {a b} hab x hx y hy => ?_⟩
  · have hpk : (Cl.grp k es).Pairwise fun x y => TS.code 1000 x < TS.code 1000 y := hp.sublist (List.filter_sublist)
    unfold Cl.byGrp
    rw [List.take_of_length_le (Nat.le_refl _)]
    refine List.pairwise_flatMap.mpr ⟨fun one ho => byOne_up (hg k one ho) (hg k) hpk, hpk.imp_of_mem fun {a b} ha hb hab p hp' q hq => ?_⟩
    obtain ⟨p1, p2⟩ := p
    obtain ⟨q1, q2⟩ := q
    obtain ⟨rfl, m1, _⟩ := Cl.mem_byOne.mp hp'
    obtain ⟨rfl, m2, _⟩ := Cl.mem_byOne.mp hq
    exact cat_lt (e33 (hg k _ ha) (hg k _ m1)) (e33 (hg k _ hb) (hg k _ m2)) hab
  · obtain ⟨x1, x2⟩ := x
    obtain ⟨y1, y2⟩ := y
    obtain ⟨a1, a2, _⟩ := Cl.mem_byGrp.mp hx
    obtain ⟨b1, b2, _⟩ := Cl.mem_byGrp.mp hy
    refine cat_lt (e33 (hg _ _ a1) (hg _ _ a2)) (e33 (hg _ _ b1) (hg _ _ b2)) (code_of_hd (hg _ _ a1) (hg _ _ b1) ?_)
    show Cl.hd x1 < Cl.hd y1
    rw [(Cl.mem_grp.mp a1).2, (Cl.mem_grp.mp b1).2]
    exact hab
/-- the clashes of a table, in a row, none twice -/
def Due (c : Int) (ls : List Int) (rs : List (List Int)) (ps : List (List Int × List Int)) : Prop := ps.Nodup ∧ ps.Pairwise (fun x y => codeP 1000 x ≤ codeP 1000 y) ∧ ∀ x y, (x, y) ∈ ps ↔ Cl.Clash c ls rs x y
theorem clash_ok {c : Int} {ls : List Int} {rs : List (List Int)} (R : Tb.Right ls rs) {x y : List Int} (h : Cl.Clash c ls rs x y) : Ok33 1000 (x, y) := ⟨Tb.all_bd R _ (Nat.le_refl _) _ h.1, Tb.all_bd R _ (Nat.le_refl _) _ h.2.1⟩
theorem due_cl {c : Int} {ls : List Int} {rs : List (List Int)} (R : Tb.Right ls rs) {es : List (List Int)} (pm : es.Perm (Tb.all ls rs rs.length)) (pw : es.Pairwise fun x y => TS.code 1000 x ≤ TS.code 1000 y) : Due c ls rs (Cl.cl c es) := by
  have hE : ∀ e ∈ es, E3 e := fun e he => Tb.all_bd R _ (Nat.le_refl _) _ (pm.mem_iff.mp he)
  have hs := strict (f := TS.code 1000) (fun x hx y hy e => code_inj (hE x hx).1 (hE y hy).1 (hE x hx).2 (hE y hy).2 e) (pm.nodup_iff.mpr (all_nodup R _ (Nat.le_refl _))) pw
  have hu := cl_up (c := c) hE hs
  exact ⟨nodup_lt (f := codeP 1000) hu, hu.imp fun h => Int.le_of_lt h, fun x y => Cl.clash_of pm⟩
theorem due_one {c : Int} {ls : List Int} {rs : List (List Int)} (R : Tb.Right ls rs) {ps qs : List (List Int × List Int)} (h1 : Due c ls rs ps) (h2 : Due c ls rs qs) : ps = qs := by
  obtain ⟨n1, p1, m1⟩ := h1
  obtain ⟨n2, p2, m2⟩ := h2
  refine codeP_uniq (B := 1000) (fun p hp => clash_ok R ((m1 p.1 p.2).mp hp)) ((List.perm_ext_iff_of_nodup n1 n2).mpr fun p => ?_) p1 p2
  obtain ⟨x, y⟩ := p
  rw [m1, m2]
theorem due_nil {c : Int} {ls : List Int} {rs : List (List Int)} {ps : List (List Int × List Int)} (h : Due c ls rs ps) : ps = [] ↔ Cl.Safe c ls rs := by
  constructor
  · intro e x y hc
    have := (h.2.2 x y).mpr hc
    rw [e] at this
    exact absurd this (by simp)
  · intro sf
    match ps, h with
    | [], _ => rfl
    | (x, y) :: _, h => exact absurd ((h.2.2 x y).mp List.mem_cons_self) (sf x y)
/-! ### a look at all pairs, one after another -/
def Cd (c : Int) (x y : List Int) : Bool := decide (Cl.hd x = Cl.hd y) && Cl.cond c x y
def FInv (c : Int) (es : List (List Int)) (i j : Nat) (ds : List (List Int × List Int)) : Prop := ds.Nodup ∧ ds.length ≤ i * es.length + j ∧ ∀ x y, (x, y) ∈ ds ↔ Cd c x y = true ∧ ((x ∈ es.take i ∧ y ∈ es) ∨ (es[i]? = some x ∧ y ∈ es.take j))
theorem mem_take_succ {α : Type} {es : List α} {j : Nat} {o y : α} (h : es[j]? = some o) : y ∈ es.take (j + 1) ↔ y ∈ es.take j ∨ y = o := by
  rw [My.take_snoc h, List.mem_append, List.mem_singleton]
theorem finv_zero (c : Int) (es : List (List Int)) : FInv c es 0 0 [] := ⟨.nil, Nat.zero_le _, fun x y => by simp⟩
theorem finv_old {c : Int} {es : List (List Int)} {i j : Nat} {ds : List (List Int × List Int)} {one o : List Int} (h : FInv c es i j ds) (h1 : es[i]? = some one) (h2 : es[j]? = some o) (h3 : Cd c one o = true → (one, o) ∈ ds) : FInv c es i (j + 1) ds := by
  obtain ⟨n, l, m⟩ := h
  refine ⟨n, by omega, fun x y => ?_⟩
  rw [m]
  constructor
  · rintro ⟨a, b | ⟨b, d⟩⟩
    · exact ⟨a, .inl b⟩
    · exact ⟨a, .inr ⟨b, (mem_take_succ h2).mpr (.inl d)⟩⟩
  · rintro ⟨a, b | ⟨b, d⟩⟩
    · exact ⟨a, .inl b⟩
    · rcases (mem_take_succ h2).mp d with d | d
      · exact ⟨a, .inr ⟨b, d⟩⟩
      · subst d
        obtain rfl : one = x := Option.some.inj (h1.symm.trans b)
        exact (m _ _).mp (h3 a)
theorem finv_new {c : Int} {es : List (List Int)} {i j : Nat} {ds : List (List Int × List Int)} {one o : List Int} (h : FInv c es i j ds) (h1 : es[i]? = some one) (h2 : es[j]? = some o) (h3 : Cd c one o = true) (h4 : (one, o) ∉ ds) : FInv c es i (j + 1) (ds ++ [(one, o)]) := by
  obtain ⟨n, l, m⟩ := h
  refine ⟨List.nodup_append.mpr ⟨n, List.nodup_cons.mpr ⟨by simp, .nil⟩, fun a ha b hb e => ?_⟩, by rw [List.length_append]; show _ + 1 ≤ _; omega, fun x y => ?_⟩
  · rw [List.mem_singleton] at hb
    subst hb
    subst e
    exact h4 ha
  · rw [List.mem_append, List.mem_singleton, m]
    constructor
    · rintro (⟨a, b | ⟨b, d⟩⟩ | e)
      · exact ⟨a, .inl b⟩
      · exact ⟨a, .inr ⟨b, (mem_take_succ h2).mpr (.inl d)⟩⟩
      · injection e with e1 e2
        subst e1 e2
        exact ⟨h3, .inr ⟨h1, (mem_take_succ h2).mpr (.inr rfl)⟩⟩
    · rintro ⟨a, b | ⟨b, d⟩⟩
      · exact .inl ⟨a, .inl b⟩
      · rcases (mem_take_succ h2).mp d with d | d
        · exact .inl ⟨a, .inr ⟨b, d⟩⟩
        · subst d
          obtain rfl : one = x := Option.some.inj (h1.symm.trans b)
          exact .inr rfl
theorem finv_next {c : Int} {es : List (List Int)} {i : Nat} {ds : List (List Int × List Int)} {one : List Int} (h : FInv c es i es.length ds) (h1 : es[i]? = some one) : FInv c es (i + 1) 0 ds := by
  obtain ⟨n, l, m⟩ := h
  refine ⟨n, by rw [Nat.add_mul]; omega, fun x y => ?_⟩
  rw [m, List.take_of_length_le (Nat.le_refl _), mem_take_succ h1]
  constructor
  · rintro ⟨a, ⟨b, d⟩ | ⟨b, d⟩⟩
    · exact ⟨a, .inl ⟨.inl b, d⟩⟩
    · exact ⟨a, .inl ⟨.inr (Option.some.inj (b.symm.trans h1)), d⟩⟩
  · rintro ⟨a, ⟨b | b, d⟩ | ⟨_, d⟩⟩
    · exact ⟨a, .inl ⟨b, d⟩⟩
    · subst b
      exact ⟨a, .inr ⟨h1, d⟩⟩
    · exact absurd d (by simp)
theorem finv_end {c : Int} {ls : List Int} {rs : List (List Int)} {ds ps : List (List Int × List Int)} (h : FInv c (Tb.all ls rs rs.length) (Tb.all ls rs rs.length).length 0 ds) (pm : ps.Perm ds) (pw : ps.Pairwise fun x y => codeP 1000 x ≤ codeP 1000 y) : Due c ls rs ps := by
  obtain ⟨n, _, m⟩ := h
  refine ⟨pm.nodup_iff.mpr n, pw, fun x y => ?_⟩
  rw [pm.mem_iff, m, List.take_of_length_le (Nat.le_refl _)]
  unfold Cl.Clash Cd
  rw [Bool.and_eq_true, decide_eq_true_iff]
  constructor
  · rintro ⟨⟨a, b⟩, ⟨d, e⟩ | ⟨_, d⟩⟩
    · exact ⟨d, e, a, b⟩
    · exact absurd d (by simp)
  · rintro ⟨d, e, a, b⟩
    exact ⟨⟨a, b⟩, .inl ⟨d, e⟩⟩
theorem finv_ok {c : Int} {es : List (List Int)} {i j : Nat} {ds : List (List Int × List Int)} (h : FInv c es i j ds) (hE : ∀ e ∈ es, E3 e) : ∀ p ∈ ds, Ok33 1000 p := fun p hp => by
  obtain ⟨x, y⟩ := p
  obtain ⟨_, a | a⟩ := (h.2.2 x y).mp hp
  · exact e33 (hE x (List.mem_of_mem_take a.1)) (hE y a.2)
  · exact e33 (hE x (List.mem_of_getElem? a.1)) (hE y (List.mem_of_mem_take a.2))
/-- more comers have all clashes of fewer -/
theorem cond_more {k k' : Int} (hk : k' ≤ k) {x y : List Int} (h : Cl.cond k' x y = true) : Cl.cond k x y = true := by
  unfold Cl.cond at h ⊢
  rw [Bool.and_eq_true, Bool.and_eq_true, decide_eq_true_iff, decide_eq_true_iff, decide_eq_true_iff] at h ⊢
  obtain ⟨a, b, d⟩ := h
  refine ⟨a, b, ?_⟩
  have : k' * (x.getD 1 0 - y.getD 1 0) ≤ k * (x.getD 1 0 - y.getD 1 0) := Int.mul_le_mul_of_nonneg_right hk (by omega)
  omega
theorem clash_more {k k' : Int} (hk : k' ≤ k) {ls : List Int} {rs : List (List Int)} {x y : List Int} (h : Cl.Clash k' ls rs x y) : Cl.Clash k ls rs x y := ⟨h.1, h.2.1, h.2.2.1, cond_more hk h.2.2.2⟩
/-! ### the first clash -/
theorem flat_head {α β : Type} {f : α → List β} {l : List α} {i : Nat} {a : α} (h : l[i]? = some a) (h0 : (l.take i).flatMap f = []) : l.flatMap f = f a ++ (l.drop (i + 1)).flatMap f := by
  obtain ⟨hi, ha⟩ := List.getElem?_eq_some_iff.mp h
  have e : l = l.take i ++ a :: l.drop (i + 1) := by
    rw [← ha, ← List.drop_eq_getElem_cons hi, List.take_append_drop]
  have e2 : l.flatMap f = (l.take i).flatMap f ++ (f a ++ (l.drop (i + 1)).flatMap f) := by
    conv => lhs; rw [e]
    rw [List.flatMap_append, List.flatMap_cons]
  rw [e2, h0, List.nil_append]
theorem filter_head {α : Type} {f : α → Bool} {l : List α} {i : Nat} {a : α} (h : l[i]? = some a) (ha : f a = true) (h0 : (l.take i).filter f = []) : l.filter f = a :: (l.drop (i + 1)).filter f := by
  obtain ⟨hi, e1⟩ := List.getElem?_eq_some_iff.mp h
  have e : l = l.take i ++ a :: l.drop (i + 1) := by
    rw [← e1, ← List.drop_eq_getElem_cons hi, List.take_append_drop]
  have e2 : l.filter f = (l.take i).filter f ++ (a :: (l.drop (i + 1)).filter f) := by
    conv => lhs; rw [e]
    rw [List.filter_append, List.filter_cons_of_pos ha]
  rw [e2, h0, List.nil_append]
theorem cl_head {c : Int} {es g : List (List Int)} {i j m : Nat} {k : Int} {x y : List Int} (hk : (Cl.heads es)[i]? = some k) (hg : Cl.grp k es = g) (h1 : g[j]? = some x) (h2 : g[m]? = some y) (hc : Cl.cond c x y = true)
    (h0 : Cl.byHeads c es ((Cl.heads es).take i) ++ Cl.byGrp c g j ++ Cl.byOne c g x m = []) : (Cl.cl c es).head? = some (x, y) := by
  obtain ⟨h0, h3⟩ := List.append_eq_nil_iff.mp h0
  obtain ⟨h4, h5⟩ := List.append_eq_nil_iff.mp h0
  have e1 : Cl.cl c es = Cl.byGrp c g g.length ++ ((Cl.heads es).drop (i + 1)).flatMap fun k => Cl.byGrp c (Cl.grp k es) (Cl.grp k es).length := by
    unfold Cl.cl Cl.byHeads
    rw [flat_head hk h4, hg]
  have e2 : Cl.byGrp c g g.length = Cl.byOne c g x g.length ++ (g.drop (j + 1)).flatMap fun one => Cl.byOne c g one g.length := by
    unfold Cl.byGrp
    rw [List.take_of_length_le (Nat.le_refl _)]
    exact flat_head h1 h5
  have h6 : (g.take m).filter (Cl.cond c x) = [] := by
    unfold Cl.byOne at h3
    exact List.map_eq_nil_iff.mp h3
  have e3 : Cl.byOne c g x g.length = (x, y) :: ((g.drop (m + 1)).filter (Cl.cond c x)).map fun other => (x, other) := by
    unfold Cl.byOne
    rw [List.take_of_length_le (Nat.le_refl _), filter_head h2 hc h6]
    rfl
  rw [e1, e2, e3]
  rfl
/-- the first of the clashes in a row -/
def First (c : Int) (ls : List Int) (rs : List (List Int)) (x y : List Int) : Prop := ∃ ds, Due c ls rs ds ∧ ds.head? = some (x, y)
theorem First.clash {c : Int} {ls : List Int} {rs : List (List Int)} {x y : List Int} (h : First c ls rs x y) : Cl.Clash c ls rs x y := by
  obtain ⟨ds, hd, hh⟩ := h
  exact (hd.2.2 x y).mp (List.mem_of_mem_head? hh)
theorem First.one {c : Int} {ls : List Int} {rs : List (List Int)} (R : Tb.Right ls rs) {x y x' y' : List Int} (h : First c ls rs x y) (h' : First c ls rs x' y') : x' = x ∧ y' = y := by
  obtain ⟨ds, hd, hh⟩ := h
  obtain ⟨ds', hd', hh'⟩ := h'
  rw [due_one R hd' hd, hh] at hh'
  injection hh' with e
  injection e with e1 e2
  exact ⟨e1.symm, e2.symm⟩
end Pr

/-! ### == and != by a def of one's own, against anything -/
namespace RE8
open PySem PySem.Spec PySem.W PyProof.Rows L2 Builtin
section
variable {prog : Program} {w : World} {A : Around} {E : Value → Shared → Prop} {s : Shared} {K : Frag} {x C L f : Addr} {h₀ : Heap} {m : Str → Option Value} {ox : Obj} {od : Option Obj} {b tb : Value}
theorem ifBoundB {M : Model} {name : Str} {id : String} {args : List Value} {Q : Option Value → Shared → Prop} (X : K.In s.heap) (I : InstAt s.heap x ox C od) (hs : findIn K (.ref C) name = some (some (.builtin id)))
    (hb : ∀ self, bindSpecial (.builtin id) self = pure (.builtin id, [self])) (h : wpAny M A (call (.builtin id) (.ref x :: args)) (fun v => Q (some v)) E s) : wpAny M A (callSpecialIfBound? (.ref x) name args) Q E s := by
  simp only [callSpecialIfBound?, bindSpecialIfBound?]
  refine wpAny_holding (wpAny_bind (wpAny_bind (wpAny_bind (I.type.here ((looks_findIn X hs).here ?_)))))
  simp only [hb]
  refine wpAny_bind (wpAny_askSetting (wpAny_ite ?_))
  have fin : wpAny M A (call (.builtin id) ([.ref x] ++ args) >>= fun v => pure (some v)) Q E s := wpAny_bind (wpAny_mono h (fun v s' h' => wpAny_pure h') fun _ _ h' => h')
  split
  · exact wpAny_bind (wpAny_pure (wpAny_pure fin))
  · exact wpAny_tryCatch (wpAny_bind (wpAny_pure (wpAny_pure fin)))
theorem ne_body (X : K.In s.heap) (I : InstAt s.heap x ox C od) (hu : A.units < cLine) (hs : findIn K (.ref C) "__eq__" = some (some (.ref f))) (hf : isFn K (.ref f) = true) {Q : Fin → Shared → Prop}
    (hcall : wpAny (model prog w) A (call (.ref f) [.ref x, b]) (fun v s' => ∃ r, v = .bool r ∧ Q (.done (.ret (.bool (!r)))) s') E s) : wpAny (model prog w) A (Builtin.«object.__ne__» ⟨[.ref x, b], []⟩) Q E s := by
  unfold Builtin.«object.__ne__»
  repeat (first
    | with_reducible refine wpAny_cRoomFor hu ?_
    | (refine wpAny_bind (m := callSpecialIfBound? (.ref x) (Str.ofString "__eq__") [b])
        (ifBound_K X I hs hf (wpAny_mono hcall (fun r s' hr => by
          obtain ⟨b, rfl, hq⟩ := hr
          repeat (first | exact hq | exact wpAny_pure hq | exact wpAny_truthy_bool hq | (refine wpAny_bind (m := truthy (.bool _)) (wpAny_truthy_bool ?_)) | wp_step)) fun _ _ e => e)))
    | wp_step)
theorem cmp_ne {Q : Value → Shared → Prop} (hu : A.units + 1 < cLine) (F : Fr h₀ L s.heap m) (X₀ : K.In h₀) (I : InstAt s.heap x ox C od) (hb : Looks (model prog w) s.heap (typeOf b) tb) (hn : notFirst K C tb = true)
    (hs : findIn K (.ref C) "__eq__" = some (some (.ref f))) (hne : findIn K (.ref C) "__ne__" = some (some (.builtin "object.__ne__"))) (hm : mroIn K C (.type "object") = some true) (hf : isFn K (.ref f) = true)
    (h : wpAny (model prog w) A.in1 (call (.ref f) [.ref x, b]) (fun v s' => ∃ r, v = .bool r ∧ Q (.bool (!r)) s') E s) : wpAny (model prog w) A (richCompare .NotEq (.ref x) b) Q E s := by
  have X := X₀.keeps F.keep
  have t2 : Looks (model prog w) s.heap (isInstance (.ref x) (.type "object")) true := I.type.andThen (looks_mroIn X hm)
  have one : wpAny (model prog w) A (tryCompare (.ref x) "__ne__" b) (fun r s' => ∃ v, r = some v ∧ Q v s') E s := by
    unfold tryCompare
    refine wpAny_bind (ifBoundB X I hne (fun self => PySem.F.cmp_object.ne.bind self) (wpAny_call (codeAny_call_builtin PySem.F.cmp_object.ne.plain PySem.F.cmpEntry_ne
      (check_slot PySem.F.cmpKind_ne PySem.F.cmpSplit_ne t2 (PySem.F.cmpArgs_ne _ _) (ne_body (A := A.in1) X I (by exact hu) hs hf (wpAny_mono h (fun v s' hv => ?_) fun _ _ e => e))))))
    obtain ⟨r, rfl, hq⟩ := hv
    exact ⟨r, rfl, wpAny_pure ⟨_, rfl, hq⟩⟩
  unfold richCompare
  simp only [oneThing_ref]
  refine wpAny_holding (wpAny_bind (wpAny_cRoomFor (Nat.lt_of_succ_lt hu) ?_))
  refine wpAny_bind (I.type.here (wpAny_bind (hb.here ?_)))
  split
  · rename_i q
    have e : subIn K tb (.ref C) = some false := by
      rcases Bool.or_eq_true_iff.mp hn with e | e
      · rw [beq_iff_eq.mp e] at q; simp at q
      · exact beq_iff_eq.mp e
    refine wpAny_bind ((looks_subIn X e).here ?_)
    simp only [Bool.false_eq_true, if_false]
    refine wpAny_bind (wpAny_mono one (fun r s' z => ?_) fun _ _ e => e)
    obtain ⟨v, rfl, hq⟩ := z
    exact wpAny_pure hq
  · refine wpAny_bind (wpAny_pure ?_)
    simp only [Bool.false_eq_true, if_false]
    refine wpAny_bind (wpAny_mono one (fun r s' z => ?_) fun _ _ e => e)
    obtain ⟨v, rfl, hq⟩ := z
    exact wpAny_pure hq
end
section
variable {X : Cx} {C f : Addr} {fd : FuncData} {ps : List Str} {sp : Sp} {n : Nat}
/-- a == y, a an instance whose class tells == by a def of its own, y anything -/
def rEqO (K : PySem.W.Frag) (C : Addr) (sp : Sp) : R2 := fun x y H Q => ∃ a dx fs t, x = V.ref a ∧ H a = some (.ins C dx fs) ∧ TyX K H y t ∧ PySem.W.notFirst K C t = true ∧ sp [.ref a, y] H (fun v H' => ∃ b, v = .bl b ∧ Q (.bl b) H') (fun _ _ _ => False)
def rNeO (K : PySem.W.Frag) (C : Addr) (sp : Sp) : R2 := fun x y H Q => ∃ a dx fs t, x = V.ref a ∧ H a = some (.ins C dx fs) ∧ TyX K H y t ∧ PySem.W.notFirst K C t = true ∧ sp [.ref a, y] H (fun v H' => ∃ b, v = .bl b ∧ Q (.bl (!b)) H') (fun _ _ _ => False)
theorem call_own {A : Around} {pins : List (Addr × Obj)} {s : Shared} {σ : L2.St} {H : Hp} {a : Addr} {y : V} {u : Value} {Q : VK} (F : FnOk X.prog X.w X.K X.mg X.base CX0 n f fd ps sp) (hb : Binds X.K fd ps []) (sb : Sub X n A) (I : Inv X pins σ H s) (ry : RelV y u)
    (hsp : sp [.ref a, y] H Q (fun _ _ _ => False)) : wpAny (model X.prog X.w) A (call (.ref f) [.ref a, u]) (EP X pins σ Q) X.xe s := by
  have e0 : Env0 X.prog X.w X.K X.mg X.base A X.stack s H := by
    have e := I.env0
    exact ⟨by rw [sb.fr]; exact e.frames, e.mod, e.bs, e.bsz, e.funs, e.frf, e.hok, e.bare⟩
  have hl := F.len _ _ _ _ hsp
  have r2 : Vals [V.ref a, y] [Value.ref a, u] := .cons rfl (.cons ry .nil)
  refine wpAny_call (codeAny_mono (F.run A X.stack s H ⟨[.ref a, u], []⟩ [.ref a, u] [.ref a, y] _ _ sb.room e0 (by
    have := hb s [.ref a, u] I.kIn (by simpa using hl)
    simpa using this) r2 hsp) fun r s' hq => ?_)
  cases r with
  | error e => exact pass0 pins σ H s e s' I hq
  | ok fl =>
    cases fl with
    | ret w =>
      obtain ⟨z, H', I', rz, ez⟩ := I.after hq
      exact ⟨z, H', I', rz, ez⟩
    | next => exact False.elim hq
    | brk => exact False.elim hq
    | cont => exact False.elim hq
theorem op_eqO (F : FnOk X.prog X.w X.K X.mg X.base CX0 n f fd ps sp) (hs : PySem.W.findIn X.K (.ref C) "__eq__" = some (some (.ref f))) (hf : PySem.W.isFn X.K (.ref f) = true) (hb : Binds X.K fd ps []) (hr : Room n X.A) : OpR X (compareOp .Eq) (rEqO X.K C sp) := by
  intro pins s σ H x y v u Q I rx ry h
  obtain ⟨a, dx, fs, t, rfl, ea, ty, nf, hsp⟩ := h
  cases rx
  obtain ⟨mA, J, _⟩ := ins_get I.hok ea
  obtain ⟨od, J, _⟩ := J.look
  obtain ⟨P, kx, hp, _⟩ := kit_of I ry ty
  obtain ⟨m, hF⟩ := I.fr
  show wpAny (model X.prog X.w) X.A (richCompare .Eq (.ref a) u) (EP X pins σ Q) X.xe s
  refine PySem.W.cmp_K (op := .Eq) (tb := t) hr.units0 hF I.ok.mod.kin J (kx.ty _ _ I.kIn hp) nf hs hf ?_
  refine wpAny_mono (call_own F hb ⟨hr, rfl⟩ I ry hsp) (fun r s' z => ?_) fun _ _ x => x
  obtain ⟨z, H', I', rz, b, rfl, q⟩ := z
  cases rz
  exact ⟨.bl b, H', I', rfl, q⟩
theorem op_neO (F : FnOk X.prog X.w X.K X.mg X.base CX0 n f fd ps sp) (hs : PySem.W.findIn X.K (.ref C) "__eq__" = some (some (.ref f))) (hne : PySem.W.findIn X.K (.ref C) "__ne__" = some (some (.builtin "object.__ne__"))) (hm : PySem.W.mroIn X.K C (.type "object") = some true) (hf : PySem.W.isFn X.K (.ref f) = true) (hb : Binds X.K fd ps []) (hr : Room (n + 1) X.A) : OpR X (compareOp .NotEq) (rNeO X.K C sp) := by
  intro pins s σ H x y v u Q I rx ry h
  obtain ⟨a, dx, fs, t, rfl, ea, ty, nf, hsp⟩ := h
  cases rx
  obtain ⟨mA, J, _⟩ := ins_get I.hok ea
  obtain ⟨od, J, _⟩ := J.look
  obtain ⟨P, kx, hp, _⟩ := kit_of I ry ty
  obtain ⟨m, hF⟩ := I.fr
  show wpAny (model X.prog X.w) X.A (richCompare .NotEq (.ref a) u) (EP X pins σ Q) X.xe s
  have sb : Sub X (n + 1) X.A := ⟨hr, rfl⟩
  refine cmp_ne (tb := t) (by have := sb.in1.room.units0; exact this) hF I.ok.mod.kin J (kx.ty _ _ I.kIn hp) nf hs hne hm hf ?_
  refine wpAny_mono (call_own F hb sb.in1 I ry hsp) (fun r s' z => ?_) fun _ _ x => x
  obtain ⟨z, H', I', rz, b, rfl, q⟩ := z
  cases rz
  exact ⟨b, rfl, .bl (!b), H', I', rfl, q⟩
end
/-- what is asked of a class whose things are looked at -/
structure InsC (K : PySem.W.Frag) (C : Addr) : Prop where
  ha : PySem.W.findIn K (.ref C) "__class__" = some (some (.builtin "object.__class__"))
  hn : PySem.W.specialIn K (.builtin "object.__class__") "__get__" = some (some (.builtin "getset_descriptor.__get__"))
  ht : PySem.W.takesIn K (.builtin "object.__class__") = some true
  hm : PySem.W.mroIn K C (.type "object") = some true
  ne : PySem.W.findIn K (.ref C) "__ne__" = some (some (.builtin "object.__ne__"))
  ic : PySem.W.isClsIn K C = true
  ty : PySem.W.typeIn K (.ref C) = some (.type "type")
theorem InsC.self {K : PySem.W.Frag} {C : Addr} (_ : InsC K C) : PySem.W.kitOne K (.ref C) (.ref C) = some true := by
  unfold PySem.W.kitOne
  rw [if_pos (by simp)]
theorem first_self (K : PySem.W.Frag) (C : Addr) : PySem.W.notFirst K C (.ref C) = true := by
  unfold PySem.W.notFirst
  simp
/-- the kinds of things that are no instance of an own class -/
def Plain (n : String) : Prop := ∃ l, PySem.fastBuiltinMro n = some l ∧ ∀ C : Addr, l.contains (Value.ref C) = false
theorem Plain.sub {n : String} (p : Plain n) (K : PySem.W.Frag) (C : Addr) : PySem.W.subIn K (.type n) (.ref C) = some false := by
  obtain ⟨l, e, h⟩ := p
  show (PySem.fastBuiltinMro n).map (·.contains (Value.ref C)) = some false
  rw [e]
  exact congrArg some (h C)
theorem Plain.first {n : String} (p : Plain n) (K : PySem.W.Frag) (C : Addr) : PySem.W.notFirst K C (.type n) = true := by
  unfold PySem.W.notFirst
  rw [p.sub K C]
  simp
theorem Plain.kit {n : String} (p : Plain n) {K : PySem.W.Frag} {C : Addr} (i : InsC K C) : PySem.W.kitOne K (.type n) (.ref C) = some false := by
  unfold PySem.W.kitOne
  rw [if_neg (by simp)]
  have h2' : (PySem.W.clsIn K C).isSome = true := i.ic
  show (if ((PySem.W.clsIn K C).isSome && PySem.W.typeIn K (.ref C) == some (.type "type")) = true then PySem.W.subIn K (.type n) (.ref C) else none) = some false
  rw [h2', i.ty, if_pos (by rfl)]
  exact p.sub K C
theorem plain_non : Plain "NoneType" := ⟨[.type "NoneType", .type "object"], by kernel_rfl, fun _ => by simp⟩
theorem plain_int : Plain "int" := ⟨[.type "int", .type "object"], by kernel_rfl, fun _ => by simp⟩
theorem plain_str : Plain "str" := ⟨[.type "str", .type "object"], by kernel_rfl, fun _ => by simp⟩
theorem plain_tup : Plain "tuple" := ⟨[.type "tuple", .type "object"], by kernel_rfl, fun _ => by simp⟩
theorem plain_lst : Plain "list" := ⟨[.type "list", .type "object"], by kernel_rfl, fun _ => by simp⟩
theorem InsC.tyOf {K : PySem.W.Frag} {C a dx : Addr} {fs : List (Str × V)} {H : Hp} (i : InsC K C) (cl : Cls K C) (e : H a = some (.ins C dx fs)) : TyX K H (.ref a) (.ref C) := .base (.ins e cl i.ha i.hn i.ht i.hm)
end RE8

/-! ## sorted lists of tuples of ints of any lengths, none empty: in the order of lists -/
namespace Lx
def lt : List Int → List Int → Bool
  | [], [] => false
  | [], _ :: _ => true
  | _ :: _, [] => false
  | p :: ns, q :: ms => if p = q then lt ns ms else decide (p < q)
theorem irr : ∀ x : List Int, lt x x = false
  | [] => rfl
  | p :: x => by
    show (if p = p then lt x x else decide (p < p)) = false
    rw [if_pos rfl]
    exact irr x
theorem asym : ∀ x y : List Int, lt x y = true → lt y x = false
  | [], [], h => by cases h
  | [], _ :: _, _ => rfl
  | _ :: _, [], h => by cases h
  | p :: x, q :: y, h => by
    have h : (if p = q then lt x y else decide (p < q)) = true := h
    show (if q = p then lt y x else decide (q < p)) = false
    by_cases e : p = q
    · subst e
      rw [if_pos rfl] at h ⊢
      exact asym x y h
    · rw [if_neg e] at h
      rw [if_neg (fun z => e z.symm)]
      have := of_decide_eq_true h
      exact decide_eq_false (by omega)
theorem ntr : ∀ x y z : List Int, lt x y = false → lt y z = false → lt x z = false
  | [], [], z, _, h => h
  | [], _ :: _, _, h, _ => by cases h
  | _ :: _, [], [], _, _ => rfl
  | _ :: _, [], _ :: _, _, h => by cases h
  | _ :: _, _ :: _, [], _, _ => rfl
  | p :: x, q :: y, r :: z, h1, h2 => by
    have h1 : (if p = q then lt x y else decide (p < q)) = false := h1
    have h2 : (if q = r then lt y z else decide (q < r)) = false := h2
    show (if p = r then lt x z else decide (p < r)) = false
    by_cases e : p = q
    · subst e
      rw [if_pos rfl] at h1
      by_cases e2 : p = r
      · subst e2
        rw [if_pos rfl] at h2 ⊢
        exact ntr x y z h1 h2
      · rw [if_neg e2] at h2 ⊢
        exact h2
    · rw [if_neg e] at h1
      have g1 := of_decide_eq_false h1
      by_cases e2 : q = r
      · subst e2
        rw [if_neg e]
        exact h1
      · rw [if_neg e2] at h2
        have g2 := of_decide_eq_false h2
        rw [if_neg (by omega)]
        exact decide_eq_false (by omega)
theorem anti : ∀ x y : List Int, lt x y = false → lt y x = false → x = y
  | [], [], _, _ => rfl
  | [], _ :: _, h, _ => by cases h
  | _ :: _, [], _, h => by cases h
  | p :: x, q :: y, h1, h2 => by
    have h1 : (if p = q then lt x y else decide (p < q)) = false := h1
    have h2 : (if q = p then lt y x else decide (q < p)) = false := h2
    by_cases e : p = q
    · subst e
      rw [if_pos rfl] at h1 h2
      rw [anti x y h1 h2]
    · rw [if_neg e] at h1
      rw [if_neg (fun z => e z.symm)] at h2
      have g1 := of_decide_eq_false h1
      have g2 := of_decide_eq_false h2
      omega
def ins (x : List Int) : List (List Int) → List (List Int)
  | [] => [x]
  | y :: r => if lt y x = true then y :: ins x r else x :: y :: r
def sort : List (List Int) → List (List Int)
  | [] => []
  | x :: r => ins x (sort r)
def Srt (l : List (List Int)) : Prop := l.Pairwise fun x y => lt y x = false
theorem ins_perm (x : List Int) : ∀ l, (ins x l).Perm (x :: l)
  | [] => .refl _
  | y :: r => by
    unfold ins
    split
    · exact ((ins_perm x r).cons y).trans (.swap x y r)
    · exact .refl _
theorem sort_perm : ∀ l, (sort l).Perm l
  | [] => .refl _
  | x :: r => (ins_perm x (sort r)).trans ((sort_perm r).cons x)
theorem ins_srt (x : List Int) : ∀ l, Srt l → Srt (ins x l)
  | [], _ => List.pairwise_singleton _ _
  | y :: r, h => by
    have h' := List.pairwise_cons.mp h
    unfold ins
    by_cases c : lt y x = true
    · rw [if_pos c]
      refine List.pairwise_cons.mpr ⟨fun z hz => ?_, ins_srt x r h'.2⟩
      rcases List.mem_cons.mp ((ins_perm x r).mem_iff.mp hz) with e | hz
      · subst e
        exact asym _ _ c
      · exact h'.1 z hz
    · rw [if_neg c]
      have c' : lt y x = false := by
        cases e : lt y x with
        | true => exact absurd e c
        | false => rfl
      refine List.pairwise_cons.mpr ⟨fun z hz => ?_, h⟩
      rcases List.mem_cons.mp hz with e | hz
      · subst e
        exact c'
      · exact ntr z y x (h'.1 z hz) c'
theorem sort_srt : ∀ l, Srt (sort l)
  | [] => .nil
  | x :: r => ins_srt x _ (sort_srt r)
theorem uniq : ∀ {l m : List (List Int)}, l.Perm m → Srt l → Srt m → l = m
  | [], m, p, _, _ => (List.nil_perm.mp p).symm
  | x :: l, [], p, _, _ => absurd p.length_eq (by simp)
  | x :: l, y :: m, p, a, b => by
    have a' := List.pairwise_cons.mp a
    have b' := List.pairwise_cons.mp b
    have e : x = y := by
      have h1 : x ∈ y :: m := p.mem_iff.mp List.mem_cons_self
      have h2 : y ∈ x :: l := p.mem_iff.mpr List.mem_cons_self
      rcases List.mem_cons.mp h1 with e | h1
      · exact e
      · rcases List.mem_cons.mp h2 with e | h2
        · exact e.symm
        · exact anti x y (b'.1 x h1) (a'.1 y h2)
    subst e
    rw [uniq (List.Perm.cons_inv p) a'.2 b'.2]
theorem sort_of {l m : List (List Int)} (p : m.Perm l) (h : Srt m) : m = sort l := uniq (p.trans (sort_perm l).symm) h (sort_srt l)
theorem sort_congr {l m : List (List Int)} (p : m.Perm l) : sort m = sort l := sort_of ((sort_perm m).trans p) (sort_srt m)
end Lx
namespace My
open PySem PySem.Spec PyProof.Rows L2
section
variable {prog : Program} {w : World} {A : Around} {E : Value → Shared → Prop} {s : Shared} {Q : Bool → Shared → Prop}
theorem lexV {b fin : Bool} {xs ys : List Value} {ns ms : List Int} (i : Nat) (hx : IntsAre xs ns) (hy : IntsAre ys ms) (hf : fin = decide (ns.length < ms.length))
    (h : Q (Lx.lt ns ms) s) : PySem.W.KatLex prog w A b fin Q (xs.zip ys) i s := by
  induction hx generalizing ys ms i with
  | nil =>
    cases hy with
    | nil =>
      subst hf
      exact PySem.W.kat_nil h
    | @cons q u ys ms hy =>
      subst hf
      rw [decide_eq_true (show ([] : List Int).length < (q :: ms).length from Nat.zero_lt_succ _)]
      exact PySem.W.kat_nil h
  | @cons p t xs ns hx ih =>
    cases hy with
    | nil =>
      subst hf
      rw [decide_eq_false (by simp)]
      exact PySem.W.kat_nil h
    | @cons q u ys ms hy =>
      show PySem.W.KatLex prog w A b fin Q ((Value.int p t, Value.int q u) :: xs.zip ys) i s
      refine PySem.W.kat_cons (wpAny_eqBool_int ?_)
      have h : Q (if p = q then Lx.lt ns ms else decide (p < q)) s := h
      by_cases e : p = q
      · subst e
        rw [beq_self_eq_true]
        rw [if_pos rfl] at h
        refine PySem.W.kat_yes ?_
        exact ih (i + 1) hy (by rw [hf]; exact decide_eq_decide.mpr (by simp)) h
      · rw [show (p == q) = false from beq_eq_false_iff_ne.mpr e]
        rw [if_neg e] at h
        exact PySem.W.kat_no (TS.oneLt_ints _ h)
end
theorem firstsV {h : Heap} : ∀ vs : List Value, (∀ v ∈ vs, ∃ ns, TS.TupInts h v ns ∧ ns ≠ []) → ∃ fs, PySem.W.KatTups h vs fs ∧ fs.length = vs.length ∧ ∀ f, f ∈ fs → ∃ n t, f = Value.int n t
  | [], _ => ⟨[], PySem.W.KatTups.nil, rfl, fun f hf => by simp at hf⟩
  | v :: vs, x => by
    obtain ⟨fs, k, hl, hi⟩ := firstsV vs fun u hu => x u (List.mem_cons_of_mem _ hu)
    obtain ⟨ns, ⟨a, xs, rfl, ⟨o, ho, hc, n, hdt⟩, i⟩, hn⟩ := x v (List.mem_cons_self ..)
    obtain ⟨y, ys, e⟩ : ∃ y ys, xs.toList = y :: ys := by
      cases q : xs.toList with
      | nil =>
        rw [q] at i
        have l := i.length
        rw [List.length_nil] at l
        exact absurd (List.length_eq_zero_iff.mp (by omega)) hn
      | cons y ys => exact ⟨y, ys, rfl⟩
    obtain ⟨m, t, hy⟩ := i.all y (by rw [e]; exact List.mem_cons_self ..)
    refine ⟨y :: fs, PySem.W.KatTups.cons ho hc hdt ?_ k, by simp [hl], ?_⟩
    · have z := congrArg (fun l : List Value => l[0]?) e
      simpa using z
    · intro f hf
      rcases List.mem_cons.mp hf with rfl | hf
      · exact ⟨m, t, hy⟩
      · exact hi f hf
theorem swoL {α : Type} (f : α → List Int) : SrtO.Swo fun x y => Lx.lt (f x) (f y) := ⟨fun x y h => Lx.asym _ _ h, fun x y z h1 h2 => Lx.ntr _ _ _ h2 h1⟩
def rSortV (K : PySem.W.Frag) : List V → Hp → VK → Prop := fun vs H Q => ∃ (a : Addr) (ps : List Addr) (rs : List (List Int)), vs = [V.ref a] ∧ SqL K H a (ps.map V.ref) ∧ Tups fI H ps rs ∧ (2 ≤ rs.length → ∀ r ∈ rs, r ≠ []) ∧
  ∀ ps' p, Tups fI H ps' (Lx.sort rs) → ps'.Perm ps → H p = none → Q (.ref p) (upd H p (.lst (ps'.map V.ref)))
theorem cr_sortV {X : Cx} : CallR X (.builtin "sorted") (rSortV X.K) := by
  intro pins s σ H vs us Q I r h
  obtain ⟨a, ps, rs, rfl, hs, tu, hb, q⟩ := h
  obtain ⟨its, rv, hl, hz⟩ := I.list hs
  obtain ⟨u, rfl, ru⟩ := vals1 r
  obtain rfl : u = Value.ref a := ru
  obtain ⟨e1, e2⟩ := refs_back rv fun x m => by
    obtain ⟨t, _, e⟩ := List.mem_map.mp m
    exact ⟨t, e.symm⟩
  have key : ∀ v ∈ its, ∃ p, v = Value.ref p ∧ p ∈ ps := fun v hv => by
    obtain ⟨t, rfl⟩ := e2 v hv
    have hm : V.ref t ∈ ps.map V.ref := by rw [e1]; exact List.mem_map.mpr ⟨_, hv, rfl⟩
    obtain ⟨p, hp, e⟩ := List.mem_map.mp hm
    cases e
    exact ⟨t, rfl, hp⟩
  have tin : ∀ v ∈ its, TS.TupInts s.heap v (intsV H (backV v)) ∧ (2 ≤ its.length → intsV H (backV v) ≠ []) := fun v hv => by
    obtain ⟨p, rfl, hp⟩ := key v hv
    obtain ⟨r, hr, ep⟩ := tu.mem p hp
    have ei : intsV H (backV (Value.ref p)) = r := intsV_of ep
    rw [ei]
    obtain ⟨its2, r2, pt, _⟩ := I.tuple (SqT.of ep)
    refine ⟨⟨p, its2.toArray, rfl, pt, intsAre_of r2⟩, fun z => hb ?_ r hr⟩
    have z1 := rv.length
    have z2 := tu.length
    rw [List.length_map] at z1
    omega
  refine SrtO.sorted_ord (ltv := fun v u => Lx.lt (intsV H (backV v)) (intsV H (backV u))) (swoL fun v => intsV H (backV v)) hl.isList (by rw [← rv.length]; exact hz) (fun h2 h₁ a' ha' kk => ?_) fun out h1 h2 => ?_
  · intro h' keep
    have keep2 : ∀ b o, s.heap.get? b = some o → o.cls = .type "tuple" → h'.get? b = some o := fun b o e c => keep b o (kk b o e).1 (kk b o e).2
    have tin' : ∀ v ∈ its, TS.TupInts h' v (intsV H (backV v)) ∧ intsV H (backV v) ≠ [] := fun v hv => let ⟨x, y⟩ := tin v hv; ⟨x.keeps keep2, y h2⟩
    obtain ⟨fs, k1, k2, k3⟩ := firstsV (h := h') its fun v hv => ⟨_, tin' v hv⟩
    refine ⟨tuples' true, fun Q E hq => ?_, ?_⟩
    · refine PySem.W.kat_kind (T := .type "int") k1 (by omega) (fun f hm => ?_) (by rfl) ?_
      · obtain ⟨x, t, rfl⟩ := k3 f hm
        exact PySem.W.Looks.now
      · have e : (Value.type "int" != Value.type "tuple") = true := by first | decide +kernel | rfl | decide
        rw [e]
        exact hq
    · intro p q hm hm'
      obtain ⟨⟨a1, xs, x1, ⟨o1, ho1, hc1, n1, hd1⟩, i1⟩, l1⟩ := tin' _ hm
      obtain ⟨⟨a2, ys, x2, ⟨o2, ho2, hc2, n2, hd2⟩, i2⟩, l2⟩ := tin' _ hm'
      show wpAny _ _ (keyLt' _ p.1 q.1) (fun r s' => s' = _ ∧ r = Lx.lt (intsV H (backV p.1)) (intsV H (backV q.1))) (fun _ _ => False) _
      generalize intsV H (backV p.1) = ns at *
      generalize intsV H (backV q.1) = ms at *
      rw [x1, x2]
      refine PySem.W.kat_lt ho1 hd1 ho2 hd2 ?_
      exact lexV 0 i1 i2 (by
        have z1 := i1.length
        have z2 := i2.length
        simp at z1 z2
        exact decide_eq_decide.mpr (by omega)) ⟨rfl, rfl⟩
  · obtain ⟨ep, he'⟩ := PyProof.Rows.sortedAll_at s.heap its out.toArray
    have h3 : ∀ u ∈ out, ∃ p, u = Value.ref p ∧ p ∈ ps := fun u hu => key u (h2.perm.mem_iff.mp hu)
    have eo : out.map backV = (out.map fun u => match u with
      | Value.ref a => a
      | _ => 0).map V.ref := by
      rw [List.map_map]
      refine List.map_congr_left fun u hu => ?_
      obtain ⟨p, rfl, _⟩ := h3 u hu
      rfl
    have hp : (out.map backV).Perm (ps.map V.ref) := by
      rw [e1]
      exact h2.perm.map backV
    have hlen : (out.map backV).length ≤ sizeLine := by
      rw [hp.length_eq]
      exact hz
    generalize eps : (out.map fun u => match u with
      | Value.ref a => a
      | _ => 0) = ps' at eo
    have pp : ps'.Perm ps := by
      rw [eo] at hp
      have z := hp.map fun v => match v with
        | V.ref a => a
        | _ => 0
      rw [List.map_map, List.map_map] at z
      have id1 : ∀ l : List Addr, l.map ((fun v => match v with
        | V.ref a => a
        | _ => 0) ∘ V.ref) = l := fun l => by
        induction l with
        | nil => rfl
        | cons x l ih => rw [List.map_cons, ih]; rfl
      rw [id1, id1] at z
      exact z
    have tu' : Tups fI H ps' (ps'.map fun p => intsV H (.ref p)) := tups_of fun p hp => by
      obtain ⟨r, _, e⟩ := tu.mem p (pp.mem_iff.mp hp)
      exact ⟨r, e⟩
    have pw : Lx.Srt (ps'.map fun p => intsV H (.ref p)) := by
      have z : (out.map backV).Pairwise (fun x y => Lx.lt (intsV H y) (intsV H x) = false) := List.pairwise_map.mpr h1
      rw [eo] at z
      unfold Lx.Srt
      rw [List.pairwise_map] at z ⊢
      exact z
    have er : (ps'.map fun p => intsV H (.ref p)) = Lx.sort rs := Lx.sort_of (by rw [tu.ints]; exact pp.map _) pw
    rw [er] at tu'
    rw [eo] at hlen
    refine ⟨.ref _, upd H (s.heap.objs.size + 1) (.lst (ps'.map V.ref)), I.laid (t' := s.toks) (fun _ _ => PyProof.Rows.sortedAll_old) (Nat.le_succ _) ⟨hlen, out, ep, ?_, he'⟩, rfl, q ps' _ tu' pp (I.hok.fresh (Nat.le_succ _))⟩
    · rw [← eo]
      exact vals_back fun u hu => by
        obtain ⟨p, e, _⟩ := h3 u hu
        exact ⟨p, e⟩
end My

/-! ### exceptions of own classes as values: made, asked for their class -/
namespace EX6
open PySem PySem.Spec PyProof.Rows L2
/-- C(e, ..) as a value, C an exception class with its own __init__ -/
def tNewE (C : Addr) (sp : Sp) (dvs : List V) (ta : TA) : TE := fun σ H Q => ta σ H fun vs H1 => vs.length ≤ 1000 ∧ ∀ a, H1 a = none → sp (.ref a :: (vs ++ dvs)) (upd H1 a (exo a C none)) (fun v H2 => v = .non ∧ Q (.ref a) H2) (fun _ _ _ => False)
theorem pe_newE {X : Cx} {CX : CXT} {x : Str} {C fI : Addr} {k : Nat} {fd : FuncData} {ps : List Str} {sp : Sp} {ds : List Value} {dvs : List V} {e : Expr} {es : List Expr} {ta : TA} {p pos : Pos} (T : OexC X.K C) (iC : PySem.W.findIn X.K (.ref C) "__init__" = some (some (.ref fI))) (tI : PySem.W.typeIn X.K (.ref fI) = some (.type "function"))
    (F1 : FnOk X.prog X.w X.K X.mg X.base CX k fI fd ps sp) (hr : Room (k + 1) X.A) (hb : Binds X.K fd ps ds) (hd : Vals dvs ds) (hx : Passes CX X (fun _ _ _ => False)) (hg : Gl X x) (hm : X.mg x = some (.ref C)) (ha : PA X (e :: es) ta)
    (hdb : (x == ("__debug__" : Str)) = false := by decide) (he : starEach (e :: es) X.env = (false, eval e X.env) :: starEach es X.env := by rfl) (hpl : (backTo pos (starEach es X.env)).any (·.1) = false := by rfl) :
    PE X (.Call (.Name x p) (e :: es) [] pos) (tNewE C sp dvs ta) := by
  refine ⟨fun pins s σ H Q I h => ?_⟩
  obtain ⟨nm, q, N, bs, bm, sn, sub, ab, col, dd, k0, k1, k2, k3, k5, hC, hbm⟩ := T.cls
  refine wpAny_Call_Name_kw (ld_glob I hg hm ?_ hdb)
  refine PySem.W.callWith_K (h₀ := X.base) I.ok.mod.kin T.kC (thn (ha.run pos pins s σ H _ I h) fun us s1 ⟨vs, H1, I1, r1, hz, q1⟩ => ⟨I1.kIn, ?_⟩) he hpl
  show wpAny _ _ (call (.ref C) us) _ _ _
  obtain ⟨hp, g, dr, tk, os⟩ := s1
  have hsz : hp.objs.size ≤ hp.objs.size + 1 := Nat.le_succ _
  have hn : H1 (hp.objs.size + 1) = none := I1.hok.fresh hsz
  have hq := q1 (hp.objs.size + 1) hn
  have kk : ∀ b o, hp.get? b = some o → ((hp.push (PySem.W.kdv_tup us)).push (PySem.HandSPX.excO C hp.objs.size)).get? b = some o := fun b o e => Heap.get?_push_of_some _ (Heap.get?_push_of_some _ e)
  have hget : ((hp.push (PySem.W.kdv_tup us)).push (PySem.HandSPX.excO C hp.objs.size)).get? (hp.objs.size + 1) = some (PySem.HandSPX.excO C hp.objs.size) := by heap_get
  have I2 : Inv X pins σ (upd H1 (hp.objs.size + 1) (exo (hp.objs.size + 1) C none)) ⟨(hp.push (PySem.W.kdv_tup us)).push (PySem.HandSPX.excO C hp.objs.size), g, dr, tk, os⟩ :=
    I1.laid (t' := tk) (a := hp.objs.size + 1) (o := exo (hp.objs.size + 1) C none) (h' := (hp.push (PySem.W.kdv_tup us)).push (PySem.HandSPX.excO C hp.objs.size)) kk hsz (exo_ok hget)
  have r2 : Vals (V.ref (hp.objs.size + 1) :: (vs ++ dvs)) (Value.ref (hp.objs.size + 1) :: (us ++ ds)) := .cons rfl (r1.append hd)
  have hl : (Value.ref (hp.objs.size + 1) :: us ++ ds).length = ps.length := by
    have e := r2.length
    rw [F1.len _ _ _ _ hq] at e
    exact e.symm
  have hus : us.length ≤ sizeLine := by
    rw [← Paired.length r1, sizeLine_eq]
    omega
  refine wpAny_call (PySem.HandSPX.call_own F.excBase_ValueError (fun Y => PySem.HandSPX.refsVE_contains Y bm hbm) (I1.kIn _ _ hC) (PySem.W.looks_findIn I1.kIn iC) (fun self => PySem.W.bind_fn I1.kIn self tI) hus
    (codeAny_mono (F1.run _ X.stack _ _ ⟨Value.ref (hp.objs.size + 1) :: us, []⟩ (Value.ref (hp.objs.size + 1) :: (us ++ ds)) _ _ (fun _ _ _ => False) (hr.make C us []) (I2.env0.make C us []) (hb _ (Value.ref (hp.objs.size + 1) :: us) I2.kIn hl) r2 hq) fun r s' hq' => ?_))
  cases r with
  | error er => exact hx pins σ _ _ er s' I2 hq'
  | ok fl =>
    cases fl with
    | ret u =>
      obtain ⟨v, H', I3, rv, ev, q3⟩ := I2.after hq'
      subst ev
      exact ⟨rv, ⟨V.ref (hp.objs.size + 1), H', I3, rfl, q3⟩⟩
    | next => exact False.elim hq'
    | brk => exact False.elim hq'
    | cont => exact False.elim hq'
/-- isinstance(e, c), e an exception of the own class at C that stands in the heap with its dict -/
def rIsX (K : PySem.W.Frag) (C : Addr) : List V → Hp → VK → Prop := fun xs H Q => ∃ (a d : Addr) (fs : List (Str × V)) (c : V) (cv : Value) (b : Bool), xs = [.ref a, c] ∧ H a = some (exo a C (some d)) ∧ H d = some (exd d fs) ∧ ClsV c cv ∧ PySem.W.kitOne K (.ref C) cv = some b ∧ Q (.bl b) H
theorem call_isX {X : Cx} {C : Addr} (E : ExcC X.K C) : CallR X (.builtin "isinstance") (rIsX X.K C) := by
  intro pins s σ H xs us Q I r h
  obtain ⟨a, d, fs, c, cv, b, rfl, ea, ed, k, e, q⟩ := h
  obtain ⟨u1, u2, rfl, r1, r2⟩ := vals2 r
  have e2 := k.eq r2
  subst e2
  cases (show u1 = Value.ref a from r1)
  obtain ⟨⟨t1, hget⟩, _⟩ := I.hok a _ ea
  obtain ⟨⟨mA, hns, _⟩, _⟩ := I.hok d _ ed
  obtain ⟨od, ho, _⟩ := lookIn_ns hns
  obtain ⟨cd, hcD, _⟩ := PySem.W.any_some E.hd
  have J : PySem.W.InstAt s.heap a ({ cls := .ref C, dict := some d, data := .fields #[.ref t1, .none, .none, .none, .bool false, .none] } : Obj) C (some od) := ⟨hget, rfl, rfl, ho⟩
  exact PySem.W.kia_one (PySem.W.kitx_exc (by rw [hcD]; rfl) E.hg E.hk E.hs E.ha E.hn E.ht E.hm) I.kIn J e (fun z => nomatch z) fun tk => ⟨.bl b, H, I.tok tk, rfl, q⟩
theorem kit_own {K : PySem.W.Frag} {a b : Addr} (h1 : PySem.W.subIn K (.ref a) (.ref b) = some true) (h2 : PySem.W.isClsIn K b = true) (h3 : PySem.W.typeIn K (.ref b) = some (.type "type")) : PySem.W.kitOne K (.ref a) (.ref b) = some true := by
  unfold PySem.W.kitOne
  split
  · rfl
  · have h2' : (PySem.W.clsIn K b).isSome = true := h2
    show (if ((PySem.W.clsIn K b).isSome && PySem.W.typeIn K (.ref b) == some (.type "type")) = true then PySem.W.subIn K (.ref a) (.ref b) else none) = some true
    rw [h2', h3, if_pos (by rfl)]
    exact h1
theorem kit_ownN {K : PySem.W.Frag} {a b : Addr} (h1 : PySem.W.subIn K (.ref a) (.ref b) = some false) (h2 : PySem.W.isClsIn K b = true) (h3 : PySem.W.typeIn K (.ref b) = some (.type "type")) (h4 : (Value.ref a == Value.ref b) = false) : PySem.W.kitOne K (.ref a) (.ref b) = some false := by
  unfold PySem.W.kitOne
  rw [h4, if_neg Bool.false_ne_true]
  have h2' : (PySem.W.clsIn K b).isSome = true := h2
  show (if ((PySem.W.clsIn K b).isSome && PySem.W.typeIn K (.ref b) == some (.type "type")) = true then PySem.W.subIn K (.ref a) (.ref b) else none) = some false
  rw [h2', h3, if_pos (by rfl)]
  exact h1
end EX6
/-! ### a tuple times an int of any sign -/
namespace RN6
open PySem PySem.Spec PyProof.Rows L2
theorem tuple_mulN (l : Addr) (items : Array Value) (n : Nat) (dd : Option Addr) (sl : Array (Option Value)) (x : Int) (u : Tok) (c0 : (decide (x < -(2 ^ 63)) || decide (x ≥ 2 ^ 63)) = false) (c1 : (items.isEmpty || x == 1) = false) (c2 : (decide (x ≤ 0) || items.isEmpty) = true) :
    Meets (Builtin.«tuple.__mul__» ⟨[.ref l, .int x u], []⟩) (fun _ R s => s.heap.get? l = some { cls := .type "tuple", dict := dd, data := .seq items n, slots := sl } ∧
      R (.ok (.ret (Value.ref s.heap.objs.size))) { s with heap := s.heap.push { cls := Value.type "tuple", data := Data.seq #[] }, toks := s.toks }) :=
  .of_wp fun prog w A R s h => by
    obtain ⟨hp, g, d, tk, os⟩ := s
    obtain ⟨hl, h⟩ := h
    have f1 := AutoSeq1.idx_int
    wp_walk using wpAny_loadPart' hl
    repeat (first
      | (refine wpAny_ite_false (decide_eq_false (by rw [c0]; exact Bool.false_ne_true)) ?_; wp_walk using wpAny_loadPart' hl)
      | (refine wpAny_ite_false (decide_eq_false (by rw [c1]; exact Bool.false_ne_true)) ?_; wp_walk using wpAny_loadPart' hl)
      | (refine wpAny_ite_true (decide_eq_true c2) ?_; wp_walk using wpAny_loadPart' hl))
    exact ⟨_, rfl, h⟩
def rRepN (K : PySem.W.Frag) : R2 := fun x y H Q => ∃ l k xs, x = .ref l ∧ y = .int k ∧ SqT K H l xs ∧ -1000 ≤ k ∧ k ≤ 1000 ∧ xs.length ≤ 1000 ∧ ∀ p H', (∀ b o, H b = some o → H' b = some o) → SqT K H' p (List.replicate k.toNat xs).flatten → Q (.ref p) H'
theorem op_repN {X : Cx} : OpR X (binaryOp .Mult) (rRepN X.K) := by
  intro pins s σ H x y v u Q I rx ry h
  obtain ⟨l, k, xs, rfl, rfl, hT, h1, h2, hz, q⟩ := h
  by_cases hk : 1 ≤ k
  · exact RR.op_repZ pins s σ H _ _ v u Q I rx ry ⟨l, k, xs, rfl, rfl, hT, hk, h2, hz, q⟩
  · have c0 : (decide (k < -(2 ^ 63)) || decide (k ≥ 2 ^ 63)) = false := by
      rw [decide_eq_false (by omega), decide_eq_false (by omega)]
      rfl
    have e0 : k.toNat = 0 := by omega
    cases rx
    obtain ⟨t, rfl⟩ := ry
    obtain ⟨its, r, ⟨⟨cls, dd, data, sl⟩, ho, hc, n, hd⟩, hs⟩ := I.tuple hT
    simp only at hc hd
    subst hc hd
    by_cases hne : xs = []
    · subst hne
      cases r
      refine wpAny_binaryOp_repeat_ref (T := "tuple") (U := "int") (by decide) ⟨_, ho, rfl⟩ (fun s' => typeIs_int s' k t) noFill_tuple_mul F.fills_int_mul F.slot_int_rmul repeat_tuple F.slot_int_index.lookup
        (call_meets F.slot_int_rmul (typeIs_int s k t) F.entry_int_rmul (F.args_int_rmul_2 _ _) (int_rmul_tuple k t l #[] n dd sl)
          ⟨ho, rfl, ⟨_, ho, rfl⟩, call_meets F.slot_tuple_mul ⟨_, ho, rfl⟩ F.entry_tuple_mul (F.args_tuple_mul_2 _ _) (RR.tuple_mul0 l n dd sl k t c0) ⟨ho, ?_⟩⟩)
      exact ⟨.ref l, H, I, rfl, q l H (fun _ _ h => h) (by rw [RR.flat_nil]; exact hT)⟩
    · have hle : its.length = xs.length := r.length.symm
      have hn : its ≠ [] := fun e => hne (by
        rw [e] at hle
        exact List.eq_nil_of_length_eq_zero hle.symm)
      have hi : its.toArray.isEmpty = false := by
        cases its with
        | nil => exact absurd rfl hn
        | cons a b => rfl
      have c1 : (its.toArray.isEmpty || k == 1) = false := by
        rw [hi, Bool.false_or]
        exact beq_eq_false_iff_ne.mpr (by omega)
      have c2 : (decide (k ≤ 0) || its.toArray.isEmpty) = true := by
        rw [decide_eq_true (by omega)]
        rfl
      refine wpAny_binaryOp_repeat_ref (T := "tuple") (U := "int") (by decide) ⟨_, ho, rfl⟩ (fun s' => typeIs_int s' k t) noFill_tuple_mul F.fills_int_mul F.slot_int_rmul repeat_tuple F.slot_int_index.lookup
        (call_meets F.slot_int_rmul (typeIs_int s k t) F.entry_int_rmul (F.args_int_rmul_2 _ _) (int_rmul_tuple k t l its.toArray n dd sl)
          ⟨ho, rfl, ⟨_, ho, rfl⟩, call_meets F.slot_tuple_mul ⟨_, ho, rfl⟩ F.entry_tuple_mul (F.args_tuple_mul_2 _ _) (tuple_mulN l its.toArray n dd sl k t c0 c1 c2) ⟨ho, ?_⟩⟩)
      have hf : H s.heap.objs.size = none := I.hok.fresh (Nat.le_refl _)
      refine ⟨.ref s.heap.objs.size, _, I.laid (t' := s.toks) (o := .tup []) (fun b ob q => Heap.get?_push_of_some _ q) (Nat.le_refl _) ?_, rfl, q _ _ (fun b o e => by rw [upd_ne (ne_of_none e hf)]; exact e) (SqT.of ?_)⟩
      · exact ⟨Nat.zero_le _, [], .nil, IsTup.new _ _⟩
      · rw [upd_same, e0]
        rfl
end RN6
/-! ### list.count of a flat thing -/
namespace CF6
open PySem PySem.Spec PyProof.Rows L2
theorem cnt_eqU {x : V} : ∀ {xs : List V} {us : List Value}, Vals xs us → xs.all flatV = true → us.countP (eqU x) = xs.countP fun y => eqV y x
  | _, _, .nil, _ => rfl
  | y :: xs, u :: us, .cons r t, f => by
    rw [List.all_cons, Bool.and_eq_true] at f
    rw [List.countP_cons, List.countP_cons, eqU_of r f.1, cnt_eqU t f.2]
def rCntF (K : PySem.W.Frag) : V → List V → Hp → VK → Prop := fun x xs H Q => ∃ (p : Addr) (ys : List V) (z : V), x = .ref p ∧ xs = [z] ∧ SqL K H p ys ∧ flatV z = true ∧ ys.all flatV = true ∧ Q (.int (ys.countP fun y => eqV y z : Nat)) H
theorem mt_countF {X : Cx} : MtR X "list.count" (rCntF X.K) := by
  intro pins s σ H x xs v us Q I rx rxs h
  obtain ⟨p, ys, z, rfl, rfl, hs, fz, fy, q⟩ := h
  cases rx
  obtain ⟨u, rfl, ru⟩ := rxs.one
  obtain ⟨its, rv, ⟨⟨cls, dd, data, sl⟩, n, ho, hc, hdn, hd⟩, hlen⟩ := I.list hs
  simp only at hc hd
  subst hc hd
  refine call_meets PySem.F.slot_list_count ⟨_, ho, rfl⟩ PySem.F.entry_list_count (PySem.F.args_list_count_2 _ _)
    (SeqAt.list_countAt p its.toArray n dd sl u (eqU z)) ⟨ho, fun y hy => mem_eqAt ru fz rv fy y (by simpa using hy), .int (ys.countP fun y => eqV y z : Nat), H, I.tok _, ⟨s.toks, ?_⟩, q⟩
  rw [← cnt_eqU rv fy, List.toList_toArray]
end CF6

/-! ### an own exception without fields: raised, asked -/
namespace EXN
open PySem PySem.Spec PyProof.Rows L2
section
variable {X : Cx} {pins : List (Addr × Obj)} {σ : L2.St}
theorem mk_endN {H1 : Hp} {hp hp2 h2 : Heap} {g1 g2 : Array GenState} {d1 d2 : Drawn} {t1 t2 : Nat} {os1 os2 : OsState} {a C : Addr} (I1 : Inv X pins σ H1 ⟨hp, g1, d1, t1, os1⟩)
    (ha : hp.objs.size ≤ a) (k : ∀ b o, hp.get? b = some o → hp2.get? b = some o) (un : Un (frs X.stack) [] (upd H1 a (exo a C none)) (upd H1 a (exo a C none)) hp2 h2) (hok : HOk X.prog X.w (upd H1 a (exo a C none)) h2) (ho : os2 = os1) (hb : AllBare g2) :
    ∃ (t0 : Addr) (G : Heap), Inv X pins σ H1 ⟨G, g2, d2, t2, os2⟩ ∧ (∀ b o, G.get? b = some o → h2.get? b = some o) ∧ G.get? a = none ∧
      h2.get? a = some ({ cls := .ref C, dict := none, data := .fields #[.ref t0, .none, .none, .none, .bool false, .none] } : Obj) ∧ H1 a = none := by
  obtain ⟨t0, hoe⟩ := exo_at hok upd_same
  have hn : H1 a = none := I1.hok.fresh ha
  obtain ⟨G, g1', g2'⟩ := restrict h2 fun b => decide (b ≠ a)
  have gk : ∀ b, b ≠ a → G.get? b = h2.get? b := fun b hb => g1' b (decide_eq_true hb)
  have ge : G.get? a = none := g2' a (by simp)
  have nha : ∀ {b : Addr} {o : Obj}, hp.get? b = some o → b ≠ a := fun {b o} z => Nat.ne_of_lt (Nat.lt_of_lt_of_le (Heap.lt_size z) ha)
  have up : ∀ {b : Addr}, b ≠ a → H1 b = none → upd H1 a (exo a C none) b = none := fun {b} hb n => by rw [upd_ne hb]; exact n
  have U : Un (frs X.stack) [] H1 H1 hp G := {
    keep := fun b o z n hf hx => by
      rw [gk b (nha z)]
      exact un.keep b o (k b o z) (up (nha z) n) hf hx
    slot := fun b o z n hf hx => by
      rw [gk b (nha z)]
      exact un.slot b o (k b o z) (up (nha z) n) hf hx
    free := fun b o z n hx => n
    there := fun b o z hx => by
      rw [gk b (nha z)]
      exact un.there b o (k b o z) hx
    tups := fun b xs z => z
    frzs := fun b o v z => z
    tbls := fun b ps z => ⟨#[], by rw [z]; simp⟩ }
  have hok3 : HOk X.prog X.w H1 G := fun b o z => by
    have hba : b ≠ a := ne_of_none z hn
    have z' : upd H1 a (exo a C none) b = some o := by rw [upd_ne hba]; exact z
    refine (hok b o z').stay (fun c v hc y => ?_) (fun c hc => ?_) (fun c xs hc => ?_)
    · have hca : c ≠ a := by
        rcases hc with hc | hc
        · rw [hc]
          exact hba
        · exact at_ne (upd_same (H := H1) (o := exo a C none)) hc exo_own
      rw [gk c hca]
      exact y
    · have hca : c ≠ a := at_ne (upd_same (H := H1) (o := exo a C none)) hc exo_own
      rw [upd_ne hca] at hc
      exact hc
    · have hca : c ≠ a := at_ne (upd_same (H := H1) (o := exo a C none)) hc exo_tup
      rw [upd_ne hca] at hc
      exact hc
  have J : Inv X pins σ H1 ⟨G, g2, d2, t2, os2⟩ := I1.call' (ch := []) ho U hok3 hb (fun b z => absurd z (by simp))
  refine ⟨t0, G, J, fun b o z => ?_, ge, hoe, hn⟩
  by_cases hba : b = a
  · rw [hba, ge] at z
    cases z
  · exact (gk b hba).symm.trans z
/-- C(), C an exception class whose own __init__ does nothing -/
theorem pmk_oex0 {CX : CXT} {x : Str} {C fI : Addr} {k : Nat} {fd : FuncData} {sp : Sp} {p pos : Pos} (T : OexC X.K C) (iC : PySem.W.findIn X.K (.ref C) "__init__" = some (some (.ref fI))) (tI : PySem.W.typeIn X.K (.ref fI) = some (.type "function"))
    (F1 : FnOk X.prog X.w X.K X.mg X.base CX k fI fd ["self"] sp) (hsp : ∀ (a : Addr) (H : Hp) (Q : VK) (E : XK), Q .non H → sp [.ref a] H Q E) (hr : Room (k + 1) X.A) (hb : Binds X.K fd ["self"] []) (hx : Passes CX X (fun _ _ _ => False)) (hg : Gl X x) (hm : X.mg x = some (.ref C))
    (hdb : (x == ("__debug__" : Str)) = false := by decide) :
    PMk X (.Call (.Name x p) [] [] pos) (fun _ H Q => Q (.ref C) none H) := by
  intro pins s σ H Q I h
  obtain ⟨nm, q, N, bs, bm, sn, sub, ab, col, dd, k0, k1, k2, k3, k5, hC, hbm⟩ := T.cls
  refine wpAny_Call_Name_kw (ld_glob I hg hm ?_ hdb)
  refine PySem.W.callWith_K0 I.kIn T.kC ?_
  show wpAny _ _ (call (.ref C) []) _ _ _
  obtain ⟨hp, g, dr, tk, os⟩ := s
  have hsz : hp.objs.size ≤ hp.objs.size + 1 := Nat.le_succ _
  have kk : ∀ b o, hp.get? b = some o → ((hp.push (PySem.W.kdv_tup [])).push (PySem.HandSPX.excO C hp.objs.size)).get? b = some o := fun b o e => Heap.get?_push_of_some _ (Heap.get?_push_of_some _ e)
  have hget : ((hp.push (PySem.W.kdv_tup [])).push (PySem.HandSPX.excO C hp.objs.size)).get? (hp.objs.size + 1) = some (PySem.HandSPX.excO C hp.objs.size) := by heap_get
  have I2 : Inv X pins σ (upd H (hp.objs.size + 1) (exo (hp.objs.size + 1) C none)) ⟨(hp.push (PySem.W.kdv_tup [])).push (PySem.HandSPX.excO C hp.objs.size), g, dr, tk, os⟩ :=
    I.laid (t' := tk) (a := hp.objs.size + 1) (o := exo (hp.objs.size + 1) C none) (h' := (hp.push (PySem.W.kdv_tup [])).push (PySem.HandSPX.excO C hp.objs.size)) kk hsz (exo_ok hget)
  have r2 : Vals [V.ref (hp.objs.size + 1)] [Value.ref (hp.objs.size + 1)] := .cons rfl .nil
  refine wpAny_call (PySem.HandSPX.call_own F.excBase_ValueError (fun Y => PySem.HandSPX.refsVE_contains Y bm hbm) (I.kIn _ _ hC) (PySem.W.looks_findIn I.kIn iC) (fun self => PySem.W.bind_fn I.kIn self tI) (Nat.zero_le _)
    (codeAny_mono (F1.run _ X.stack _ _ ⟨[Value.ref (hp.objs.size + 1)], []⟩ [Value.ref (hp.objs.size + 1)] _ (fun v H3 => v = .non ∧ H3 = upd H (hp.objs.size + 1) (exo (hp.objs.size + 1) C none)) (fun _ _ _ => False) (hr.make C [] []) (I2.env0.make C [] []) (hb _ [Value.ref (hp.objs.size + 1)] I2.kIn rfl) r2 (hsp _ _ _ _ ⟨rfl, rfl⟩)) fun r s' hq' => ?_))
  cases r with
  | error er => exact hx pins σ _ _ er s' I2 hq'
  | ok fl =>
    cases fl with
    | ret u =>
      obtain ⟨v, H2, os2, bare2, un2, hok2, rv, ev, eH⟩ := hq'
      subst ev
      subst eH
      obtain ⟨h2, g2, d2, t2, os'⟩ := s'
      refine ⟨rv, ?_⟩
      obtain ⟨t0, G, J, kG, ge, hoe, na⟩ := mk_endN (d2 := d2) (t2 := t2) I hsz kk un2 hok2 os2 bare2
      exact ⟨_, _, _, ⟨G, g2, d2, t2, os'⟩, _, .ref C, none, rfl, J, kG, ge, hoe, ⟨rfl, rfl⟩, rfl, rfl, na, rfl, bare2, raises_own T.exC T.tyC, h⟩
    | next => exact False.elim hq'
    | brk => exact False.elim hq'
    | cont => exact False.elim hq'
/-- the same, its context known to be None -/
theorem pmk_oex0N {CX : CXT} {x : Str} {C fI : Addr} {k : Nat} {fd : FuncData} {sp : Sp} {p pos : Pos} (T : OexC X.K C) (iC : PySem.W.findIn X.K (.ref C) "__init__" = some (some (.ref fI))) (tI : PySem.W.typeIn X.K (.ref fI) = some (.type "function"))
    (F1 : FnOk X.prog X.w X.K X.mg X.base CX k fI fd ["self"] sp) (hsp : ∀ (a : Addr) (H : Hp) (Q : VK) (E : XK), Q .non H → sp [.ref a] H Q E) (hr : Room (k + 1) X.A) (hb : Binds X.K fd ["self"] []) (hx : Passes CX X (fun _ _ _ => False)) (hg : Gl X x) (hm : X.mg x = some (.ref C))
    (hdb : (x == ("__debug__" : Str)) = false := by decide) :
    L2N.PMk X (.Call (.Name x p) [] [] pos) (fun _ H Q => Q (.ref C) none H) := by
  intro pins s σ H Q I h
  obtain ⟨nm, q, N, bs, bm, sn, sub, ab, col, dd, k0, k1, k2, k3, k5, hC, hbm⟩ := T.cls
  refine wpAny_Call_Name_kw (ld_glob I hg hm ?_ hdb)
  refine PySem.W.callWith_K0 I.kIn T.kC ?_
  show wpAny _ _ (call (.ref C) []) _ _ _
  obtain ⟨hp, g, dr, tk, os⟩ := s
  have hsz : hp.objs.size ≤ hp.objs.size + 1 := Nat.le_succ _
  have kk : ∀ b o, hp.get? b = some o → ((hp.push (PySem.W.kdv_tup [])).push (PySem.HandSPX.excO C hp.objs.size)).get? b = some o := fun b o e => Heap.get?_push_of_some _ (Heap.get?_push_of_some _ e)
  have hget : ((hp.push (PySem.W.kdv_tup [])).push (PySem.HandSPX.excO C hp.objs.size)).get? (hp.objs.size + 1) = some (PySem.HandSPX.excO C hp.objs.size) := by heap_get
  have I2 : Inv X pins σ (upd H (hp.objs.size + 1) (exo (hp.objs.size + 1) C none)) ⟨(hp.push (PySem.W.kdv_tup [])).push (PySem.HandSPX.excO C hp.objs.size), g, dr, tk, os⟩ :=
    I.laid (t' := tk) (a := hp.objs.size + 1) (o := exo (hp.objs.size + 1) C none) (h' := (hp.push (PySem.W.kdv_tup [])).push (PySem.HandSPX.excO C hp.objs.size)) kk hsz (exo_ok hget)
  have r2 : Vals [V.ref (hp.objs.size + 1)] [Value.ref (hp.objs.size + 1)] := .cons rfl .nil
  refine wpAny_call (PySem.HandSPX.call_own F.excBase_ValueError (fun Y => PySem.HandSPX.refsVE_contains Y bm hbm) (I.kIn _ _ hC) (PySem.W.looks_findIn I.kIn iC) (fun self => PySem.W.bind_fn I.kIn self tI) (Nat.zero_le _)
    (codeAny_mono (F1.run _ X.stack _ _ ⟨[Value.ref (hp.objs.size + 1)], []⟩ [Value.ref (hp.objs.size + 1)] _ (fun v H3 => v = .non ∧ H3 = upd H (hp.objs.size + 1) (exo (hp.objs.size + 1) C none)) (fun _ _ _ => False) (hr.make C [] []) (I2.env0.make C [] []) (hb _ [Value.ref (hp.objs.size + 1)] I2.kIn rfl) r2 (hsp _ _ _ _ ⟨rfl, rfl⟩)) fun r s' hq' => ?_))
  cases r with
  | error er => exact hx pins σ _ _ er s' I2 hq'
  | ok fl =>
    cases fl with
    | ret u =>
      obtain ⟨v, H2, os2, bare2, un2, hok2, rv, ev, eH⟩ := hq'
      subst ev
      subst eH
      obtain ⟨h2, g2, d2, t2, os'⟩ := s'
      refine ⟨rv, ?_⟩
      obtain ⟨t0, G, J, kG, ge, hoe, na⟩ := mk_endN (d2 := d2) (t2 := t2) I hsz kk un2 hok2 os2 bare2
      exact ⟨_, _, _, ⟨G, g2, d2, t2, os'⟩, _, .ref C, none, rfl, J, kG, ge, hoe, ⟨rfl, rfl, fun vs e => by cases e; rfl⟩, rfl, rfl, na, rfl, bare2, raises_own T.exC T.tyC, h⟩
    | next => exact False.elim hq'
    | brk => exact False.elim hq'
    | cont => exact False.elim hq'
/-- isinstance(e, c), e the caught exception without fields: of one of several classes -/
def rIsN (K : PySem.W.Frag) (cls : Value) (d : Option Addr) (a : Addr) : List V → Hp → VK → Prop := fun xs H Q => ∃ (D : Addr) (c : V) (cv : Value) (b : Bool), xs = [.ref a, c] ∧ cls = .ref D ∧ d = none ∧ ExcC K D ∧ ClsV c cv ∧ PySem.W.kitOne K (.ref D) cv = some b ∧ Q (.bl b) H
theorem call_isN {X : Cx} {a : Addr} {oe : Obj} {cls : Value} {d : Option Addr} {pn : List (Addr × Obj)} (hz : Zc cls d oe) (hf : ∃ vs, oe.data = .fields vs) : CallR (X.suite a ((a, oe) :: pn)) (.builtin "isinstance") (rIsN X.K cls d a) := by
  intro pins s σ H xs us Q I r h
  obtain ⟨D, c, cv, b, rfl, ec, ed, C, hcv, e, q⟩ := h
  subst ec
  subst ed
  exact call_isE (a := a) C hz hf pins s σ H _ us Q I r ⟨c, cv, b, rfl, fun u r => hcv.eq r, e, q⟩
/-- a method where the frame is named (within a try or its suite) -/
theorem pe_bmK {X : Cx} {K : PySem.W.Frag} {T : String} {name : Str} {id : String} {r : V → List V → Hp → VK → Prop} {o e : Expr} {es : List Expr} {to : TE} {t : TA} {apos cpos : Pos} (h : X.K = K) (pa : PlainAttrs T) (slot : Slot T name id) (hty : typeOf (.builtin id) = pure (.type "method_descriptor")) (hm : MtR X id r) (ho : PE X o to) (ha : PA X (e :: es) t)
    (hbase : attributeBase o name X.env (eval o X.env) = eval o X.env := by rfl)
    (hfew : ((backTo cpos (starEach (e :: es) X.env)).all (fun x => !x.1) && (backToKw cpos (keywordEach [] X.env)).all (fun x => x.1.isSome)
      && decide ((e :: es).length + ([] : List Keyword).length + (if ([] : List Keyword).isEmpty then 0 else 1) < 30)) = true := by rfl)
    (hline : (apos.endLine == cpos.line) = true := by rfl) (hs : starEach (e :: es) X.env = (false, eval e X.env) :: starEach es X.env := by rfl) (hplain : (backTo cpos (starEach es X.env)).any (·.1) = false := by rfl) :
    PE X (.Call (.Attribute o name apos) (e :: es) [] cpos) (tBM K T r to t) := h ▸ pe_bm pa slot hty hm ho ha hbase hfew hline hs hplain
def rJoin (K : PySem.W.Frag) : V → List V → Hp → VK → Prop := fun x xs H Q => ∃ a p, ∃ ys : List Str, x = .str a ∧ xs = [.ref p] ∧ (SqL K H p (ys.map V.str) ∨ SqT K H p (ys.map V.str)) ∧ (ys.map (·.length)).sum + ys.length * a.length ≤ 16777216 ∧ Q (.str (Txt.join a ys)) H
theorem mt_joinK {X : Cx} {K : PySem.W.Frag} (h : X.K = K) : MtR X "str.join" (rJoin K) := h ▸ mt_join
end
end EXN
/-! ### what a def promises, taken together -/
namespace FN11
open PySem PySem.Spec PyProof.Rows L2
section
variable {P : Program} {w : World} {K : PySem.W.Frag} {mg : Str → Option Value} {base : Heap} {k : Nat} {f : Addr} {fd : FuncData} {ps : List Str} {sp sp' : Sp}
/-- what raises nothing may be called where something is let out -/
theorem lift {CX : CXT} (F : FnOk P w K mg base CX0 k f fd ps sp) : FnOk P w K mg base CX k f fd ps sp :=
  ⟨F.len, fun A outer s H args us vs Q E hr e0 hb r h => codeAny_mono (F.run A outer s H args us vs Q E hr e0 hb r h) fun r s' hq => by
    cases r with
    | error e => exact (show False from hq).elim
    | ok fl =>
      cases fl with
      | ret u => exact hq
      | next => exact False.elim hq
      | brk => exact False.elim hq
      | cont => exact False.elim hq⟩
/-- either -/
theorem or {CX : CXT} (F : FnOk P w K mg base CX k f fd ps sp) (G : FnOk P w K mg base CX k f fd ps sp') : FnOk P w K mg base CX k f fd ps (fun vs H Q E => sp vs H Q E ∨ sp' vs H Q E) :=
  ⟨fun vs H Q E h => h.elim (F.len vs H Q E) (G.len vs H Q E), fun A outer s H args us vs Q E hr e0 hb r h => h.elim (F.run A outer s H args us vs Q E hr e0 hb r) (G.run A outer s H args us vs Q E hr e0 hb r)⟩
end
end FN11
/-! ### [.. for .. in range(..)] where an exception is handled -/
namespace HL11
open PySem PySem.Spec PyProof.Rows L2
open L2H (HotC PIH)
/-- the block's context with the handled exception's object in it -/
abbrev withP (Y : Cx) (p : Addr × Obj) : Cx := { Y with pn := [p] }
theorem toP {Y : Cx} {p : Addr × Obj} {σ : L2.St} {H : Hp} {s : Shared} (hY : Y.pn = []) (I : Inv Y [p] σ H s) : Inv (withP Y p) [] σ H s :=
  have o := I.ok
  ⟨⟨o.mod, o.kind, o.glob, o.blt, o.above, o.inj, o.has, o.cab, o.hd, o.frames, o.stk, o.exf, o.bs, o.bsz, o.noex, o.exfs, o.funs, o.frf⟩, I.os, I.bare, I.base, I.loc, I.cell, I.free, I.freeC,
    fun x hx => I.pin x (by rw [hY]; simpa using hx), I.hok, I.len⟩
theorem ofP {Y : Cx} {p : Addr × Obj} {σ : L2.St} {H : Hp} {s : Shared} (hY : Y.pn = []) (I : Inv (withP Y p) [] σ H s) : Inv Y [p] σ H s :=
  have o := I.ok
  ⟨⟨o.mod, o.kind, o.glob, o.blt, o.above, o.inj, o.has, o.cab, o.hd, o.frames, o.stk, o.exf, o.bs, o.bsz, o.noex, o.exfs, o.funs, o.frf⟩, I.os, I.bare, I.base, I.loc, I.cell, I.free, I.freeC,
    fun x hx => I.pin x (by rw [hY] at hx; simpa using hx), I.hok, I.len⟩
section
variable {X : Cx}
theorem lc_hot {pins : List (Addr × Obj)} {s : Shared} {σ : L2.St} {H : Hp} {Q : VK} {elt tg iter : Expr} {ifs : List Expr} {scope : Scope} {own : List (Str × Nat)} {pos pos' : Pos} {wi : TI} {g : TG} {tt : TT} {te : TE}
    (hot : HotC X) (hN : X.N.Nodup) (I : Inv X pins σ H s) (hi : PIH X tg iter wi) (ok : BlkOk X.N X.env.scope scope own)
    (hg : ∀ s H C cl fp, PG (X.blk s H scope (compEnvC scope cl C X.env) fp) tg g) (ht : ∀ s H C cl fp, PTs (X.blk s H scope (compEnvC scope cl C X.env) fp) ifs tt)
    (he : ∀ s H C cl fp, PE (X.blk s H scope (compEnvC scope cl C X.env) fp) elt te) (hs : ∀ x, foldedSetIterable iter X.env x = pure x)
    (want : tLc wi g tt te (own.map (·.2)) σ H Q) :
    wpAny (model X.prog X.w) X.A (comprehension (.ListComp elt [⟨tg, iter, ifs, 0⟩] scope pos) scope X.env pos' (newList []) false (eval iter X.env) none) (EP X pins σ Q) X.xe s := by
  obtain ⟨p, hp1, hpm⟩ := hot
  have caught : ∀ y ∈ scope.names, y.2 = .free → ∃ c, X.env.cells.lookup y.1 = some c := fun y hy e => (ok.free y hy e).elim (fun k => I.ok.has _ (.inl k)) fun k => I.ok.has _ (.inr k)
  refine wpAny_comprehension_free (use := none) rfl hs (closure_ok caught) ok.kind (fun y hy e => (ok.uniq y hy).trans (by rw [e])) (thn (hi.run pins s σ H _ I want) fun _ _ hx => thn hx fun _ sI got => ?_)
  obtain ⟨it, fp, tn, J, HI, e, JI, T, tn0, fOk, q⟩ := got
  subst e
  refine wpAny_newObj_type (newEnv_comp ?_) (Nat.zero_le _)
  obtain ⟨D, eD⟩ : ∃ D, D = sI.heap.objs.size := ⟨_, rfl⟩
  rw [← eD]
  have nD : HI D = none := JI.hok.fresh (Nat.le_of_eq eD.symm)
  obtain ⟨W, ⟨m0, w0⟩, turn⟩ := q D nD
  obtain ⟨sL, esL⟩ : ∃ sL : Shared, sL = { sI with heap := sI.heap.push { cls := .type "list", data := .seq ([] : List Value).toArray } } := ⟨_, rfl⟩
  have hL : sL.heap = sI.heap.push { cls := .type "list", data := .seq ([] : List Value).toArray } := by rw [esL]
  have grow : ∀ b o, sI.heap.get? b = some o → sL.heap.get? b = some o := fun b o e => by rw [hL]; exact Heap.get?_push_of_some _ e
  have JL : Inv X pins σ (upd HI D (.lst [])) sL := by
    rw [esL]
    refine JI.laid (t' := sI.toks) (o := .lst []) (fun b o e => Heap.get?_push_of_some _ e) (Nat.le_of_eq eD.symm) ?_
    refine ⟨Nat.zero_le _, [], 0, .nil, ?_⟩
    rw [eD]
    exact Heap.get?_push_size _ rfl
  have small : ∀ b ∈ fp, b < sI.heap.objs.size := fun b hb => let ⟨_, e, _⟩ := T.obj _ _ tn0 b hb; Heap.lt_size e
  have fL : ∀ b ∈ fp, FpOk X pins (upd HI D (.lst [])) b ∧ b < sL.heap.objs.size := fun b hb => by
    have lt := small b hb
    have ne : b ≠ D := by rw [eD]; exact Nat.ne_of_lt lt
    exact ⟨⟨(upd_ne ne).trans (fOk b hb).1, (fOk b hb).2⟩, by rw [hL, Heap.size_push]; exact Nat.lt_succ_of_lt lt⟩
  have tnL : tn 0 sL.heap := T.keep _ _ _ tn0 fun b _ o e => grow b o e
  have JB := block_start JL ok hN fL
  have PGb := hg sL (upd HI D (.lst [])) sL.heap.objs.size (cellsFrom (sL.heap.objs.size + 1) scope.names (cloFrom X.env.cells scope.names [])) fp
  have PTb := ht sL (upd HI D (.lst [])) sL.heap.objs.size (cellsFrom (sL.heap.objs.size + 1) scope.names (cloFrom X.env.cells scope.names [])) fp
  have PEb := he sL (upd HI D (.lst [])) sL.heap.objs.size (cellsFrom (sL.heap.objs.size + 1) scope.names (cloFrom X.env.cells scope.names [])) fp
  rw [← esL]
  show codeAny _ _ (.compStart _ 0 (.ref it) (.ref D) (compEnvC scope (cellsFrom (sL.heap.objs.size + 1) scope.names (cloFrom X.env.cells scope.names [])) sL.heap.objs.size X.env)) (compPost (model X.prog X.w) X.A X.xe none (EP X pins σ Q) (.ref D) sL.heap.objs.size) { sL with heap := pushCells (sL.heap.push { cls := .type "dict", data := .dict #[] }) scope.names }
  have nF : ∀ b ∈ fp, (upd HI D (.lst [])) b = none := fun b hb => (fL b hb).1.1
  obtain ⟨ce, ece⟩ : ∃ ce, ce = compEnvC scope (cellsFrom (sL.heap.objs.size + 1) scope.names (cloFrom X.env.cells scope.names [])) sL.heap.objs.size X.env := ⟨_, rfl⟩
  have lce : ce.locals = sL.heap.objs.size := by rw [ece]; rfl
  rw [← ece] at JB PGb PTb PEb ⊢
  obtain ⟨HL, eHL⟩ : ∃ HL, HL = upd HI D (.lst []) := ⟨_, rfl⟩
  rw [← eHL] at JL JB PGb PTb PEb w0 nF fL
  obtain ⟨sB, esB⟩ : ∃ sB : Shared, sB = { sL with heap := pushCells (sL.heap.push { cls := .type "dict", data := .dict #[] }) scope.names } := ⟨_, rfl⟩
  rw [← esB] at JB ⊢
  have tnB : tn 0 sB.heap := T.keep _ _ _ tnL fun b _ o e => by rw [esB]; exact pushCells_keeps _ _ _ _ (Heap.get?_push_of_some _ e)
  -- the handled exception's object stands through the block
  obtain ⟨pg1, pg2, pg3, pg4, pg5⟩ := JL.pin p (List.mem_append_left _ hpm)
  have pFp : p.1 ∉ fp := fun hb => (fL p.1 hb).1.2.2.2.2.2 p (List.mem_append_left _ hpm) rfl
  have pinned : ∀ {σ' : L2.St} {H' : Hp} {s' : Shared}, Inv (X.blk sL HL scope ce fp) [] σ' H' s' → Inv (X.blk sL HL scope ce fp) [p] σ' H' s' := fun {σ' H' s'} K => by
    refine K.pins_of fun x hx => ?_
    have ex : x = p := by simpa using hx
    rw [ex]
    have nfr : p.1 ∉ frs X.stack := fun z => by
      rcases List.mem_cons.mp (JL.stkSub _ z) with z | z
      · exact pg3 z
      · exact pg4 z
    refine ⟨K.base.keep p.1 p.2 pg1 pg2 nfr pFp, K.base.free p.1 p.2 pg1 pg2 pFp, fun z => ?_, nfr, pg5⟩
    have z' : p.1 = ce.locals := z
    rw [lce] at z'
    exact absurd (Heap.lt_size pg1) (by rw [z']; exact Nat.lt_irrefl _)
  have hotB : HotC (withP (X.blk sL HL scope ce fp) p) := ⟨p, hp1, List.mem_singleton.mpr rfl⟩
  have fpB : ∀ {σ' : L2.St} {H' : Hp} {s' : Shared}, Inv (X.blk sL HL scope ce fp) [p] σ' H' s' → (∀ b ∈ fp, H' b = none) → ∀ b ∈ fp, FpOk (withP (X.blk sL HL scope ce fp) p) [] H' b := fun {σ' H' s'} K hn b hb =>
    ⟨hn b hb, (K.ok.exf b hb).1, K.ok.exfs b hb, .inl hb, fun x c e => (K.ok.exf b hb).2 x c e, fun x hx z => by
      have ex : x = p := by simpa using hx
      rw [ex] at z
      exact pFp (z ▸ hb)⟩
  refine codeAny_compStart_list ?_ (T.self X.A 0 _ _ _ tnB ?_)
  all_goals
    refine compLoop_any (fun n s' => ∃ i H', Inv (X.blk sL HL scope ce fp) [] (wipe σ (own.map (·.2))) H' s' ∧ tn i s'.heap ∧ (∀ b ∈ fp, H' b = none) ∧ W i n H') ?_ m0 ⟨0, HL, JB, tnB, nF, w0⟩
    rintro n s5 ⟨i, H5, K5, tn5, n5, w5⟩
    have P5 := pinned K5
    rcases turn i n H5 w5 with ⟨stop, fin⟩ | ⟨go, Nx, hNx, step⟩
    · refine thnF (T.done (withP (X.blk sL HL scope ce fp) p) rfl rfl rfl hotB i [] s5 _ H5 (fun _ _ => False) (toP rfl P5) (fpB P5 n5) tn5 stop) fun r s6 ⟨er, K6⟩ => ?_
      subst er
      have J6 : Inv X pins σ H5 s6 := JL.call' (ch := fp) K6.os K6.base K6.hok K6.bare fun b hb => let f := (fL b hb).1.2; ⟨f.2.2.1, f.1, f.2.2.2.1, f.2.2.2.2⟩
      have free6 : H5 sL.heap.objs.size = none := by
        have z := K6.free
        rw [show (withP (X.blk sL HL scope ce fp) p).env.locals = ce.locals from rfl, lce] at z
        exact z
      obtain ⟨m, ns6, _⟩ := K6.loc
      rw [show (withP (X.blk sL HL scope ce fp) p).env.locals = ce.locals from rfl, lce] at ns6
      obtain ⟨g0, g1, g2, g3, g4, g5⟩ := JL.fpOk (Nat.le_refl _) free6
      exact ⟨m, ns6, fun h'' sb => ⟨.ref D, H5, J6.turned (t' := s6.toks) (fun b o hb e => (sb.2 b hb).trans e) g0 g1 g3 g4 g5, rfl, fin⟩⟩
    · refine thnF (T.item (withP (X.blk sL HL scope ce fp) p) rfl rfl rfl hotB i [] s5 _ H5 (fun _ _ => False) (toP rfl P5) (fpB P5 n5) tn5 go) fun r s6 ⟨u, er, h6⟩ => ?_
      subst er
      refine thnF h6 fun _ s7 ⟨x, H7, K7, rx, y7, tn7, n7⟩ => ?_
      have P7 := ofP (Y := X.blk sL HL scope ce fp) rfl K7
      have Q7 : Inv (X.blk sL HL scope ce fp) ([p] ++ pinsAt fp s7.heap) _ H7 s7 := P7.pinned (fun b hb => by
        obtain ⟨a1, a2, a3, a4, a5, a6⟩ := fpB P7 n7 b hb
        exact ⟨a1, a2, a3, a4, a5, fun x hx => a6 x (by simpa using hx)⟩) (T.obj _ _ tn7)
      refine thnF (PGb.run _ s7 _ H7 x u _ Q7 rx (step x H7 y7)) fun _ s8 ⟨σ8, H8, K8, w8, q8⟩ => ?_
      refine thnF (PTb.run _ s8 σ8 H8 _ K8 q8) fun b s9 ⟨H9, K9, q9⟩ => ?_
      have last : ∀ {s' : Shared} {H' : Hp}, Inv (X.blk sL HL scope ce fp) ([p] ++ pinsAt fp s7.heap) σ8 H' s' → Nx H' → ∃ m, m < n ∧ ∃ i H', Inv (X.blk sL HL scope ce fp) [] (wipe σ (own.map (·.2))) H' s' ∧ tn i s'.heap ∧ (∀ b ∈ fp, H' b = none) ∧ W i m H' := fun {s' H'} K nx => by
        obtain ⟨m', lt, w'⟩ := hNx H' nx
        have held : ∀ b ∈ fp, ∀ o, s7.heap.get? b = some o → s'.heap.get? b = some o ∧ H' b = none := fun b hb o e =>
          let z := K.pin (b, o) (List.mem_append_right _ (List.mem_append_right _ (mem_pinsAt hb e)))
          ⟨z.1, z.2.1⟩
        have K' : Inv (X.blk sL HL scope ce fp) [] σ8 H' s' := (K.unpinned (pins := [p]) (pl := pinsAt fp s7.heap)).pins_of fun _ hx => absurd hx (by simp)
        refine ⟨m', lt, i + 1, H', K'.weak (by rw [← w8, wipe_length]) (fun j v e => (wipe_some (by rw [w8]; exact e)).1), T.keep _ _ _ tn7 fun b hb o e => (held b hb o e).1, fun b hb => ?_, w'⟩
        obtain ⟨o, e, _⟩ := T.obj _ _ tn7 b hb
        exact (held b hb o e).2
      cases b with
      | false => exact last K9 q9
      | true => exact thnF (PEb.run _ s9 σ8 H9 _ K9 q9) fun z s10 ⟨yv, H10, K10, r10, acc, eD10, z10, nx⟩ => app_ok (X := X.blk sL HL scope ce fp) K10 eD10 z10 r10 fun s11 K11 => last K11 nx
theorem hotS {Y : Cx} {a : Addr} {oe : Obj} {cls : Value} {d : Option Addr} {pn : List (Addr × Obj)} (hz : L2N.Zn cls d oe) (hf : ∃ vs, oe.data = .fields vs) : HotC (Y.suite a ((a, oe) :: pn)) :=
  let ⟨vs, hv⟩ := hf
  ⟨(a, oe), ⟨rfl, vs, hv, hz.2.2 vs hv⟩, List.mem_cons_self⟩
theorem pe_lcH {elt tg iter : Expr} {ifs : List Expr} {scope : Scope} {own : List (Str × Nat)} {pos : Pos} {wi : TI} {g : TG} {tt : TT} {te : TE} (hot : HotC X) (hN : X.N.Nodup) (hi : PIH X tg iter wi) (ok : BlkOk X.N X.env.scope scope own)
    (hg : ∀ (s : Shared) (H : Hp) (C : Addr) (cl : List (Str × Addr)) (fp : List Addr), PG (X.blk s H scope (compEnvC scope cl C X.env) fp) tg g) (ht : ∀ (s : Shared) (H : Hp) (C : Addr) (cl : List (Str × Addr)) (fp : List Addr), PTs (X.blk s H scope (compEnvC scope cl C X.env) fp) ifs tt)
    (he : ∀ (s : Shared) (H : Hp) (C : Addr) (cl : List (Str × Addr)) (fp : List Addr), PE (X.blk s H scope (compEnvC scope cl C X.env) fp) elt te) (hs : ∀ x, foldedSetIterable iter X.env x = pure x := by intro _; rfl) :
    PE X (.ListComp elt [⟨tg, iter, ifs, 0⟩] scope pos) (tLc wi g tt te (own.map (·.2))) := by
  refine ⟨fun pins s σ H Q I h => ?_⟩
  rw [eval_ListComp]
  exact lc_hot hot hN I hi ok hg ht he hs h
end
end HL11
/-! ### a def that may raise, its exceptions' context None -/
namespace HL11
open PySem PySem.Spec PyProof.Rows L2
theorem takes0N {X : Cx} : L2N.Takes X (fun _ _ _ _ => False) := fun _ _ x => by
  obtain ⟨_, _, _, _, _, _, _, _, _, _, _, _, _, _, _, _, z⟩ := x
  exact z.elim
theorem okN {P : Program} {w : World} {K : PySem.W.Frag} {mg : Str → Option Value} {base : Heap} {x qual : Str} {st : Stmt} {f : Addr} {fd : FuncData} {N ps : List Str} {k : Nat} {sp : Sp} (F : Fun K x qual st f fd) (S : FnScope N ps (defScope st)) (many : ∀ vs H Q E, sp vs H Q E → vs.length = ps.length)
    (body : ∀ (cdv : Value) (A : Around) (outer : List Env) (s : Shared) (H : Hp) (vs : List V) (Q : VK) (E : XK), Room k (A.deeper (envOfC qual (defScope st) s.heap.objs.size f cdv)) → sp vs H Q E →
      ∃ t, PSs (cxOf (L2N.CX P w) P w K mg base N qual (defScope st) f cdv A outer s H E) (defBody st) t ∧ t { nx := fun _ H' => Q .non H', rt := Q } (L2.start N vs) H) : FnOk P w K mg base (L2N.CX P w) (k + 1) f fd ps sp := by
  obtain ⟨oc, od, kV, doc, pm, an, cdv, ct, osl, rfl, look, code⟩ := F.ex
  exact fn_of look code S many fun A outer s H vs Q E hr want => body cdv A outer s H vs Q E hr want
end HL11

/-! ### a call of an expression that gives one of several defs -/
namespace CE12
open PySem PySem.Spec PyProof.Rows L2
structure HeldX (P : Program) (w : World) (K : PySem.W.Frag) (mg : Str → Option Value) (base : Heap) (CX : CXT) (k : Nat) (f : Addr) (sp : Sp) : Prop where
  ex : ∃ (fd : FuncData) (ps : List Str), FnOk P w K mg base CX k f fd ps sp ∧ PySem.W.keepIn K (.ref f) = true ∧ Binds K fd ps []
def tCallE (S : Addr → Sp → Prop) (E : L2.St → XK) (tf : TE) (t : TA) : TE := fun σ H Q => tf σ H fun x H1 => ∃ f sp, x = .ref f ∧ S f sp ∧ t σ H1 fun vs H2 => sp vs H2 Q (E σ)
section
variable {X : Cx} {CX : CXT} {k : Nat} {E : L2.St → XK} {pos : Pos} {g e : Expr} {es : List Expr} {tf : TE} {t : TA}
theorem pe_callE {S : Addr → Sp → Prop} (A : ∀ f sp, S f sp → HeldX X.prog X.w X.K X.mg X.base CX k f sp) (hr : Room k X.A) (hx : ∀ σ, PassesAt CX X σ (E σ)) (hf : PE X g tf) (ha : PA X (e :: es) t)
    (ht : eval (.Call g (e :: es) [] pos) X.env = (do callWith pos (← eval g X.env) [] (backTo pos (starEach (e :: es) X.env)) (backToKw pos (keywordEach [] X.env))) := by rfl)
    (he : starEach (e :: es) X.env = (false, eval e X.env) :: starEach es X.env := by rfl) (hpl : (backTo pos (starEach es X.env)).any (·.1) = false := by rfl) :
    PE X (.Call g (e :: es) [] pos) (tCallE S E tf t) := by
  refine ⟨fun pins s σ H Q I h => ?_⟩
  refine Call_ (thn (hf.run pins s σ H _ I h) fun u s1 ⟨x, H1, I1, rx, f, sp, ex, hS, q⟩ => ?_) ht
  subst ex
  obtain rfl : u = Value.ref f := rx
  obtain ⟨fd, ps, F, hk, hb⟩ := (A f sp hS).ex
  refine PySem.W.callWith_K (h₀ := X.base) I1.ok.mod.kin hk (thn (ha.run pos pins s1 σ H1 _ I1 q) fun us s2 ⟨vs, H2, I2, r, q2⟩ => ⟨I2.kIn, ?_⟩) he hpl
  exact run_fnS F hr hb (hx σ) I2 r q2
end
end CE12

/-! ### repr of data: a def that is called where no repr is under way -/
namespace RG7
open PySem PySem.Spec PyProof.Rows L2
/-- a def's promise where no repr is under way -/
structure FnG (P : Program) (w : World) (K : PySem.W.Frag) (mg : Str → Option Value) (base : Heap) (k : Nat) (f : Addr) (fd : FuncData) (ps : List Str) (sp : Sp) : Prop where
  many : ∀ vs H Q E, sp vs H Q E → vs.length = ps.length
  goes : ∀ {A : Around} {outer : List Env} {s : Shared} {H : Hp} {args : Args} {us : List Value} {vs : List V} {Q : VK} {E : XK}, A.guards = some [] → Room k A → Env0 P w K mg base A outer s H → BindsTo s fd args (ps.zip us) → Vals vs us → sp vs H Q E →
    codeAny (model P w) A (.call (.ref f) args) (CR CX0 outer P w H s Q E) s
theorem FnG.of {P : Program} {w : World} {K : PySem.W.Frag} {mg : Str → Option Value} {base : Heap} {k : Nat} {f : Addr} {fd : FuncData} {ps : List Str} {sp : Sp} (F : FnOk P w K mg base CX0 k f fd ps sp) : FnG P w K mg base k f fd ps sp :=
  ⟨F.len, fun _ r e b v h => F.run _ _ _ _ _ _ _ _ _ r e b v h⟩
section
variable {P : Program} {w : World} {K : PySem.W.Frag} {mg : Str → Option Value} {base : Heap}
theorem fnG {x qual : Str} {st : Stmt} {f : Addr} {fd : FuncData} {N ps : List Str} {k : Nat} {sp : Sp} (F : Fun K x qual st f fd) (S : FnScope N ps (defScope st)) (many : ∀ vs H Q E, sp vs H Q E → vs.length = ps.length)
    (body : ∀ (cdv : Value) (A : Around) (outer : List Env) (s : Shared) (H : Hp) (vs : List V) (Q : VK) (E : XK), A.guards = some [] → Room k (A.deeper (envOfC qual (defScope st) s.heap.objs.size f cdv)) → sp vs H Q E →
      ∃ t, PSs (cxOf CX0 P w K mg base N qual (defScope st) f cdv A outer s H E).nox (defBody st) t ∧ t { nx := fun _ H' => Q .non H', rt := Q } (L2.start N vs) H) : FnG P w K mg base (k + 1) f fd ps sp := by
  obtain ⟨oc, od, kV, doc, pm, an, cdv, ct, osl, rfl, look, code⟩ := F.ex
  constructor
  · exact many
  · intro A outer s H args us vs Q E noG room e0 bd rv want
    have inK : K.In s.heap := e0.mod.kin.keeps fun b o e => (e0.bs b o e).1
    have kinds : ∀ y ∈ ps.zip us, (defScope st).names.lookup y.1 = some .local ∨ ((defScope st).names.lookup y.1 = some .cell ∧ ((cellsFrom (s.heap.objs.size + 1) (defScope st).names []).lookup y.1).isSome = true) := by
      rintro ⟨n, v⟩ hy
      cases S.par n (List.of_mem_zip hy).1 with
      | inl l => exact .inl l
      | inr l => exact .inr ⟨l, PySem.W.cellsFrom_some _ _ _ (.inl l)⟩
    apply codeAny_call_function room.depth (inK _ _ look) rfl S.co S.gen rfl (PySem.W.codeRec_of inK code)
    apply bd
    apply wpAny_newFunctionEnv_cells S.kind kinds
    rintro env rfl s1 inside
    refine ⟨(e0.mod.nolimit.keeps fun b o e => (e0.bs b o e).1).keeps inside.toInCall.keep, codeAny_func ?_⟩
    obtain ⟨t, ht, q⟩ := body cdv A outer s H vs Q E noG (room.deeper _) want
    have I := inv_start (CX := CX0) (mg := mg) (base := base) (qual := qual) (f := f) (cd := cdv) (E := E) S room.hd e0 (many _ _ _ _ want) rv inside
    refine wpAny_mono (ht.nox.run [] s1 _ H _ I q) (fun fl s' got => ?_) fun e s' got => got
    cases fl with
    | brk => exact got.elim fun _ z => z.elim fun _ z => z.2.elim
    | cont => exact got.elim fun _ z => z.elim fun _ z => z.2.elim
    | next =>
      obtain ⟨σ', H', J, q'⟩ := got
      exact ⟨V.non, H', J.os, J.bare, J.base, J.hok, rfl, q'⟩
    | ret u =>
      obtain ⟨v, σ', H', J, rel, q'⟩ := got
      exact ⟨v, H', J.os, J.bare, J.base, J.hok, rel, q'⟩
end
/-- the script's heap: only the script is told of, and only if the module has no such object -/
def only1 (a : Addr) (u : HO) : Hp := fun b => if b = a then some u else none
theorem only1_at {a : Addr} {u : HO} : only1 a u a = some u := if_pos rfl
theorem only1_no {a b : Addr} {u : HO} (h : b ≠ a) : only1 a u b = none := if_neg h
theorem only1_of {a b : Addr} {u v : HO} (h : only1 a u b = some v) : b = a ∧ v = u := by
  by_cases e : b = a
  · rw [e, only1_at] at h
    exact ⟨e, (Option.some.inj h).symm⟩
  · rw [only1_no e] at h
    cases h
/-- what a call from the claim's caller must end in -/
abbrev EndT (s₁ : Shared) : Result → Shared → Prop := fun r s' => r = .ok (.ret (.bool true)) ∧ OldK s₁.heap s'.heap ∧ s'.os = s₁.os ∧ AllBare s'.gens
/-- from a heap in which at most the script is told of -/
theorem enter {P : Program} {w : World} {K : PySem.W.Frag} {mg mb : Str → Option Value} {k : Nat} {fa a : Addr} {fd : FuncData} {x : Str} {sp : Sp} {s₁ : Shared} {vs : List Value} {H : Hp}
    (inK : K.In s₁.heap) (gl : s₁.heap.Ns mainGlobals mg) (bt : s₁.heap.Ns builtinsNs mb) (boot : ∀ y : Str, y ≠ "__name__" → mb y = bootBuiltins y) (lim : s₁.heap.NoLimit) (ng : s₁.gens = #[])
    (at_ : s₁.heap.get? a = some { cls := .type "list", data := .seq vs.toArray }) (room : Room k callerA)
    (F : ∀ base : Heap, K.In base → base.Ns mainGlobals mg → FnG P w K mg base k fa fd [x] sp) (bd : ∀ (s : Shared) (u : Value), BindsTo s fd ⟨[u], []⟩ [(x, u)])
    (frz : ∀ b u, H b = some u → b = a ∧ ∃ o xs, u = .frz o (.lst xs)) (ok : HOk P w H s₁.heap) (own : H a ≠ none → K.lookup a = none)
    (want : sp [.ref a] H (fun v _ => v = .bl true) fun _ _ _ => False) : codeAny (model P w) callerA (.call (.ref fa) ⟨[.ref a], []⟩) (EndT s₁) s₁ := by
  have told : ∀ {b o}, s₁.heap.get? b = some o → (∀ xs n, o.data = .seq xs n → False) ∨ H b = none → (hidT s₁.heap H).get? b = some o := fun {b o} e h => hidT_get e (by
    rcases h with h | h
    · cases q : H b with
      | none => rfl
      | some u =>
        have ea := (frz b u q).1
        subst ea
        rw [at_] at e
        cases e
        exact (h _ _ rfl).elim
    · exact h)
  have isNs : ∀ {b : Addr} {m : Str → Option Value}, s₁.heap.Ns b m → (hidT s₁.heap H).Ns b m := by
    rintro b m ⟨o, es, ep, e, d, r⟩
    exact ⟨o, es, ep, told e (.inl fun xs n z => by rw [d] at z; cases z), d, r⟩
  have kept : K.In (hidT s₁.heap H) := fun b o e => told (inK b o e) (.inr (by
    cases q : H b with
    | none => rfl
    | some u =>
      have ea := (frz b u q).1
      subst ea
      rw [own (by rw [q]; exact fun z => by cases z)] at e
      cases e))
  obtain ⟨mc, lim1, lim2⟩ := lim
  have start : Env0 P w K mg (hidT s₁.heap H) callerA [] s₁ H :=
    { frames := rfl, mod := ⟨kept, isNs gl, ⟨mb, isNs bt, boot⟩, ⟨mc, isNs lim1, lim2⟩⟩, bs := fun b o e => of_hidT e, bsz := Nat.le_of_eq (hidT_size _ _), funs := trivial, frf := fun b hb => (List.not_mem_nil hb).elim, hok := ok, bare := .of_eq ng }
  refine codeAny_mono ((F _ kept (isNs gl)).goes (us := [.ref a]) (vs := [.ref a]) (E := fun _ _ _ => False) (Q := fun v _ => v = .bl true) rfl room start (bd s₁ (.ref a)) (.cons rfl .nil) want) fun r s' got => ?_
  match r, got with
  | .error e, got => exact got.elim
  | .ok (.ret u), ⟨v, H', os, bare, un, ok', rel, ev⟩ =>
    have ev' : v = .bl true := ev
    subst ev'
    obtain rfl : u = Value.bool true := rel
    refine ⟨rfl, OldK.of_keep fun b o e => ?_, os, bare⟩
    cases q : H b with
    | none => exact un.keep b o e q (by exact fun z => (List.not_mem_nil z).elim) (by exact fun z => (List.not_mem_nil z).elim)
    | some u =>
      obtain ⟨_, ob, xs, eu⟩ := frz b u q
      subst eu
      obtain ⟨y1, _⟩ := ok b _ q
      obtain ⟨y2, _⟩ := ok' b _ (un.frzs b ob _ q)
      rw [e] at y1
      cases y1
      exact y2
theorem callG {P : Program} {w : World} {K : PySem.W.Frag} {mg mb : Str → Option Value} {k : Nat} {fa a : Addr} {fd : FuncData} {x : Str} {sp : Sp} {s₁ : Shared} {vs : List Value} {ns : List Int}
    (inK : K.In s₁.heap) (gl : s₁.heap.Ns mainGlobals mg) (bt : s₁.heap.Ns builtinsNs mb) (boot : ∀ y : Str, y ≠ "__name__" → mb y = bootBuiltins y) (lim : s₁.heap.NoLimit) (ng : s₁.gens = #[])
    (at_ : s₁.heap.get? a = some { cls := .type "list", data := .seq vs.toArray }) (whole : IntsAre vs ns) (few : ns.length ≤ sizeLine) (room : Room k callerA)
    (F : ∀ base : Heap, K.In base → base.Ns mainGlobals mg → FnG P w K mg base k fa fd [x] sp) (bd : ∀ (s : Shared) (u : Value), BindsTo s fd ⟨[u], []⟩ [(x, u)])
    (want : ∀ H : Hp, Only H → SqL K H a (ns.map V.int) → sp [.ref a] H (fun v _ => v = .bl true) fun _ _ _ => False) : codeAny (model P w) callerA (.call (.ref fa) ⟨[.ref a], []⟩) (EndT s₁) s₁ := by
  have rv := vals_ints whole
  have many := whole.length
  cases hk : K.lookup a with
  | some o =>
    have e := inK a o hk
    rw [at_] at e
    cases e
    refine enter (H := fun _ => none) inK gl bt boot lim ng at_ room F bd (fun b u z => by cases z) (fun b u z => by cases z) (fun z => (z rfl).elim) (want _ (fun _ => .inl rfl) (.inr ⟨_, vs.toArray, _, hk, rfl, rfl, rfl, ?_, ?_⟩))
    · rw [List.size_toArray, many]
      exact few
    · rw [List.toList_toArray]
      exact rv
  | none =>
    refine enter (H := only1 a (.frz { cls := .type "list", data := .seq vs.toArray } (.lst (ns.map V.int)))) inK gl bt boot lim ng at_ room F bd (fun b u z => ⟨(only1_of z).1, _, _, (only1_of z).2⟩) (fun b u z => ?_) (fun _ => hk) (want _ (fun b => ?_) (.inl (.inr ⟨_, only1_at⟩)))
    · obtain ⟨rfl, rfl⟩ := only1_of z
      exact ⟨at_, by rw [List.length_map]; exact few, vs, _, rv, at_⟩
    · by_cases e : b = a
      · rw [e]
        exact .inr ⟨_, _, only1_at⟩
      · exact .inl (only1_no e)
theorem walk_ofG {l : PySem.W.OpenLaw} {n k : Nat} {q : Program} {loose : List Str} {XP : (Str → Option Value) → Heap → Prop} {YP : World → Heap → Prop} {d : DefRec} {K : Params → PySem.W.Frag} {sp : World → Sp} {x : Str}
    (hn : l.most = some n) (hn2 : n ≤ sizeLine) (hdf : d.params.defaults = []) (hr : Room k callerA)
    (hY : ∀ (w : World) (h : Heap), YP w h → (K w.params).In h)
    (F : ∀ (w : World) (mg : Str → Option Value) (fa : Addr) (h : Heap), (K w.params).In h → h.Ns mainGlobals mg → mg d.name = some (.ref fa) →
      ∃ fd : FuncData, (∀ (s : Shared) (u : Value), BindsTo s fd ⟨[u], []⟩ [(x, u)]) ∧ ∀ base : Heap, (K w.params).In base → base.Ns mainGlobals mg → FnG l.prog w (K w.params) mg base k fa fd [x] (sp w))
    (hsp : ∀ (w : World) (H : Hp) (a : Addr) (ns : List Int), ns.length ≤ n → Only H → SqL (K w.params) H a (ns.map V.int) → sp w [.ref a] H (fun v _ => v = .bl true) fun _ _ _ => False) :
    PySem.W.WalkO q loose XP YP l.row.toRowW d [] (fun f vs => PySem.call f vs) :=
  Att.attach_call hn hdf fun w s₀ s₁ mg mb fa o pm cd doc a vs ns G Y ho hd hcd hmg hobj hints hlen hg => by
    have KX := hY w _ Y
    obtain ⟨fd, bd, FF⟩ := F w mg fa _ KX G.T.g hmg
    exact callG KX G.T.g G.T.b G.T.builtins G.T.nolimit hg hobj hints (Nat.le_trans hlen hn2) hr FF bd fun H hO hS => hsp w H a ns hlen hO hS
/-- data whose repr is told: k deep, n things in it -/
structure Rp (k n : Nat) (d : PyData) : Prop where
  sh : d.showable = true
  nd : d.hasDict = false
  dp : d.depth ≤ k
  lf : d.leavesShort 64 = true
  bk : d.bulk ≤ n
theorem Rp.up {k k' n n' : Nat} {d : PyData} (h : Rp k n d) (hk : k ≤ k') (hn : n ≤ n') : Rp k' n' d := ⟨h.sh, h.nd, Nat.le_trans h.dp hk, h.lf, Nat.le_trans h.bk hn⟩
theorem Rp.non : Rp 0 0 .none := ⟨rfl, rfl, Nat.le_refl _, rfl, Nat.le_refl _⟩
theorem Rp.bl (b : Bool) : Rp 0 0 (.bool b) := ⟨rfl, rfl, Nat.le_refl _, rfl, Nat.le_refl _⟩
theorem Rp.int {i : Int} (h : i.natAbs < 10 ^ 60) : Rp 0 0 (.int i) := by
  refine ⟨?_, rfl, Nat.le_refl _, ?_, Nat.le_refl _⟩
  · simp only [PyData.showable]
    refine decide_eq_true ?_
    by_cases z : i.natAbs = 0
    · rw [z]
      decide
    · exact (Nat.log2_lt z).mpr (Nat.lt_of_lt_of_le h (Nat.le_trans (by decide : 10 ^ 60 ≤ 2 ^ 200) (Nat.pow_le_pow_right (by decide) (by decide))))
  · simp only [PyData.leavesShort]
    refine decide_eq_true ?_
    have e := int_text_length_le10 (a := i) (k := 60) (by decide) h
    have e2 : (PyData.shown (.int i)).length = (toString i).length := by
      show (Str.ofString (toString i)).length = _
      exact PySem.ofString_length _
    omega
theorem Rp.all {k n : Nat} : ∀ {ds : List PyData}, (∀ d ∈ ds, Rp k n d) → PyData.showableAll ds = true ∧ PyData.hasDictAll ds = false ∧ PyData.depthAll ds ≤ k ∧ PyData.leavesShortAll 64 ds = true ∧ PyData.bulkAll ds ≤ ds.length * (n + 1)
  | [], _ => ⟨by simp [PyData.showableAll], by simp [PyData.hasDictAll], by simp [PyData.depthAll], by simp [PyData.leavesShortAll], by simp [PyData.bulkAll]⟩
  | d :: ds, h => by
    obtain ⟨a1, a2, a3, a4, a5⟩ := Rp.all (ds := ds) fun x hx => h x (List.mem_cons_of_mem _ hx)
    have b := h d List.mem_cons_self
    refine ⟨?_, ?_, ?_, ?_, ?_⟩
    · simp only [PyData.showableAll, b.sh, a1, Bool.and_true]
    · simp only [PyData.hasDictAll, b.nd, a2, Bool.or_false]
    · simp only [PyData.depthAll]
      exact Nat.max_le.mpr ⟨b.dp, a3⟩
    · simp only [PyData.leavesShortAll, b.lf, a4, Bool.and_true]
    · simp only [PyData.bulkAll, List.length_cons]
      have := b.bk
      rw [Nat.add_mul]
      omega
theorem Rp.tup {k n m : Nat} {ds : List PyData} (h : ∀ d ∈ ds, Rp k n d) (hm : ds.length * (n + 1) ≤ m) : Rp (k + 1) m (.tuple ds) := by
  obtain ⟨a1, a2, a3, a4, a5⟩ := Rp.all h
  refine ⟨?_, ?_, ?_, ?_, ?_⟩
  · simpa only [PyData.showable] using a1
  · simpa only [PyData.hasDict] using a2
  · simp only [PyData.depth]
    omega
  · simpa only [PyData.leavesShort] using a4
  · simp only [PyData.bulk]
    omega
theorem Rp.lst {k n m : Nat} {ds : List PyData} (h : ∀ d ∈ ds, Rp k n d) (hm : ds.length * (n + 1) ≤ m) : Rp (k + 1) m (.list ds) := by
  obtain ⟨a1, a2, a3, a4, a5⟩ := Rp.all h
  refine ⟨?_, ?_, ?_, ?_, ?_⟩
  · simpa only [PyData.showable] using a1
  · simpa only [PyData.hasDict] using a2
  · simp only [PyData.depth]
    omega
  · simpa only [PyData.leavesShort] using a4
  · simp only [PyData.bulk]
    omega
theorem Rp.size {k n : Nat} {d : PyData} (h : Rp k n d) (hn : n ≤ 200000) : d.shown.length ≤ sizeLine := by
  have e := PyData.shown_le_bulk 64 (by decide) d h.lf
  have := h.bk
  rw [sizeLine_eq]
  omega
/-- repr(x), x data that the heap holds, a list or a tuple -/
def rReprD (K : PySem.W.Frag) : List V → Hp → VK → Prop := fun xs H Q => ∃ (a : Addr) (d : PyData) (k n : Nat), xs = [.ref a] ∧ Dp K H (.ref a) d ∧ Rp k n d ∧ k ≤ 40 ∧ n ≤ 200000 ∧ Q (.str d.shown) H
theorem call_reprD {X : Cx} (noG : X.A.guards = some []) (hu : X.A.units + 65 < cLine) : CallR X (.builtin "repr") (rReprD X.K) := by
  intro pins s σ H xs us Q I r h
  obtain ⟨a, d, k, n, rfl, hd, rp, hk, hn, q⟩ := h
  cases r with
  | cons r1 rr =>
    cases rr
    obtain ⟨as, rd⟩ := Dp.reads I d _ _ hd r1
    cases (show _ = Value.ref a from r1)
    have dp := rp.dp
    exact repr_of_reads' rd rp.sh (fun z => by rw [rp.nd] at z; cases z) noG (by omega) (fun _ _ e => e) (fun h' u tk keep => ⟨.str d.shown, H, I.kept keep, ⟨u, rfl⟩, q⟩) (rp.size hn)
end RG7

/-! ### data with dicts: repr of anything; the start of a law that knows where sys.modules stands -/
namespace RO9
open PySem PySem.Spec PyProof.Rows L2
def kD : Key → PyData
  | .inl i => .int i
  | .inr x => .str x
mutual
inductive Od (K : PySem.W.Frag) (H : Hp) : V → PyData → Prop
  | non : Od K H .non .none
  | bl (b : Bool) : Od K H (.bl b) (.bool b)
  | int (i : Int) : Od K H (.int i) (.int i)
  | str (x : Str) : Od K H (.str x) (.str x)
  | lst {a : Addr} {xs : List V} {ds : List PyData} : H a = some (.lst xs) → OdAll K H xs ds → Od K H (.ref a) (.list ds)
  | tup {a : Addr} {xs : List V} {ds : List PyData} : SqT K H a xs → OdAll K H xs ds → Od K H (.ref a) (.tuple ds)
  | dct {a : Addr} {kvs : List (Key × V)} {ds : List PyData} : H a = some (.dK kvs) → OdAll K H (kvs.map (·.2)) ds → Od K H (.ref a) (.dict ((kvs.map fun p => kD p.1).zip ds))
inductive OdAll (K : PySem.W.Frag) (H : Hp) : List V → List PyData → Prop
  | nil : OdAll K H [] []
  | cons {v : V} {vs : List V} {d : PyData} {ds : List PyData} : Od K H v d → OdAll K H vs ds → OdAll K H (v :: vs) (d :: ds)
end
/-- where sys.modules stands, there stands no list of the law's -/
def SysK (K : PySem.W.Frag) (H : Hp) : Prop := (∃ u, H sysModules = some u ∧ ∀ xs, u ≠ .lst xs) ∨ ∃ o, K.lookup sysModules = some o
theorem SysK.same {K : PySem.W.Frag} {H H' : Hp} (h : SysK K H) (s : Same H H') : SysK K H' := h.elim (fun ⟨u, e, n⟩ => .inl ⟨u, s _ _ e, n⟩) .inr
theorem SysK.nl {K : PySem.W.Frag} {H H' : Hp} (h : SysK K H) (s : ∀ b o, (∀ ys, o ≠ HO.lst ys) → H b = some o → H' b = some o) : SysK K H' := h.elim (fun ⟨u, e, n⟩ => .inl ⟨u, s _ _ n e, n⟩) .inr
theorem OdAll.len {K : PySem.W.Frag} {H : Hp} : ∀ {vs : List V} {ds : List PyData}, OdAll K H vs ds → vs.length = ds.length
  | [], _, h => by cases h; rfl
  | _ :: vs, _, h => by
    cases h with
    | cons _ t => rw [List.length_cons, List.length_cons, OdAll.len t]
theorem zip_fst {α β : Type} : ∀ (l : List α) (m : List β), l.length = m.length → (l.zip m).map (·.1) = l
  | [], [], _ => rfl
  | a :: l, b :: m, h => by
    rw [List.zip_cons_cons, List.map_cons, zip_fst l m (by simpa using h)]
  | [], _ :: _, h => by simp at h
  | _ :: _, [], h => by simp at h
theorem zip_snd {α β : Type} : ∀ (l : List α) (m : List β), l.length = m.length → (l.zip m).map (·.2) = m
  | [], [], _ => rfl
  | a :: l, b :: m, h => by
    rw [List.zip_cons_cons, List.map_cons, zip_snd l m (by simpa using h)]
  | [], _ :: _, h => by simp at h
  | _ :: _, [], h => by simp at h
section
variable {X : Cx} {pins : List (Addr × Obj)} {σ : L2.St} {H : Hp} {s : Shared}
theorem keys_read {h : Heap} : ∀ {es : List PySem.DictEntry} {vs : List (Key × Value)} {kvs : List (Key × V)}, PySem.Pairs (mixKind X.prog X.w) es vs → KV kvs vs → ∃ as, ReadsAll h (es.map (·.key)) (kvs.map fun p => kD p.1) as ∧ sysModules ∉ as ∧ Vals (kvs.map (·.2)) (es.map (·.val))
  | _, _, _, .nil, .nil => ⟨[], .nil, by simp, .nil⟩
  | e :: es, kv :: vs, p :: kvs, .cons hk hv t, .cons r rt => by
    obtain ⟨as, h1, h2, h3⟩ := keys_read (h := h) t rt
    have hk' : keyIs kv.1 e.key = true := hk
    rw [← r.1] at hk'
    obtain ⟨k, v⟩ := p
    have rv : RelV v e.val := by rw [hv]; exact r.2
    rcases keyIs_shape hk' with ⟨i, t, rfl, e2⟩ | ⟨x, t, rfl, e2⟩
    · refine ⟨[] ++ as, ?_, by simpa using h2, ?_⟩
      · rw [List.map_cons, List.map_cons, e2]
        exact .cons (.int i t) h1
      · rw [List.map_cons, List.map_cons]
        exact .cons rv h3
    · refine ⟨[] ++ as, ?_, by simpa using h2, ?_⟩
      · rw [List.map_cons, List.map_cons, e2]
        exact .cons (.str x t) h1
      · rw [List.map_cons, List.map_cons]
        exact .cons rv h3
theorem od_reads (I : Inv X pins σ H s) (hS : SysK X.K H) {v : V} {d : PyData} (h : Od X.K H v d) : ∀ u, RelV v u → ∃ as, Reads s.heap u d as ∧ sysModules ∉ as := by
  refine Od.rec (motive_1 := fun v d _ => ∀ u, RelV v u → ∃ as, Reads s.heap u d as ∧ sysModules ∉ as) (motive_2 := fun vs ds _ => ∀ us, Vals vs us → ∃ as, ReadsAll s.heap us ds as ∧ sysModules ∉ as) ?_ ?_ ?_ ?_ ?_ ?_ ?_ ?_ ?_ h
  · intro u r
    cases r
    exact ⟨_, Reads.none, by simp⟩
  · intro b u r
    cases r
    exact ⟨_, Reads.bool b, by simp⟩
  · intro i u r
    obtain ⟨t, rfl⟩ := r
    exact ⟨_, Reads.int i t, by simp⟩
  · intro x u r
    obtain ⟨t, rfl⟩ := r
    exact ⟨_, Reads.str x t, by simp⟩
  · intro a xs ds e _ ih u r
    cases r
    obtain ⟨its, rv, ⟨o, n, ho, hc, _, hd⟩, _⟩ := I.list (SqL.of e)
    obtain ⟨as, hr, hn⟩ := ih its rv
    refine ⟨_, Reads.list ho hc hd hr, fun z => ?_⟩
    rcases List.mem_cons.mp z with z | z
    · rw [← z] at e
      rcases hS with ⟨u, eS, nS⟩ | ⟨o, eS⟩
      · rw [eS] at e
        exact nS _ (Option.some.inj e)
      · rw [(I.env0.bs _ _ (I.env0.mod.kin _ _ eS)).2] at e
        cases e
    · exact hn z
  · intro a xs ds e _ ih u r
    cases r
    obtain ⟨its, rv, ⟨o, ho, hc, n, hd⟩, _⟩ := I.tuple e
    obtain ⟨as, hr, hn⟩ := ih its rv
    exact ⟨_, Reads.tuple ho hc hd hr, hn⟩
  · intro a kvs ds e ha ih u r
    cases r
    obtain ⟨_, hm, vs, rel, o, es, ep, ho, hx, hd, _, pr, _⟩ := dk_of I.hok e
    obtain ⟨as, k1, k2, k3⟩ := keys_read (h := s.heap) pr rel
    obtain ⟨bs, v1, v2⟩ := ih _ k3
    have hl : (kvs.map fun p => kD p.1).length = ds.length := by
      rw [List.length_map, ← ha.len, List.length_map]
    refine ⟨_, Reads.dict ho hx.1 hd (by rw [zip_fst _ _ hl]; exact k1) (by rw [zip_snd _ _ hl]; exact v1), fun z => ?_⟩
    rcases List.mem_append.mp z with z | z
    · rcases List.mem_cons.mp z with z | z
      · rw [← z] at hm
        simp at hm
      · exact k2 z
    · exact v2 z
  · intro us r
    cases r
    exact ⟨_, ReadsAll.nil, by simp⟩
  · intro v vs d ds _ _ ih1 ih2 us r
    cases r with
    | cons r1 r2 =>
      obtain ⟨as, q1, n1⟩ := ih1 _ r1
      obtain ⟨bs, q2, n2⟩ := ih2 _ r2
      refine ⟨_, ReadsAll.cons q1 q2, fun z => ?_⟩
      rcases List.mem_append.mp z with z | z
      · exact n1 z
      · exact n2 z
end
/-- data whose repr is told, with dicts: k deep, n things in it -/
structure Ro (k n : Nat) (d : PyData) : Prop where
  sh : d.showable = true
  dp : d.depth ≤ k
  lf : d.leavesShort 64 = true
  bk : d.bulk ≤ n
theorem Ro.of {k n : Nat} {d : PyData} (h : RG7.Rp k n d) : Ro k n d := ⟨h.sh, h.dp, h.lf, h.bk⟩
theorem Ro.size {k n : Nat} {d : PyData} (h : Ro k n d) (hn : n ≤ 200000) : d.shown.length ≤ sizeLine := by
  have e := PyData.shown_le_bulk 64 (by decide) d h.lf
  have := h.bk
  rw [show (sizeLine : Nat) = 16777216 by decide]
  omega
/-- repr(x), x any data that the heap holds -/
def rReprO (K : PySem.W.Frag) : List V → Hp → VK → Prop := fun xs H Q => ∃ (a : Addr) (d : PyData) (k n : Nat), xs = [.ref a] ∧ SysK K H ∧ Od K H (.ref a) d ∧ Ro k n d ∧ k ≤ 40 ∧ n ≤ 200000 ∧ Q (.str d.shown) H
theorem call_reprO {X : Cx} (noG : X.A.guards = some []) (hu : X.A.units + 65 < cLine) : CallR X (.builtin "repr") (rReprO X.K) := by
  intro pins s σ H xs us Q I r h
  obtain ⟨a, d, k, n, rfl, hS, hd, rp, hk, hn, q⟩ := h
  cases r with
  | cons r1 rr =>
    cases rr
    cases (show _ = Value.ref a from r1)
    obtain ⟨as, rd, nm⟩ := od_reads I hS hd _ rfl
    have dp := rp.dp
    exact repr_of_reads' rd rp.sh (fun _ => nm) noG (by omega) (fun _ _ e => e) (fun h' u tk keep => ⟨.str d.shown, H, I.kept keep, ⟨u, rfl⟩, q⟩) (rp.size hn)
/-- what is told at a law's start: the script, and where sys.modules stands -/
def first (a : Addr) (u : Option HO) (v : Option HO) : Hp := fun b => if b = a then u else if b = sysModules then v else none
theorem first_of {a b : Addr} {u v : Option HO} {o : HO} (h : first a u v b = some o) : (b = a ∧ u = some o) ∨ (b ≠ a ∧ b = sysModules ∧ v = some o) := by
  unfold first at h
  by_cases e : b = a
  · rw [if_pos e] at h
    exact .inl ⟨e, h⟩
  · rw [if_neg e] at h
    by_cases e2 : b = sysModules
    · rw [if_pos e2] at h
      exact .inr ⟨e, e2, h⟩
    · rw [if_neg e2] at h
      cases h
/-- what may be told at the start: the script, frozen; an object that is known -/
def Start1 (a : Addr) (b : Addr) (u : HO) : Prop := (b = a ∧ ∃ o xs, u = .frz o (.lst xs)) ∨ (b = sysModules ∧ ∃ (o : Obj) (v : HO), u = .frz o v)
theorem enterS {P : Program} {w : World} {K : PySem.W.Frag} {mg mb : Str → Option Value} {k : Nat} {fa a : Addr} {fd : FuncData} {x : Str} {sp : Sp} {s₁ : Shared} {vs : List Value} {H : Hp}
    (inK : K.In s₁.heap) (gl : s₁.heap.Ns mainGlobals mg) (bt : s₁.heap.Ns builtinsNs mb) (boot : ∀ y : Str, y ≠ "__name__" → mb y = bootBuiltins y) (lim : s₁.heap.NoLimit) (ng : s₁.gens = #[])
    (at_ : s₁.heap.get? a = some { cls := .type "list", data := .seq vs.toArray }) (room : Room k callerA)
    (F : ∀ base : Heap, K.In base → base.Ns mainGlobals mg → RG7.FnG P w K mg base k fa fd [x] sp) (bd : ∀ (s : Shared) (u : Value), BindsTo s fd ⟨[u], []⟩ [(x, u)])
    (frz : ∀ b u, H b = some u → Start1 a b u) (ok : HOk P w H s₁.heap) (own : H a ≠ none → K.lookup a = none) (ownS : H sysModules ≠ none → K.lookup sysModules = none)
    (want : sp [.ref a] H (fun v _ => v = .bl true) fun _ _ _ => False) : codeAny (model P w) callerA (.call (.ref fa) ⟨[.ref a], []⟩) (RG7.EndT s₁) s₁ := by
  have told : ∀ {b o}, s₁.heap.get? b = some o → (b ≠ sysModules ∧ ∀ xs n, o.data = .seq xs n → False) ∨ H b = none → (hidT s₁.heap H).get? b = some o := fun {b o} e h => hidT_get e (by
    rcases h with ⟨h1, h⟩ | h
    · cases q : H b with
      | none => rfl
      | some u =>
        rcases frz b u q with ⟨ea, _⟩ | ⟨eb, _⟩
        · subst ea
          rw [at_] at e
          cases e
          exact (h _ _ rfl).elim
        · exact (h1 eb).elim
    · exact h)
  have isNs : ∀ {b : Addr} {m : Str → Option Value}, b ≠ sysModules → s₁.heap.Ns b m → (hidT s₁.heap H).Ns b m := by
    rintro b m hb ⟨o, es, ep, e, d, r⟩
    exact ⟨o, es, ep, told e (.inl ⟨hb, fun xs n z => by rw [d] at z; cases z⟩), d, r⟩
  have kept : K.In (hidT s₁.heap H) := fun b o e => told (inK b o e) (.inr (by
    cases q : H b with
    | none => rfl
    | some u =>
      rcases frz b u q with ⟨ea, _⟩ | ⟨eb, _⟩
      · subst ea
        rw [own (by rw [q]; exact fun z => by cases z)] at e
        cases e
      · subst eb
        rw [ownS (by rw [q]; exact fun z => by cases z)] at e
        cases e))
  obtain ⟨mc, lim1, lim2⟩ := lim
  have start : Env0 P w K mg (hidT s₁.heap H) callerA [] s₁ H :=
    { frames := rfl, mod := ⟨kept, isNs (by decide) gl, ⟨mb, isNs (by decide) bt, boot⟩, ⟨mc, isNs (by decide) lim1, lim2⟩⟩, bs := fun b o e => of_hidT e, bsz := Nat.le_of_eq (hidT_size _ _), funs := trivial, frf := fun b hb => (List.not_mem_nil hb).elim, hok := ok, bare := .of_eq ng }
  refine codeAny_mono ((F _ kept (isNs (by decide) gl)).goes (us := [.ref a]) (vs := [.ref a]) (E := fun _ _ _ => False) (Q := fun v _ => v = .bl true) rfl room start (bd s₁ (.ref a)) (.cons rfl .nil) want) fun r s' got => ?_
  match r, got with
  | .error e, got => exact got.elim
  | .ok (.ret u), ⟨v, H', os, bare, un, ok', rel, ev⟩ =>
    have ev' : v = .bl true := ev
    subst ev'
    obtain rfl : u = Value.bool true := rel
    refine ⟨rfl, OldK.of_keep fun b o e => ?_, os, bare⟩
    cases q : H b with
    | none => exact un.keep b o e q (by exact fun z => (List.not_mem_nil z).elim) (by exact fun z => (List.not_mem_nil z).elim)
    | some u =>
      rcases frz b u q with ⟨_, ob, xs, eu⟩ | ⟨eb, ob, v, eu⟩
      · subst eu
        obtain ⟨y1, _⟩ := ok b _ q
        obtain ⟨y2, _⟩ := ok' b _ (un.frzs b ob _ q)
        rw [e] at y1
        cases y1
        exact y2
      · subst eu
        obtain ⟨y1, _⟩ := ok b _ q
        obtain ⟨y2, _⟩ := ok' b _ (un.frzs b ob _ q)
        rw [e] at y1
        cases y1
        exact y2
theorem callS {P : Program} {w : World} {K : PySem.W.Frag} {mg mb : Str → Option Value} {k : Nat} {fa a : Addr} {fd : FuncData} {x : Str} {sp : Sp} {s₁ : Shared} {vs : List Value} {ns : List Int}
    (inK : K.In s₁.heap) (gl : s₁.heap.Ns mainGlobals mg) (bt : s₁.heap.Ns builtinsNs mb) (boot : ∀ y : Str, y ≠ "__name__" → mb y = bootBuiltins y) (lim : s₁.heap.NoLimit) (ng : s₁.gens = #[])
    (at_ : s₁.heap.get? a = some { cls := .type "list", data := .seq vs.toArray }) (whole : IntsAre vs ns) (few : ns.length ≤ sizeLine) (room : Room k callerA) (hos : ∃ os, s₁.heap.get? sysModules = some os)
    (F : ∀ base : Heap, K.In base → base.Ns mainGlobals mg → RG7.FnG P w K mg base k fa fd [x] sp) (bd : ∀ (s : Shared) (u : Value), BindsTo s fd ⟨[u], []⟩ [(x, u)])
    (want : ∀ H : Hp, SysK K H → SqL K H a (ns.map V.int) → sp [.ref a] H (fun v _ => v = .bl true) fun _ _ _ => False) : codeAny (model P w) callerA (.call (.ref fa) ⟨[.ref a], []⟩) (RG7.EndT s₁) s₁ := by
  have rv := vals_ints whole
  have many := whole.length
  obtain ⟨os, hos⟩ := hos
  -- what is told of either
  obtain ⟨uA, hA⟩ : ∃ uA : Option HO, uA = if K.lookup a = none then some (.frz { cls := .type "list", data := .seq vs.toArray } (.lst (ns.map V.int))) else none := ⟨_, rfl⟩
  obtain ⟨uS, hS⟩ : ∃ uS : Option HO, uS = if K.lookup sysModules = none then some (.frz os (.ext fun _ => True)) else none := ⟨_, rfl⟩
  have cA : ∀ u, uA = some u → K.lookup a = none ∧ u = .frz { cls := .type "list", data := .seq vs.toArray } (.lst (ns.map V.int)) := fun u e => by
    rw [hA] at e
    by_cases c : K.lookup a = none
    · rw [if_pos c] at e
      exact ⟨c, (Option.some.inj e).symm⟩
    · rw [if_neg c] at e
      cases e
  have cS : ∀ u, uS = some u → K.lookup sysModules = none ∧ u = .frz os (.ext fun _ => True) := fun u e => by
    rw [hS] at e
    by_cases c : K.lookup sysModules = none
    · rw [if_pos c] at e
      exact ⟨c, (Option.some.inj e).symm⟩
    · rw [if_neg c] at e
      cases e
  refine enterS (H := first a uA uS) inK gl bt boot lim ng at_ room F bd (fun b u z => ?_) (fun b u z => ?_) (fun z => ?_) (fun z => ?_) (want _ ?_ ?_)
  · rcases first_of z with ⟨e, h⟩ | ⟨_, e, h⟩
    · exact .inl ⟨e, _, _, (cA u h).2⟩
    · exact .inr ⟨e, _, _, (cS u h).2⟩
  · rcases first_of z with ⟨e, h⟩ | ⟨_, e, h⟩
    · obtain ⟨_, rfl⟩ := cA u h
      subst e
      exact ⟨at_, by rw [List.length_map]; exact few, vs, _, rv, at_⟩
    · obtain ⟨_, rfl⟩ := cS u h
      subst e
      exact ⟨hos, trivial, ⟨_, hos⟩, fun _ _ _ _ => trivial⟩
  · cases q : first a uA uS a with
    | none => exact (z q).elim
    | some u =>
      rcases first_of q with ⟨_, h⟩ | ⟨n, _⟩
      · exact (cA u h).1
      · exact (n rfl).elim
  · cases q : first a uA uS sysModules with
    | none => exact (z q).elim
    | some u =>
      rcases first_of q with ⟨e, h⟩ | ⟨_, _, h⟩
      · rw [e]
        exact (cA u h).1
      · exact (cS u h).1
  · cases hk : K.lookup sysModules with
    | some o => exact .inr ⟨o, hk⟩
    | none =>
      refine .inl ?_
      by_cases e : sysModules = a
      · refine ⟨.frz { cls := .type "list", data := .seq vs.toArray } (.lst (ns.map V.int)), ?_, fun _ z => by cases z⟩
        unfold first
        rw [if_pos e, hA, ← e, if_pos hk]
      · refine ⟨.frz os (.ext fun _ => True), ?_, fun _ z => by cases z⟩
        unfold first
        rw [if_neg e, if_pos rfl, hS, if_pos hk]
  · cases hk : K.lookup a with
    | some o =>
      have e := inK a o hk
      rw [at_] at e
      cases e
      refine .inr ⟨_, vs.toArray, _, hk, rfl, rfl, rfl, ?_, ?_⟩
      · rw [List.size_toArray, many]
        exact few
      · rw [List.toList_toArray]
        exact rv
    | none =>
      refine .inl (.inr ⟨{ cls := .type "list", data := .seq vs.toArray }, ?_⟩)
      unfold first
      rw [if_pos rfl, hA, if_pos hk]
theorem walk_ofS {l : PySem.W.OpenLaw} {n k : Nat} {q : Program} {loose : List Str} {XP : (Str → Option Value) → Heap → Prop} {YP : World → Heap → Prop} {d : DefRec} {K : Params → PySem.W.Frag} {sp : World → Sp} {x : Str}
    (hn : l.most = some n) (hn2 : n ≤ sizeLine) (hdf : d.params.defaults = []) (hr : Room k callerA) (hq : importsNone q = true)
    (hY : ∀ (w : World) (h : Heap), YP w h → (K w.params).In h)
    (F : ∀ (w : World) (mg : Str → Option Value) (fa : Addr) (h : Heap), (K w.params).In h → h.Ns mainGlobals mg → mg d.name = some (.ref fa) →
      ∃ fd : FuncData, (∀ (s : Shared) (u : Value), BindsTo s fd ⟨[u], []⟩ [(x, u)]) ∧ ∀ base : Heap, (K w.params).In base → base.Ns mainGlobals mg → RG7.FnG l.prog w (K w.params) mg base k fa fd [x] (sp w))
    (hsp : ∀ (w : World) (H : Hp) (a : Addr) (ns : List Int), ns.length ≤ n → SysK (K w.params) H → SqL (K w.params) H a (ns.map V.int) → sp w [.ref a] H (fun v _ => v = .bl true) fun _ _ _ => False) :
    PySem.W.WalkO q loose XP YP l.row.toRowW d [] (fun f vs => PySem.call f vs) :=
  Att.attach_call hn hdf fun w s₀ s₁ mg mb fa o pm cd doc a vs ns G Y ho hd hcd hmg hobj hints hlen hg => by
    have KX := hY w _ Y
    obtain ⟨fd, bd, FF⟩ := F w mg fa _ KX G.T.g hmg
    exact callS KX G.T.g G.T.b G.T.builtins G.T.nolimit hg hobj hints (Nat.le_trans hlen hn2) hr (by
      obtain ⟨mm, ⟨o, _, _, e, _⟩, _⟩ := (G.T.seer hq).mods
      exact ⟨o, e⟩) FF bd fun H hO hS => hsp w H a ns hlen hO hS
/-! ### what kind of thing it is -/
def tyD : PyData → String
  | .none => "NoneType"
  | .bool _ => "bool"
  | .int _ => "int"
  | .str _ => "str"
  | .list _ => "list"
  | .tuple _ => "tuple"
  | .dict _ => "dict"
theorem tyTup' {K : PySem.W.Frag} {H : Hp} {a : Addr} {xs : List V} (h : SqT K H a xs) : TyX K H (.ref a) (.type "tuple") := by
  rcases h with (h | ⟨o, h⟩) | h
  · exact .base (.tup h)
  · exact .fTuple h
  · obtain ⟨o, n, vs, e, c, _⟩ := h
    exact .kTuple e c
theorem Od.ty {K : PySem.W.Frag} {H : Hp} {v : V} {d : PyData} (h : Od K H v d) : TyX K H v (.type (tyD d)) := by
  cases h with
  | non => exact .base .non
  | bl b => exact .base (.bl b)
  | int i => exact .base (.int i)
  | str x => exact .base (.str x)
  | lst e _ => exact .base (.lst e)
  | tup e _ => exact tyTup' e
  | dct e _ => exact .base (.dK e)
theorem kit_tuple {K : PySem.W.Frag} (d : PyData) : PySem.W.kitOne K (.type (tyD d)) (.type "tuple") = some (match d with | .tuple _ => true | _ => false) := by
  cases d with
  | none => exact kit_ty (show kitB "NoneType" "tuple" = some false by decide +kernel)
  | bool _ => exact kit_ty (show kitB "bool" "tuple" = some false by decide +kernel)
  | int _ => exact kit_ty (show kitB "int" "tuple" = some false by decide +kernel)
  | str _ => exact kit_ty (show kitB "str" "tuple" = some false by decide +kernel)
  | list _ => exact kit_ty (show kitB "list" "tuple" = some false by decide +kernel)
  | tuple _ => exact kit_ty (show kitB "tuple" "tuple" = some true by decide +kernel)
  | dict _ => exact kit_ty (show kitB "dict" "tuple" = some false by decide +kernel)
theorem kit_int {K : PySem.W.Frag} (d : PyData) : PySem.W.kitOne K (.type (tyD d)) (.type "int") = some (match d with | .int _ => true | .bool _ => true | _ => false) := by
  cases d with
  | none => exact kit_ty (show kitB "NoneType" "int" = some false by decide +kernel)
  | bool _ => exact kit_ty (show kitB "bool" "int" = some true by decide +kernel)
  | int _ => exact kit_ty (show kitB "int" "int" = some true by decide +kernel)
  | str _ => exact kit_ty (show kitB "str" "int" = some false by decide +kernel)
  | list _ => exact kit_ty (show kitB "list" "int" = some false by decide +kernel)
  | tuple _ => exact kit_ty (show kitB "tuple" "int" = some false by decide +kernel)
  | dict _ => exact kit_ty (show kitB "dict" "int" = some false by decide +kernel)
theorem kit_bool {K : PySem.W.Frag} (d : PyData) : PySem.W.kitOne K (.type (tyD d)) (.type "bool") = some (match d with | .bool _ => true | _ => false) := by
  cases d with
  | none => exact kit_ty (show kitB "NoneType" "bool" = some false by decide +kernel)
  | bool _ => exact kit_ty (show kitB "bool" "bool" = some true by decide +kernel)
  | int _ => exact kit_ty (show kitB "int" "bool" = some false by decide +kernel)
  | str _ => exact kit_ty (show kitB "str" "bool" = some false by decide +kernel)
  | list _ => exact kit_ty (show kitB "list" "bool" = some false by decide +kernel)
  | tuple _ => exact kit_ty (show kitB "tuple" "bool" = some false by decide +kernel)
  | dict _ => exact kit_ty (show kitB "dict" "bool" = some false by decide +kernel)
/-- all but what may change stays: data stay data -/
theorem Od.mono {K : PySem.W.Frag} {H H' : Hp} {v : V} {d : PyData} (h : Od K H v d) (s : ∀ b o, H b = some o → H' b = some o) : Od K H' v d := by
  refine Od.rec (motive_1 := fun v d _ => Od K H' v d) (motive_2 := fun vs ds _ => OdAll K H' vs ds) ?_ ?_ ?_ ?_ ?_ ?_ ?_ ?_ ?_ h
  · exact .non
  · exact fun b => .bl b
  · exact fun i => .int i
  · exact fun x => .str x
  · exact fun e _ ih => .lst (s _ _ e) ih
  · exact fun e _ ih => .tup (e.elim (fun h => .inl (h.elim (fun h => .inl (s _ _ h)) fun ⟨o, h⟩ => .inr ⟨o, s _ _ h⟩)) .inr) ih
  · exact fun e _ ih => .dct (s _ _ e) ih
  · exact .nil
  · exact fun _ _ a b => .cons a b
theorem OdAll.get {K : PySem.W.Frag} {H : Hp} : ∀ {vs : List V} {ds : List PyData}, OdAll K H vs ds → ∀ {i : Nat} {v : V}, vs[i]? = some v → ∃ d, ds[i]? = some d ∧ Od K H v d
  | [], _, h, i, v, hv => by simp at hv
  | x :: vs, _, h, i, v, hv => by
    cases h with
    | cons a t =>
      cases i with
      | zero =>
        simp at hv
        subst hv
        exact ⟨_, rfl, a⟩
      | succ i =>
        simp only [List.getElem?_cons_succ] at hv ⊢
        exact OdAll.get t hv
/-- a whole number within bounds -/
def numD (lo hi : Int) : PyData → Bool
  | .int i => decide (lo ≤ i) && decide (i ≤ hi)
  | _ => false
def isI : PyData → Bool
  | .int _ => true
  | _ => false
/-! ### an instance made where the making may raise -/
section
variable {X : Cx} {CX : CXT} {k : Nat} {f C : Addr} {fd : FuncData} {ps : List Str} {sp : Sp} {E : L2.St → XK} {x : Str} {p pos : Pos} {e : Expr} {es : List Expr} {t : TA}
def tMakeS (C : Addr) (sp : Sp) (E : L2.St → XK) (t : TA) : TE := fun σ H Q => t σ H fun vs H1 => ∀ x dx, H1 x = none → H1 dx = none → dx ≠ x → sp (.ref x :: vs) (upd (upd H1 dx (.own x)) x (.ins C dx [])) (fun v H2 => v = .non ∧ Q (.ref x) H2) (E σ)
theorem run_makeS {pins : List (Addr × Obj)} {σ : L2.St} {H : Hp} {s : Shared} {Q : VK} {us : List Value} {vs : List V} (M : Mk X.K C f) (F : FnOk X.prog X.w X.K X.mg X.base CX k f fd ps sp) (hr : Room (k + 1) X.A) (hb : Binds X.K fd ps [])
    (hx : PassesAt CX X σ (E σ)) (I : Inv X pins σ H s) (r : Vals vs us)
    (h : ∀ x dx, H x = none → H dx = none → dx ≠ x → sp (.ref x :: vs) (upd (upd H dx (.own x)) x (.ins C dx [])) (fun v H2 => v = .non ∧ Q (.ref x) H2) (E σ)) :
    wpAny (model X.prog X.w) X.A (call (.ref C) us) (EP X pins σ Q) X.xe s := by
  have hq := h (s.heap.objs.size + 1) s.heap.objs.size (I.hok.fresh (Nat.le_succ _)) (I.hok.fresh (Nat.le_refl _)) (Nat.ne_of_lt (Nat.lt_succ_self _))
  have I2 := Inv.made (C := C) I
  have r2 : Vals (V.ref (s.heap.objs.size + 1) :: vs) (Value.ref (s.heap.objs.size + 1) :: us) := .cons rfl r
  have hl : (Value.ref (s.heap.objs.size + 1) :: us ++ []).length = ps.length := by
    have e := r2.length
    rw [F.len _ _ _ _ hq] at e
    rw [List.append_nil]
    exact e.symm
  have hbb := hb _ (Value.ref (s.heap.objs.size + 1) :: us) I2.kIn hl
  rw [List.append_nil] at hbb
  refine wpAny_call (make_map (f := f) I.kIn M.makes M.init (beq_iff_eq.mp M.fn) (codeAny_mono (F.run _ X.stack _ _ ⟨Value.ref (s.heap.objs.size + 1) :: us, []⟩ (Value.ref (s.heap.objs.size + 1) :: us) _ _ (E σ) (hr.make C us [])
    (I2.env0.make C us []) hbb r2 hq) fun r s' hq' => ?_))
  cases r with
  | error e => exact hx pins _ _ e s' I2 hq'
  | ok fl =>
    cases fl with
    | ret u =>
      obtain ⟨v, H', I3, rv, ev, q3⟩ := I2.after hq'
      subst ev
      exact ⟨rv, ⟨V.ref (s.heap.objs.size + 1), H', I3, rfl, q3⟩⟩
    | next => exact False.elim hq'
    | brk => exact False.elim hq'
    | cont => exact False.elim hq'
theorem pe_makeS (M : Mk X.K C f) (F : FnOk X.prog X.w X.K X.mg X.base CX k f fd ps sp) (hr : Room (k + 1) X.A) (hg : Gl X x) (hm : X.mg x = some (.ref C)) (hb : Binds X.K fd ps []) (hx : ∀ σ, PassesAt CX X σ (E σ))
    (ha : PA X (e :: es) t) (hdb : (x == ("__debug__" : Str)) = false := by decide) (he : starEach (e :: es) X.env = (false, eval e X.env) :: starEach es X.env := by rfl) (hpl : (backTo pos (starEach es X.env)).any (·.1) = false := by rfl) :
    PE X (.Call (.Name x p) (e :: es) [] pos) (tMakeS C sp E t) := by
  refine ⟨fun pins s σ H Q I h => ?_⟩
  refine wpAny_Call_Name_kw (ld_glob I hg hm ?_ hdb)
  refine PySem.W.callWith_K (h₀ := X.base) I.ok.mod.kin M.kp (thn (ha.run pos pins s σ H _ I h) fun us s1 ⟨vs, H1, I1, r, q⟩ => ⟨I1.kIn, ?_⟩) he hpl
  exact run_makeS M F hr hb (hx σ) I1 r q
end
/-- isinstance(e, c), e the caught exception, its fields in the dict at d -/
def rIsED (K : PySem.W.Frag) (D : Addr) (cls : Value) (d : Option Addr) (a : Addr) : List V → Hp → VK → Prop := fun xs H Q => ∃ (c : V) (cv : Value) (b : Bool) (dd : Addr) (fs : List (Str × V)), xs = [.ref a, c] ∧ cls = .ref D ∧ d = some dd ∧ H dd = some (.xd fs) ∧ ClsV c cv ∧ PySem.W.kitOne K (.ref D) cv = some b ∧ Q (.bl b) H
theorem call_isED {X : Cx} {a D : Addr} {oe : Obj} {cls : Value} {d : Option Addr} {pn : List (Addr × Obj)} (C : ExcC X.K D) (hz : Zc cls d oe) (hf : ∃ vs, oe.data = .fields vs) : CallR (X.suite a ((a, oe) :: pn)) (.builtin "isinstance") (rIsED X.K D cls d a) := by
  intro pins s σ H xs us Q I r h
  obtain ⟨c, cv, b, dd, fs, rfl, ec, ed, ea, hcv, e, q⟩ := h
  subst ec
  subst ed
  cases r with
  | cons rx rr =>
    cases rr with
    | cons rt rr =>
      cases rr
      cases rx
      have e2 := hcv.eq rt
      subst e2
      obtain ⟨hget, _⟩ := I.pin (a, oe) (List.mem_append.mpr (.inl List.mem_cons_self))
      obtain ⟨vs, hv⟩ := hf
      have hx : ObjOk X.prog X.w H s.heap dd (.xd fs) := I.hok dd _ ea
      obtain ⟨mA, hns, hr⟩ := hx
      obtain ⟨od, ho, hl⟩ := lookIn_ns hns
      obtain ⟨cd, hcD, _⟩ := PySem.W.any_some C.hd
      have J : PySem.W.InstAt s.heap a oe D (some od) := ⟨hget, hz.1, by unfold PySem.W.notCls; rw [hv] <;> rfl, by rw [hz.2]; exact ho⟩
      exact PySem.W.kia_one (PySem.W.kitx_exc (by rw [hcD]; rfl) C.hg C.hk C.hs C.ha C.hn C.ht C.hm) I.kIn J e (fun z => nomatch z) fun tk => ⟨.bl b, H, I.tok tk, rfl, q⟩
/-- a field where the frame is named (within a try) -/
theorem pe_fldK {X : Cx} {K : PySem.W.Frag} {e : Expr} {f : Str} {ta : TE} {pos : Pos} (h : X.K = K) (he : PE X e ta) (hb : attributeBase e f X.env (eval e X.env) = eval e X.env) : PE X (.Attribute e f pos) (tFld K ta f) := h ▸ pe_fld he hb
end RO9

/-! ### things of any kind: bounds of their repr, data without dicts -/
namespace RO9
open PySem PySem.Spec PyProof.Rows L2
def roB (k n : Nat) (d : PyData) : Bool := d.showable && decide (d.depth ≤ k) && d.leavesShort 64 && decide (d.bulk ≤ n)
theorem roOf {k n : Nat} {d : PyData} (h : roB k n d = true) : Ro k n d := by
  unfold roB at h
  simp only [Bool.and_eq_true, decide_eq_true_eq] at h
  exact ⟨h.1.1.1, h.1.1.2, h.1.2, h.2⟩
theorem Ro.up {k k' n n' : Nat} {d : PyData} (h : Ro k n d) (hk : k ≤ k') (hn : n ≤ n') : Ro k' n' d := ⟨h.sh, Nat.le_trans h.dp hk, h.lf, Nat.le_trans h.bk hn⟩
theorem Ro.all {k n : Nat} : ∀ {ds : List PyData}, (∀ d ∈ ds, Ro k n d) → PyData.showableAll ds = true ∧ PyData.depthAll ds ≤ k ∧ PyData.leavesShortAll 64 ds = true ∧ PyData.bulkAll ds ≤ ds.length * (n + 1)
  | [], _ => ⟨by simp [PyData.showableAll], by simp [PyData.depthAll], by simp [PyData.leavesShortAll], by simp [PyData.bulkAll]⟩
  | d :: ds, h => by
    obtain ⟨a1, a3, a4, a5⟩ := Ro.all (ds := ds) fun x hx => h x (List.mem_cons_of_mem _ hx)
    have b := h d List.mem_cons_self
    refine ⟨?_, ?_, ?_, ?_⟩
    · simp only [PyData.showableAll, b.sh, a1, Bool.and_true]
    · simp only [PyData.depthAll]
      exact Nat.max_le.mpr ⟨b.dp, a3⟩
    · simp only [PyData.leavesShortAll, b.lf, a4, Bool.and_true]
    · simp only [PyData.bulkAll, List.length_cons]
      have := b.bk
      rw [Nat.add_mul]
      omega
theorem Ro.tup {k n m : Nat} {ds : List PyData} (h : ∀ d ∈ ds, Ro k n d) (hm : ds.length * (n + 1) ≤ m) : Ro (k + 1) m (.tuple ds) := by
  obtain ⟨a1, a3, a4, a5⟩ := Ro.all h
  refine ⟨?_, ?_, ?_, ?_⟩
  · simpa only [PyData.showable] using a1
  · simp only [PyData.depth]
    omega
  · simpa only [PyData.leavesShort] using a4
  · simp only [PyData.bulk]
    omega
theorem Ro.lst {k n m : Nat} {ds : List PyData} (h : ∀ d ∈ ds, Ro k n d) (hm : ds.length * (n + 1) ≤ m) : Ro (k + 1) m (.list ds) := by
  obtain ⟨a1, a3, a4, a5⟩ := Ro.all h
  refine ⟨?_, ?_, ?_, ?_⟩
  · simpa only [PyData.showable] using a1
  · simp only [PyData.depth]
    omega
  · simpa only [PyData.leavesShort] using a4
  · simp only [PyData.bulk]
    omega
theorem Ro.pair {k n m q : Nat} {a b : PyData} (ha : Ro k n a) (hb : Ro k m b) (hq : n + m + 2 ≤ q) : Ro (k + 1) q (.tuple [a, b]) := by
  have h1 := ha.bk
  have h2 := hb.bk
  have h3 := ha.dp
  have h4 := hb.dp
  refine ⟨?_, ?_, ?_, ?_⟩
  · simp only [PyData.showable, PyData.showableAll, ha.sh, hb.sh, Bool.and_true]
  · simp only [PyData.depth, PyData.depthAll]
    omega
  · simp only [PyData.leavesShort, PyData.leavesShortAll, ha.lf, hb.lf, Bool.and_true]
  · simp only [PyData.bulk, PyData.bulkAll]
    omega
theorem Ro.int {i : Int} (h : -1000000000 ≤ i) (g : i ≤ 1000000000) : Ro 0 0 (.int i) := .of (.int (by omega))
theorem Ro.ints {ns : List Int} {m : Nat} (h : ∀ n ∈ ns, -1000000000 ≤ n ∧ n ≤ 1000000000) (hm : ns.length ≤ m) : Ro 1 m (.tuple (ns.map PyData.int)) := .tup (n := 0) (fun d hd => by
  obtain ⟨n, hn, rfl⟩ := List.mem_map.mp hd
  exact .int (h n hn).1 (h n hn).2) (by rw [List.length_map]; omega)
theorem Od.dp {K : PySem.W.Frag} {H : Hp} {v : V} {d : PyData} (h : Od K H v d) (n : d.hasDict = false) : Dp K H v d := by
  refine Od.rec (motive_1 := fun v d _ => d.hasDict = false → Dp K H v d) (motive_2 := fun vs ds _ => PyData.hasDictAll ds = false → DpAll K H vs ds) ?_ ?_ ?_ ?_ ?_ ?_ ?_ ?_ ?_ h n
  · exact fun _ => .non
  · exact fun b _ => .bl b
  · exact fun i _ => .int i
  · exact fun x _ => .str x
  · exact fun e _ ih n => .lst (SqL.of e) (ih (by simpa only [PyData.hasDict] using n))
  · exact fun e _ ih n => .tup e (ih (by simpa only [PyData.hasDict] using n))
  · exact fun _ _ _ n => by simp [PyData.hasDict] at n
  · exact fun _ => .nil
  · intro v vs d ds _ _ a b n
    simp only [PyData.hasDictAll, Bool.or_eq_false_iff] at n
    exact .cons (a n.1) (b n.2)
mutual
theorem Dp.od {K : PySem.W.Frag} {H : Hp} (sl : ∀ a xs, SqL K H a xs → H a = some (.lst xs)) : ∀ {v : V} {d : PyData}, Dp K H v d → Od K H v d
  | _, _, .non => .non
  | _, _, .bl b => .bl b
  | _, _, .int i => .int i
  | _, _, .str x => .str x
  | _, _, .lst e h => .lst (sl _ _ e) (DpAll.od sl h)
  | _, _, .tup e h => .tup e (DpAll.od sl h)
theorem DpAll.od {K : PySem.W.Frag} {H : Hp} (sl : ∀ a xs, SqL K H a xs → H a = some (.lst xs)) : ∀ {vs : List V} {ds : List PyData}, DpAll K H vs ds → OdAll K H vs ds
  | _, _, .nil => .nil
  | _, _, .cons a b => .cons (Dp.od sl a) (DpAll.od sl b)
end
theorem OdAll.ints {K : PySem.W.Frag} {H : Hp} : ∀ ns : List Int, OdAll K H (ns.map V.int) (ns.map PyData.int)
  | [] => .nil
  | n :: ns => .cons (.int n) (OdAll.ints ns)
theorem Od.ints {K : PySem.W.Frag} {H : Hp} {a : Addr} {ns : List Int} (h : SqT K H a (ns.map V.int)) : Od K H (.ref a) (.tuple (ns.map PyData.int)) := .tup h (OdAll.ints ns)
theorem OdAll.mono {K : PySem.W.Frag} {H H' : Hp} {vs : List V} {ds : List PyData} (h : OdAll K H vs ds) (s : ∀ b o, H b = some o → H' b = some o) : OdAll K H' vs ds := by
  refine OdAll.rec (motive_1 := fun v d _ => Od K H' v d) (motive_2 := fun vs ds _ => OdAll K H' vs ds) ?_ ?_ ?_ ?_ ?_ ?_ ?_ ?_ ?_ h
  · exact .non
  · exact fun b => .bl b
  · exact fun i => .int i
  · exact fun x => .str x
  · exact fun e _ ih => .lst (s _ _ e) ih
  · exact fun e _ ih => .tup (e.elim (fun h => .inl (h.elim (fun h => .inl (s _ _ h)) fun ⟨o, h⟩ => .inr ⟨o, s _ _ h⟩)) .inr) ih
  · exact fun e _ ih => .dct (s _ _ e) ih
  · exact .nil
  · exact fun _ _ a b => .cons a b
theorem OdAll.append {K : PySem.W.Frag} {H : Hp} {ds' : List PyData} {vs' : List V} (h' : OdAll K H vs' ds') : ∀ {vs : List V} {ds : List PyData}, OdAll K H vs ds → OdAll K H (vs ++ vs') (ds ++ ds')
  | [], _, h => by
    cases h
    exact h'
  | _ :: _, _, h => by
    cases h with
    | cons a t => exact .cons a (OdAll.append h' t)
theorem OdAll.set {K : PySem.W.Frag} {H : Hp} {v : V} {d : PyData} (hd : Od K H v d) : ∀ {vs : List V} {ds : List PyData} (i : Nat), OdAll K H vs ds → OdAll K H (vs.set i v) (ds.set i d)
  | [], _, _, h => by
    cases h
    exact .nil
  | _ :: _, _, 0, h => by
    cases h with
    | cons a t => exact .cons hd t
  | _ :: _, _, i + 1, h => by
    cases h with
    | cons a t => exact .cons a (OdAll.set hd i t)
theorem OdAll.take {K : PySem.W.Frag} {H : Hp} : ∀ {vs : List V} {ds : List PyData} (i : Nat), OdAll K H vs ds → OdAll K H (vs.take i) (ds.take i)
  | [], _, _, h => by
    cases h
    simp only [List.take_nil]
    exact .nil
  | _ :: _, _, 0, _ => .nil
  | _ :: _, _, i + 1, h => by
    cases h with
    | cons a t => exact .cons a (OdAll.take i t)
theorem OdAll.drop {K : PySem.W.Frag} {H : Hp} : ∀ {vs : List V} {ds : List PyData} (i : Nat), OdAll K H vs ds → OdAll K H (vs.drop i) (ds.drop i)
  | [], _, _, h => by
    cases h
    simp only [List.drop_nil]
    exact .nil
  | _ :: _, _, 0, h => h
  | _ :: _, _, i + 1, h => by
    cases h with
    | cons a t => exact OdAll.drop i t
theorem OdAll.rep {K : PySem.W.Frag} {H : Hp} {vs : List V} {ds : List PyData} (h : OdAll K H vs ds) : ∀ n : Nat, OdAll K H (List.replicate n vs).flatten (List.replicate n ds).flatten
  | 0 => .nil
  | n + 1 => by
    rw [List.replicate_succ, List.replicate_succ, List.flatten_cons, List.flatten_cons]
    exact OdAll.append (OdAll.rep h n) h
theorem len_flat {α : Type} (xs : List α) : ∀ n : Nat, (List.replicate n xs).flatten.length = n * xs.length
  | 0 => by simp
  | n + 1 => by
    rw [List.replicate_succ, List.flatten_cons, List.length_append, len_flat xs n, Nat.succ_mul]
    omega
theorem mem_flat {α : Type} {xs : List α} {x : α} {n : Nat} (h : x ∈ (List.replicate n xs).flatten) : x ∈ xs := by
  obtain ⟨l, hl, hx⟩ := List.mem_flatten.mp h
  rw [(List.mem_replicate.mp hl).2] at hx
  exact hx
end RO9

/-! ## sorted(range(n), key=lambda x: (ys[x], x)) -/
namespace LS13
open PySem PySem.Spec PySem.Calls PyProof.Rows L2
/-- the lambda's scope: its parameter x, the captured name y -/
structure LamP (scope : Scope) (x y : Str) : Prop where
  kind : scope.kind = .function
  co : scope.isCoroutine = false
  gen : scope.isGenerator = false
  names : scope.names = [(x, .local), (y, .free)]
section
variable {prog : Program} {w : World} {A : Around} {s : Shared}
/-- the key of one item -/
theorem key_call {f c c' la : Addr} {x y q : Str} {p1 p2 p3 p4 p5 : Pos} {k0 : Nat} {scope : Scope} {cl : List (Str × Addr)} {params : Arguments} {pm ctv : Value} {its : List Value} {ls : List Int} {i : Int} {t0 : Tok} {j : Nat}
    (L : LamP scope x y) (hxy : (x == y) = false) (hcl : cl = [(y, c)]) (hroom : A.depth < recursionLimit) (hlim : s.heap.NoLimit) (hcell : s.heap.IsCell c (some (.ref la))) (htup : IsTup s.heap la its.toArray) (hv : Vals (ls.map V.int) its) (hz : ls.length ≤ 1000)
    (hf : s.heap.get? f = some (PySem.W.kla_obj "<lambda>" q params (.Tuple [.Subscript (.Name y p1) (.Name x p2) p3, .Name x p4] k0 p5) scope cl pm c' ctv)) (hcd : s.heap.CodeRec (.ref c') q)
    (hbind : bindArgs (PySem.W.kla_fn "<lambda>" q params (.Tuple [.Subscript (.Name y p1) (.Name x p2) p3, .Name x p4] k0 p5) scope cl pm (.ref c') ctv) ⟨[.int (j : Int) t0], []⟩ = pure [(x, .int (j : Int) t0)])
    (hj : ls[j]? = some i) (hd1 : (x == ("__debug__" : Str)) = false) (hd2 : (y == ("__debug__" : Str)) = false) (hd3 : (y == ("__classdict__" : Str)) = false) :
    wpAny (model prog w) A (call (.ref f) [.int (j : Int) t0]) (PySem.W.KeyPure (.tuple [.int i, .int (j : Int)]) s) (fun _ _ => False) s := by
  refine wpAny_call ?_
  refine PySem.W.kla_callFunE hroom hf rfl L.co L.gen rfl hcd ?_
  rw [hbind]
  have ln : scope.names.lookup x = some .local := by rw [L.names]; simp [List.lookup]
  have yx : (y == x) = false := by
    cases h : (y == x) with
    | false => rfl
    | true =>
      have e := eq_of_beq h
      rw [e] at hxy
      simp at hxy
  have fn : scope.names.lookup y = some .free := by rw [L.names]; simp [List.lookup, yx]
  refine wpAny_pure (wpAny_newFunctionEnv (fun z hz => ?_) (fun z hz => ?_) (fun h₁ hns hsb => ⟨hlim.fresh _ hsb, ?_⟩) L.kind)
  · rw [L.names] at hz
    rcases List.mem_cons.mp hz with rfl | hz
    · exact fun z => by cases z
    · rw [List.mem_singleton.mp hz]
      exact fun z => by cases z
  · rw [List.mem_singleton.mp hz]
    exact ln
  have kp : ∀ b o, s.heap.get? b = some o → h₁.get? b = some o := fun b o e => hsb.extBut b o (Nat.ne_of_lt (Heap.lt_size e)) (Heap.get?_push_of_some _ e)
  obtain ⟨L0, hL0⟩ : ∃ L0, L0 = s.heap.objs.size := ⟨_, rfl⟩
  show codeAny _ _ (.expr _ (PySem.W.envX q scope s.heap.objs.size f (.ref c') cl)) _ _
  rw [← hL0]
  rw [← hL0] at hns
  refine PySem.W.kla_codeExpr ?_
  have kx : (PySem.W.envX q scope L0 f (.ref c') cl).kindOf x = some .local := ln
  have ky : (PySem.W.envX q scope L0 f (.ref c') cl).kindOf y = some .free := fn
  have cy : (PySem.W.envX q scope L0 f (.ref c') cl).cells.lookup y = some c := by
    show cl.lookup y = some c
    rw [hcl]
    simp [List.lookup]
  have lz := hv.length
  rw [List.length_map] at lz
  have hjl := (List.getElem?_eq_some_iff.mp hj).1
  obtain ⟨u, eu, ru⟩ := hv.get (i := j) (x := .int i) (by rw [List.getElem?_map, hj]; rfl)
  obtain ⟨tu, rfl⟩ := ru
  have hloc : (fun z => ([(x, Value.int (j : Int) t0)] : List (Str × Value)).reverse.lookup z) x = some (.int (j : Int) t0) := by
    show List.lookup x [(x, Value.int (j : Int) t0)] = _
    simp [List.lookup]
  refine wpAny_Tuple_spliced (pos := p5) ?_
  show wpAny _ _ (spliced ((false, eval (.Subscript (.Name y p1) (.Name x p2) p3) (PySem.W.envX q scope L0 f (.ref c') cl)) :: backTo p5 (starEach [.Name x p4] (PySem.W.envX q scope L0 f (.ref c') cl)))) _ _ _
  refine spliced_cons (Subscript_ (wpAny_Name (wpAny_loadName_free L.kind ky cy (v := .ref la) ?_ (wpAny_Name (wpAny_loadName_local L.kind kx hns hloc ?_) hd1) hd3) hd2))
  · obtain ⟨o, ho, hd⟩ := hcell
    exact ⟨o, kp _ _ ho, hd⟩
  have htup' : IsTup h₁ la its.toArray := by
    obtain ⟨o, ho, hc, n, hd⟩ := htup
    exact ⟨o, kp _ _ ho, hc, n, hd⟩
  have hn := line63
  refine subscriptTail_builtinR (x := .int i tu) htup'.typeIs slot_tuple_getitem.lookup
    (getItem_tuple (j := j) (Q := fun r s' => r = .int i tu ∧ _) htup' (by omega) (by omega) (by rw [List.size_toArray, seqIndex_of (by omega) (by omega), Int.toNat_natCast]) (by simpa using eu) ⟨rfl, ?_⟩) (by rfl)
  show wpAny _ _ (spliced ((false, eval (.Name x p4) (PySem.W.envX q scope L0 f (.ref c') cl)) :: backTo p5 (starEach [] (PySem.W.envX q scope L0 f (.ref c') cl)))) _ _ _
  refine spliced_cons (wpAny_Name (wpAny_loadName_local L.kind kx hns hloc ?_) hd1)
  refine spliced_nil ⟨by show 2 ≤ sizeLine; decide, ?_⟩
  exact ⟨_, _, rfl, fun b o e => Heap.get?_push_of_some _ (kp b o e), .tuple (Heap.get?_push_size _ rfl) rfl rfl (.cons (.int _ _) (.cons (.int _ _) .nil))⟩
end
end LS13
namespace LS13
open PySem PySem.Spec PySem.Calls PyProof.Rows L2 LamX
/-- the order: by what stands there, then by the place -/
def lexle (ls : List Int) (i j : Int) : Prop := ls.getD i.toNat 0 < ls.getD j.toNat 0 ∨ (ls.getD i.toNat 0 = ls.getD j.toNat 0 ∧ i ≤ j)
def rgI (n : Nat) : List Int := (List.range n).map fun i => ((i : Nat) : Int)
def keyD (ls : List Int) (i : Int) : PyData := .tuple [.int (ls.getD i.toNat 0), .int i]
def IsI (v : Value) (i : Int) : Prop := ∃ t, v = .int i t
theorem each_vals : ∀ {bs : List Int} {vs : List Value}, Vals (bs.map V.int) vs → PySem.W.EachIs IsI vs bs
  | [], _, h => by
    cases h
    exact .nil
  | b :: bs, _, h => by
    cases h with
    | cons r t =>
      obtain ⟨tk, rfl⟩ := r
      exact .cons ⟨tk, rfl⟩ (each_vals t)
theorem vals_each : ∀ {bs : List Int} {vs : List Value}, PySem.W.EachIs IsI vs bs → Vals (bs.map V.int) vs
  | _, _, .nil => .nil
  | _, _, .cons ⟨t, e⟩ h => .cons ⟨t, e⟩ (vals_each h)
theorem key_le (ls : List Int) : PySem.W.dataLe false (keyD ls) = fun p q => decide (ls.getD p.toNat 0 < ls.getD q.toNat 0 ∨ (ls.getD p.toNat 0 = ls.getD q.toNat 0 ∧ p ≤ q)) := PySem.W.dataLe_ii (fun i : Int => ls.getD i.toNat 0) (fun i => i)
theorem sorted_pw (ls bs : List Int) : (bs.mergeSort (PySem.W.dataLe false (keyD ls))).Pairwise (lexle ls) := by
  have e := key_le ls
  refine (List.pairwise_mergeSort (le := PySem.W.dataLe false (keyD ls)) (fun a b c h1 h2 => ?_) (fun a b => ?_) bs).imp fun {a b} h => ?_
  · rw [e] at h1 h2 ⊢
    have h1 := of_decide_eq_true h1
    have h2 := of_decide_eq_true h2
    exact decide_eq_true (by omega)
  · rw [e, Bool.or_eq_true]
    by_cases c : ls.getD a.toNat 0 < ls.getD b.toNat 0 ∨ (ls.getD a.toNat 0 = ls.getD b.toNat 0 ∧ a ≤ b)
    · exact .inl (decide_eq_true c)
    · exact .inr (decide_eq_true (show ls.getD b.toNat 0 < ls.getD a.toNat 0 ∨ (ls.getD b.toNat 0 = ls.getD a.toNat 0 ∧ b ≤ a) by omega))
  · rw [e] at h
    have h := of_decide_eq_true h
    exact h
/-- a reading that goes on with SqT behind tables that grow -/
theorem sT_ext {K : PySem.W.Frag} {H H' : Hp} {a : Addr} {xs : List V} (h : SqT K H a xs) (e : ExtN H H') : SqT K H' a xs :=
  h.elim (fun h => .inl (h.elim (fun h => .inl (e _ _ h (fun _ z => by cases z))) fun ⟨o, h⟩ => .inr ⟨o, e _ _ h (fun _ z => by cases z)⟩)) fun h => .inr h
def tSortLam (K : PySem.W.Frag) (T : List (Addr × Str)) (i0 : Nat) (ta : TE) : TE := fun σ H Q => ta σ H fun z H1 => ∃ (la : Addr) (ls : List Int), z = .int ((ls.length : Nat) : Int) ∧ σ[i0]? = some (some (.ref la)) ∧ SqT K H1 la (ls.map V.int) ∧ ls.length ≤ 1000 ∧ Tabs T H1 ∧
  ∀ (os : List Int) (p : Addr) (H2 : Hp), os.Perm (rgI ls.length) → os.Pairwise (lexle ls) → H1 p = none → ExtN H1 H2 → Tabs T H2 → H2 p = some (.lst (os.map V.int)) → Q (.ref p) H2
section
variable {X : Cx}
theorem pe_sortLam {T : List (Addr × Str)} {x y : Str} {a : Expr} {ta : TE} {i0 k k0 : Nat} {c P : Addr} {scope : Scope} {params : Arguments} {p0 p1 p2 p3 p4 p5 p6 p7 lpos kpos pos : Pos} (ha : PE X a ta)
    (hgS : Gl X "sorted") (hmS : X.mg "sorted" = none) (hgR : Gl X "range") (hmR : X.mg "range" = none) (na : starEach [a] X.env = (false, eval a X.env) :: starEach [] X.env)
    (TB : TabB X.base X.mg c P) (hcode : X.env.code = .ref c) (hmT : (P, X.env.qual ++ "<lambda>") ∈ T) (hu : ∀ p ∈ T, p.1 = P → p.2 = X.env.qual ++ "<lambda>") (hr : Room (k + 2) X.A)
    (hN : X.N[i0]? = some y) (hy : X.env.kindOf y = some .cell) (L : LamP scope x y) (hxy : (x == y) = false) (hdef : defaultsOf params X.env = ([], []))
    (hbind : ∀ (q : Str) (cl : List (Str × Addr)) (pm cv ctv : Value) (v : Value), bindArgs (PySem.W.kla_fn "<lambda>" q params (.Tuple [.Subscript (.Name y p1) (.Name x p2) p3, .Name x p4] k0 p5) scope cl pm cv ctv) ⟨[v], []⟩ = pure [(x, v)])
    (hd1 : (x == ("__debug__" : Str)) = false := by decide) (hd2 : (y == ("__debug__" : Str)) = false := by decide) (hd3 : (y == ("__classdict__" : Str)) = false := by decide) :
    PE X (.Call (.Name "sorted" p0) [.Call (.Name "range" p6) [a] [] p7] [⟨some "key", .Lambda params (.Tuple [.Subscript (.Name y p1) (.Name x p2) p3, .Name x p4] k0 p5) scope lpos, kpos⟩] pos) (tSortLam X.K T i0 ta) := by
  refine ⟨fun pins s σ H Q I h => ?_⟩
  refine wpAny_Call_Name_kw (ld_blt I hgS hmS (u := .builtin "sorted") (by rfl) ?_)
  refine PyProof.Rows.callWith_kw ?_
  refine args_cons (Call_ (ld_blt I hgR hmR boot_range (PyProof.Rows.callWith_type1 (one_arg ha I h (fun v s2 z H2 I2 r q => ?_) na) na)))
  obtain ⟨la, ls, rfl, hs, hT, hz, hTb, q⟩ := q
  obtain ⟨t, rfl⟩ := r
  refine call_range_1 (args_nil ?_)
  have fr0 : H2 s2.heap.objs.size = none := I2.hok.fresh (Nat.le_refl _)
  obtain ⟨ro, hro⟩ : ∃ ro : Obj, ro = { cls := .type "range", data := .fields #[.int 0 s2.toks, .int ((ls.length : Nat) : Int) t, .int 1 (s2.toks + 1)] } := ⟨_, rfl⟩
  have I3 : Inv X ((s2.heap.objs.size, ro) :: pins) σ H2 { s2 with heap := s2.heap.push { cls := .type "range", data := .fields #[.int 0 s2.toks, .int ((ls.length : Nat) : Int) t, .int 1 (s2.toks + 1)] }, toks := s2.toks + 1 + 1 } := by
    have J := I2.kept (t' := s2.toks + 1 + 1) (h' := s2.heap.push { cls := .type "range", data := .fields #[.int 0 s2.toks, .int ((ls.length : Nat) : Int) t, .int 1 (s2.toks + 1)] }) fun b u e => Heap.get?_push_of_some _ e
    refine J.pins_of fun p hp => ?_
    rcases List.mem_cons.mp hp with rfl | hp
    · refine ⟨by rw [hro]; exact Heap.get?_push_size _ rfl, fr0, Nat.ne_of_gt I2.lt, I2.nofs (Nat.le_refl _), fun v => ?_⟩
      rw [hro]
      exact fun z => by cases z
    · exact J.pin p (List.mem_append_right _ hp)
  have hfree : ∀ z ∈ scope.names, z.2 = .free → ∃ c, X.env.cells.lookup z.1 = some c := fun z hz e => by
    rw [L.names] at hz
    rcases List.mem_cons.mp hz with rfl | hz
    · cases e
    · rw [List.mem_singleton.mp hz]
      exact I.ok.has _ (.inl hy)
  show wpAny _ _ (evalAll ((do let v ← eval (.Lambda params (.Tuple [.Subscript (.Name y p1) (.Name x p2) p3, .Name x p4] k0 p5) scope lpos) X.env; standAt pos; pure v) :: [])) _ _ _
  refine wpAny_evalAll_cons (wpAny_bind (lam_make2 I3 TB hcode hmT hu hTb hdef hfree fun f c' pm ctv H3 s3 I4 eN T3 hf hfn hfr hco => wpAny_bind (wpAny_standAt (wpAny_pure (wpAny_evalAll_nil ?_)))))
  show wpAny _ _ (call (.builtin "sorted") [.ref s2.heap.objs.size] [(Str.ofString "key", .ref f)]) _ _ s3
  have hT3 := sT_ext hT eN
  -- what a key's call wants
  obtain ⟨its, hv, htup, _⟩ := I4.tuple hT3
  obtain ⟨m, hn, hl⟩ := I4.loc
  obtain ⟨u, ru, lu⟩ := hl i0 y (.ref la) hN hs (.inr (.inl hy))
  obtain ⟨cc, hcc, hcell⟩ : ∃ cc, X.env.cells.lookup y = some cc ∧ s3.heap.IsCell cc (some (.ref la)) := by
    cases ru
    rcases lu with ⟨k', _⟩ | ⟨_, cc, h1, h2⟩
    · rw [hy] at k'
      cases k'
    · exact ⟨cc, h1, h2⟩
  obtain ⟨⟨oc, cvs, ct, hoc, hdc, hvc⟩, _, _⟩ := I4.hok c' _ hco
  have hcl : cloFrom X.env.cells scope.names [] = [(y, cc)] := by
    rw [L.names]
    show cloFrom X.env.cells [(y, .free)] [] = _
    show [(y, (X.env.cells.lookup y).getD 0)] = _
    rw [hcc]
    rfl
  have hrng := (I4.pin (s2.heap.objs.size, ro) (List.mem_append_right _ (.head _))).1
  have hd := hr.hd
  refine call_function_entry_kw kind_sorted plain_sorted entry_sorted (PyProof.Rows.ksk_s1 _ _) ?_
  unfold Builtin.«sorted»
  refine wpAny_bind (m := checkCount "sorted" 1 1 _) (wpAny_pure ?_)
  have hrng' : IsRange s3.heap s2.heap.objs.size 0 ((ls.length : Nat) : Int) 1 s2.toks t (s2.toks + 1) := by
    rw [hro] at hrng
    exact hrng
  refine wpAny_bind (collect_range (n := ls.length) (A := X.A.in1) hd hrng' (small_one (by omega) (by omega) (by omega) (by omega)) (by have := rangeSize_nat 0 ((ls.length : Nat) : Int); simpa using this) (by omega) fun h5 tk5 acc k5 hi5 => ?_)
  have vacc : Vals ((rgI ls.length).map V.int) acc.toList := by
    have v := vals_rg (a := 0) (b := ((ls.length : Nat) : Int)) (acc := acc) (by
      have e : (((ls.length : Nat) : Int) - 0).toNat = ls.length := by omega
      rw [e]
      exact hi5)
    have e : rgV 0 ((ls.length : Nat) : Int) = (rgI ls.length).map V.int := by
      unfold rgV rgI
      rw [show (((ls.length : Nat) : Int) - 0).toNat = ls.length by omega, List.map_map]
      refine List.map_congr_left fun i _ => ?_
      show V.int (0 + (i : Int)) = V.int (i : Int)
      rw [Int.zero_add]
    rw [← e]
    exact v
  have lacc : acc.toList.length = ls.length := by
    have := vacc.length
    rw [List.length_map] at this
    unfold rgI at this
    rw [List.length_map, List.length_range] at this
    exact this.symm
  have hL : acc.toList.length ≤ sizeLine := by
    rw [lacc]
    show ls.length ≤ 2 ^ 24
    omega
  refine wpAny_bind (wpAny_newList ?_ hL)
  show wpAny _ _ _ _ _ { s3 with heap := h5.push (seqObj "list" acc.toList.toArray 0), toks := tk5 }
  obtain ⟨h6, hh6⟩ : ∃ h6, h6 = h5.push (seqObj "list" acc.toList.toArray 0) := ⟨_, rfl⟩
  rw [← hh6]
  have k6 : ∀ b o, s3.heap.get? b = some o → h6.get? b = some o := fun b o e => by
    rw [hh6]
    exact Heap.get?_push_of_some _ (k5 b o e)
  have at6 : h6.get? h5.objs.size = some (seqObj "list" acc.toList.toArray 0) := by
    rw [hh6]
    exact Heap.get?_push_size _ rfl
  have lt6 : ∀ b o, s3.heap.get? b = some o → b ≠ h5.objs.size := fun b o e => Nat.ne_of_lt (Heap.lt_size (k5 b o e))
  refine wpAny_bind (wpAny_holding (PySem.W.list_sort_key_data (b := false) (β := Int) (bs := rgI ls.length) (R := IsI) (keyD ls) at6 (each_vals vacc) (PySem.W.AllAlike.of fun b b' => by rfl) (PySem.W.Sortable.tuples fun b => ⟨_, _, rfl⟩) (by unfold rgI; rw [List.length_map, List.length_range]; show ls.length ≤ 2 ^ 24; omega)
    (fun z hz => ?_) (PyProof.Rows.ksk_l1 _ _) (PyProof.Rows.ksk_t1 f _) (fun v z hR hz h7 tk7 kb => ?_) (fun out c7 h7 tk7 kb ho hlen he => wpAny_pure ⟨_, rfl, ?_⟩)))
  · have hd1 : (keyD ls z).depth = 1 := by
      unfold keyD
      simp [PyData.depth, PyData.depthAll]
    have := hr.un
    rw [hd1]
    show X.A.units + 1 + 1 + 1 < cLine
    omega
  · have keep7 : ∀ b o, s3.heap.get? b = some o → h7.get? b = some o := fun b o e => kb b o (lt6 b o e) (k6 b o e)
    obtain ⟨j, hj, rfl⟩ := List.mem_map.mp hz
    have hjl := List.mem_range.mp hj
    obtain ⟨t0, rfl⟩ := hR
    have hlj := List.getElem?_eq_getElem hjl
    have ek : keyD ls (j : Int) = .tuple [.int ls[j], .int (j : Int)] := by
      unfold keyD
      rw [Int.toNat_natCast, List.getD_eq_getElem?_getD, hlj]
      rfl
    rw [ek]
    obtain ⟨oC, hoC, hdC⟩ := hcell
    obtain ⟨oT, hoT, hcT, nT, hdT⟩ := htup
    exact key_call (s := { heap := h7, gens := s3.gens, drawn := s3.drawn, toks := tk7, os := s3.os }) L hxy hcl (by have := hr.dp; show X.A.depth < _; omega) (I4.nolimit.keeps keep7) ⟨oC, keep7 _ _ hoC, hdC⟩ ⟨oT, keep7 _ _ hoT, hcT, nT, hdT⟩ hv ‹ls.length ≤ 1000›
      (keep7 _ _ hf) ⟨c', oc, cvs, ct, rfl, keep7 _ _ hoc, hdc, hvc⟩ (hbind _ _ _ _ _ _) hlj hd1 hd2 hd3
  · have keep7 : ∀ b o, s3.heap.get? b = some o → h7.get? b = some o := fun b o e => kb b o (lt6 b o e) (k6 b o e)
    obtain ⟨os, hos⟩ : ∃ os, os = (rgI ls.length).mergeSort (PySem.W.dataLe false (keyD ls)) := ⟨_, rfl⟩
    have pe : os.Perm (rgI ls.length) := by
      rw [hos]
      exact List.mergeSort_perm _ _
    have pw : os.Pairwise (lexle ls) := by
      rw [hos]
      exact sorted_pw ls _
    rw [← hos] at he
    have vo := vals_each he
    have I5 : Inv X pins σ H3 s3 := I4.pins_of fun p hp => I4.pin p (by
      rcases List.mem_append.mp (List.mem_append_right X.pn hp) with h | h
      · exact List.mem_append_left _ h
      · exact List.mem_append_right _ (.tail _ h))
    have I6 : Inv X pins σ H3 { s3 with heap := h5, toks := tk5 } := I5.kept k5
    have nH3 : H3 h5.objs.size = none := I6.hok.fresh (Nat.le_refl _)
    have lo : (os.map V.int).length ≤ sizeLine := by
      rw [List.length_map, pe.length_eq]
      unfold rgI
      rw [List.length_map, List.length_range]
      show ls.length ≤ 2 ^ 24
      omega
    have nH2 : H2 h5.objs.size = none := I2.hok.fresh (Nat.le_of_lt (Heap.lt_size (k5 _ _ hrng)))
    refine ⟨.ref h5.objs.size, upd H3 h5.objs.size (.lst (os.map V.int)), I6.laid (t' := tk7) (h' := h7) (fun b o e => kb b o (Nat.ne_of_lt (Heap.lt_size e)) (by rw [hh6]; exact Heap.get?_push_of_some _ e)) (Nat.le_refl _) ⟨lo, out, c7, vo, ho⟩, rfl, q os _ _ pe pw nH2 (eN.trans (ExtN.of fun b o e => ?_)) (T3.ext fun b o e => ?_) upd_same⟩
    · rw [upd_ne (ne_of_none e nH3)]
      exact e
    · rw [upd_ne (ne_of_none e nH3)]
      exact e
end
end LS13
namespace LS13
open PySem PySem.Spec PySem.Calls PyProof.Rows L2 LamX
/-- a def whose code object is known -/
structure FunC (K : PySem.W.Frag) (x qual : Str) (st : Stmt) (f : Addr) (fd : FuncData) (c : Addr) : Prop where
  ex : ∃ (oc : Value) (od : Option Addr) (kV doc pm : Value) (an : Option Addr) (ct : Value) (osl : Array (Option Value)),
    fd = PySem.W.fnOf x qual (defArgs st) (defBody st) (defScope st) .none kV doc pm an (.ref c) ct ∧ K.lookup f = some ⟨oc, od, .func fd, osl⟩ ∧ PySem.W.codeIn K (.ref c) qual = true
theorem FunC.ok {P : Program} {w : World} {K : PySem.W.Frag} {mg : Str → Option Value} {base : Heap} {x qual : Str} {st : Stmt} {f c : Addr} {fd : FuncData} {N ps : List Str} {k : Nat} {sp : Sp} (F : FunC K x qual st f fd c) (S : FnScope N ps (defScope st)) (len : ∀ vs H Q E, sp vs H Q E → vs.length = ps.length)
    (hbody : ∀ (A : Around) (outer : List Env) (s : Shared) (H : Hp) (vs : List V) (Q : VK) (E : XK), Room k (A.deeper (envOfC qual (defScope st) s.heap.objs.size f (.ref c))) → sp vs H Q E →
      ∃ t, PSs (cxOf CX0 P w K mg base N qual (defScope st) f (.ref c) A outer s H E).nox (defBody st) t ∧ t { nx := fun _ H' => Q .non H', rt := Q } (start N vs) H) : FnOk P w K mg base CX0 (k + 1) f fd ps sp := by
  obtain ⟨oc, od, kV, doc, pm, an, ct, osl, rfl, lk, hcd⟩ := F.ex
  refine fn_of lk hcd S len fun A outer s H vs Q E hr hsp => ?_
  obtain ⟨t, h, q⟩ := hbody A outer s H vs Q E hr hsp
  exact ⟨t, h.nox, q⟩
theorem funC_mk {K : PySem.W.Frag} {x qual : Str} {st : Stmt} {f c : Addr} {oc : Value} {od an : Option Addr} {osl : Array (Option Value)} {kV doc pm ct : Value} (l : K.lookup f = some ⟨oc, od, .func (PySem.W.fnOf x qual (defArgs st) (defBody st) (defScope st) .none kV doc pm an (.ref c) ct), osl⟩)
    (h : PySem.W.codeIn K (.ref c) qual = true) : FunC K x qual st f (PySem.W.fnOf x qual (defArgs st) (defBody st) (defScope st) .none kV doc pm an (.ref c) ct) c := ⟨oc, od, kV, doc, pm, an, ct, osl, rfl, l, h⟩
/-- a def's table, found in the written part -/
theorem tab_mk {K : PySem.W.Frag} {x qual : Str} {f c P : Addr} {oc : Value} {od an : Option Addr} {osl : Array (Option Value)} {kV doc pm ct dV : Value} {params : Arguments} {body : List Stmt} {scope : Scope} {coc : Value} {cod : Option Addr} {cvs : Array Value} {csl : Array (Option Value)}
    (n : PySem.W.nsIn K mainGlobals x = some (some (.ref f))) (l : K.lookup f = some ⟨oc, od, .func (PySem.W.fnOf x qual params body scope dV kV doc pm an (.ref c) ct), osl⟩)
    (lc : K.lookup c = some ⟨coc, cod, .fields cvs, csl⟩) (hv : cvs[11]? = some (.ref P)) : PySem.W.tabIn K x = some (c, P) := by
  unfold PySem.W.tabIn
  rw [n]
  show (match K.lookup f with
    | some ⟨_, _, .func fd, _⟩ => (match fd.code with
      | .ref c => (match K.lookup c with
        | some ⟨_, _, .fields vs, _⟩ => (match (vs[11]? : Option Value) with
          | some (.ref P) => some (c, P)
          | _ => none)
        | _ => none)
      | _ => none)
    | _ => none) = _
  rw [l]
  show (match K.lookup c with
        | some ⟨_, _, .fields vs, _⟩ => (match (vs[11]? : Option Value) with
          | some (.ref P) => some (c, P)
          | _ => none)
        | _ => none) = _
  rw [lc]
  show (match (cvs[11]? : Option Value) with
          | some (.ref P) => some (c, P)
          | _ => none) = _
  rw [hv]
theorem walk_ofT {l : PySem.W.OpenLaw} {n k : Nat} {q : Program} {loose : List Str} {XP : (Str → Option Value) → Heap → Prop} {YP : World → Heap → Prop} {d : DefRec} {K : Params → PySem.W.Frag} {CX : World → CXT} {x : Str}
    (hn : l.most = some n) (hn2 : n ≤ sizeLine) (hdf : d.params.defaults = []) (hr : Room k callerA) (hY : ∀ (w : World) (h : Heap), YP w h → (K w.params).In h)
    (F : ∀ (w : World) (mg mb : Str → Option Value) (mean : ExcName → Option Value) (loose' : List Str) (fa : Addr) (h : Heap), YP w h → (K w.params).In h → Top q loose' mean mg mb h → mg d.name = some (.ref fa) → LawAtS l w (K w.params) (CX w) k n x mg fa h)
    (hCX : ∀ (w : World) (H : Hp) (s : Shared) (e : Value) (s' : Shared), CX w [] H s (fun _ _ _ => False) e s' → False) :
    PySem.W.WalkO q loose XP YP l.row.toRowW d [] (fun f vs => PySem.call f vs) := by
  refine Att.attach_callB hn hdf fun w s₀ s₁ mg mb fa o pm cd doc a vs ns G Y ho hd hcd hmg hobj hints hlen hbits hg => ?_
  have KX := hY w _ Y
  obtain ⟨fd, cs, sp, hT, nT, C, hb, hsp, hF⟩ := F w mg mb _ _ fa _ Y KX G.T hmg
  exact law_callTs KX G.T.g G.T.b G.T.builtins G.T.nolimit hg hT nT C G.T.bmain hobj hints (Nat.le_trans hlen hn2) hr hF hb (fun H hH hS => hsp H a ns hlen hbits hH hS) fun H e s' => hCX w H s₁ e s'
end LS13

/-! ### try with several clauses, each with a name -/
namespace TM14
open PySem PySem.Spec PyProof.Rows L2
/-- what the clauses wish of an exception of the body, one after the other -/
def wAsMany (K : PySem.W.Frag) (Wout : WX) (D : Ends) : List (Value × Nat × (Addr → Value → Option Addr → TS)) → WX
  | [] => Wout
  | (c, i, ts) :: r => wAs K c i ts (wAsMany K Wout D r) D
inductive HdsAs (X : Cx) : List ExceptHandler → List (Value × Nat × (Addr → Value → Option Addr → TS)) → Prop
  | nil : HdsAs X [] []
  | cons {x n : Str} {c : Value} {i : Nat} {ts : Addr → Value → Option Addr → TS} {b : Stmt} {suite : List Stmt} {np pos : Pos} {hds : List ExceptHandler} {l : List (Value × Nat × (Addr → Value → Option Addr → TS))}
      (hi : X.N[i]? = some n) (hl : X.env.kindOf n = some .local) (hc : Names X x c)
      (hsu : ∀ (a : Addr) (oe : Obj) (cls : Value) (d : Option Addr) (pn : List (Addr × Obj)), Zc cls d oe → (∃ vs, oe.data = .fields vs) → PSs (X.suite a ((a, oe) :: pn)) (b :: suite) (ts a cls d))
      (r : HdsAs X hds l) : HdsAs X (.ExceptHandler (some (.Name x np)) (some n) (b :: suite) pos :: hds) ((c, i, ts) :: l)
section
variable {X : Cx} {pins : List (Addr × Obj)} {D : Ends} {Wout : WX}
theorem off_frames {a : Addr} {B h : Heap} {o : Obj} {vs : Array Value} (ff : h.FunFrames B (X.env :: X.outer)) (e : h.get? a = some o) (hd : o.data = .fields vs) (hf : X.env.frame = some X.env.locals) : a ≠ X.env.locals ∧ a ∉ X.fs := by
  have nfr : a ∉ frs (X.env :: X.outer) := fun hm => by
    obtain ⟨_, o', e', hnf⟩ := ff.mem hm
    rw [e] at e'
    cases e'
    exact hnf _ hd
  refine ⟨fun z => nfr (List.mem_filterMap.mpr ⟨X.env, List.mem_cons_self, by rw [hf, z]⟩), fun hm => ?_⟩
  obtain ⟨y, hy, q⟩ := List.mem_filterMap.mp hm
  exact nfr (List.mem_filterMap.mpr ⟨y, List.mem_cons_of_mem _ hy, q⟩)
/-- no clause takes it: it goes on -/
theorem go_on (hs : X.stack = X.env :: X.outer) (hf : X.env.frame = some X.env.locals) (tk : Takes X Wout) {a : Addr} {B h3 : Heap} {sI s' : Shared} {σ : L2.St} {H : Hp} {cls : Value} {d : Option Addr} (J : Inv X pins σ H sI)
    (nb : ∀ b o, sI.heap.get? b = some o → b ∉ frs X.stack → B.get? b = some o) (up : sI.heap.UpToSlots h3) (fl : HandSPX.FlyingZ B (X.env :: X.outer) a (Zc cls d) h3) (na : H a = none) (os : s'.os = sI.os) (ag : AllBare s'.gens) (w : Wout cls d σ H) :
    wpAny (model X.prog X.w) X.A (handleBy (.ref a) X.env []) (SP X pins D) X.xe { s' with heap := h3 } := by
  refine wpAny_handleBy_nil ?_
  obtain ⟨_, _, _, oe, vs, T, _, _, he, _, hd, h1, _⟩ := id fl
  unfold PySem.passOn
  refine wpAny_bind (wpAny_field he hd h1 ?_)
  rw [if_neg (show ¬ ((Value.ref T == Value.none) = true) from by simp)]
  have fin : wpAny (model X.prog X.w) X.A (setFlight (.ref a) X.env.frame) (fun _ s4 => wpAny (model X.prog X.w) X.A (throw (.ref a) : Sem Flow) (SP X pins D) X.xe s4) X.xe { s' with heap := h3 } := by
    rw [hf]
    exact HandSPX.setFlight_upZ fl fun h4 hh4 up4 => wpAny_throw (tk _ _ ⟨a, B, sI, pins, σ, H, cls, d, rfl, J, nb, up.trans up4, .inr (.inr (by rw [hs]; exact hh4)), na, os, ag, w⟩)
  first
    | exact wpAny_bind (wpAny_pure (wpAny_bind fin))
    | exact wpAny_bind fin
/-- the clauses, one after the other -/
theorem clauses (hs : X.stack = X.env :: X.outer) (hf : X.env.frame = some X.env.locals) (hN : X.N.Nodup) (tk : Takes X Wout) {hds : List ExceptHandler} {l : List (Value × Nat × (Addr → Value → Option Addr → TS))} (hk : HdsAs X hds l)
    {a : Addr} {B h3 : Heap} {sI s' : Shared} {σ : L2.St} {H : Hp} {cls : Value} {d : Option Addr} (J : Inv X pins σ H sI)
    (nb : ∀ b o, sI.heap.get? b = some o → b ∉ frs X.stack → B.get? b = some o) (up : sI.heap.UpToSlots h3) (fl : HandSPX.FlyingZ B (X.env :: X.outer) a (Zc cls d) h3) (na : H a = none) (os : s'.os = sI.os) (ag : AllBare s'.gens)
    (w : wAsMany X.K Wout D l cls d σ H) : wpAny (model X.prog X.w) X.A (handleBy (.ref a) X.env hds) (SP X pins D) X.xe { s' with heap := h3 } := by
  have ok := J.ok
  induction hk with
  | nil => exact go_on hs hf tk J nb up fl na os ag w
  | @cons x n c i ts b₀ suite np pos hds l hi hl hc hsu r ih =>
    obtain ⟨b, hb, hyes, hno⟩ := w
    have J3 : Inv X pins σ H { s' with heap := h3 } := J.landed nb fl.1 up os ag
    obtain ⟨oe3, vs3, he3, hz3, hd3⟩ := fl.there
    obtain ⟨nL, nF⟩ := off_frames (X := X) fl.2.2.1 he3 hd3 hf
    have S3 := J3.suite he3 hd3 na nL nF
    refine wpAny_handleBy_cons (codeAny_handlers_test ?_) (by intro q; cases q)
    have LT : PySem.W.Looks (model X.prog X.w) h3 (typeOf (.ref a)) cls := fun A Q E s k q => wpAny_typeOf_ref (k _ _ he3) (by rw [hz3.1]; exact q)
    have LM := PySem.W.exm_one (M := model X.prog X.w) (J3.kIn) LT hb
    have test : ∀ {Q : Value → Shared → Prop} {E : Value → Shared → Prop}, Q c { s' with heap := h3 } → wpAny (model X.prog X.w) (X.A.mark (some (.ref a))) (eval (.Name x np) X.env) Q E { s' with heap := h3 } := fun {Q E} q => by
      obtain ⟨hg, hdbg, hm | ⟨hm, hv, hnn⟩⟩ := hc
      · exact ld_glob (X := X.suite a ((a, oe3) :: (X.pn ++ pins))) S3 hg hm q hdbg
      · exact ld_blt (X := X.suite a ((a, oe3) :: (X.pn ++ pins))) S3 hg hm hv q hnn hdbg
    refine test (LM.here ?_)
    cases b with
    | false => exact ih (hno rfl)
    | true =>
      refine codeAny_handlers_suite_as ?_
      refine HandSPX.lands_againZ fl fun h4 fl4 up4 => ?_
      have J4 : Inv X pins σ H { s' with heap := h4 } := J.landed nb fl4.1 (up.trans up4) os ag
      obtain ⟨oe4, vs4, he4, hz4, hd4⟩ := fl4.there
      have S4 := J4.suite he4 hd4 na nL nF
      refine store_ok (X := X.suite a ((a, oe4) :: (X.pn ++ pins))) (v := .ref a) S4 hN hi (.inl hl) rfl (fun s5 S5 => ?_) (.inr hl)
      refine wpAny_mono ((hsu a oe4 cls d (X.pn ++ pins) hz4 ⟨_, hd4⟩).run [] s5 _ H _ S5 (hyes rfl a na)) (fun f s6 hsp => ?_) (fun _ _ z => False.elim z)
      cases f with
      | ret u =>
        obtain ⟨v6, σ6, H6, S6, r6, q6⟩ := hsp
        exact gone_ok (S6.unsuite ok) hN hi hl fun s7 J7 => ⟨_, _, _, J7, r6, q6⟩
      | next =>
        obtain ⟨σ6, H6, S6, q6⟩ := hsp
        exact gone_ok (S6.unsuite ok) hN hi hl fun s7 J7 => ⟨_, _, J7, q6⟩
      | brk =>
        obtain ⟨σ6, H6, S6, q6⟩ := hsp
        exact gone_ok (S6.unsuite ok) hN hi hl fun s7 J7 => ⟨_, _, J7, q6⟩
      | cont =>
        obtain ⟨σ6, H6, S6, q6⟩ := hsp
        exact gone_ok (S6.unsuite ok) hN hi hl fun s7 J7 => ⟨_, _, J7, q6⟩
theorem ps_try_asMany {body : List Stmt} {h₀ : ExceptHandler} {hds : List ExceptHandler} {l : List (Value × Nat × (Addr → Value → Option Addr → TS))} {pos : Pos} {tb : WX → TS} (hs : X.stack = X.env :: X.outer) (hf : X.env.frame = some X.env.locals) (hN : X.N.Nodup) (tk : Takes X Wout)
    (hb : ∀ (W : WX) (pn : List (Addr × Obj)) (xe : Value → Shared → Prop), Takes (X.tr pn xe) W → PassesOwn (model X.prog X.w) X.A X.env xe → PSs (X.tr pn xe) body (tb W))
    (hh : HdsAs X (h₀ :: hds) l) : PS X (.Try body (h₀ :: hds) [] [] pos) (fun D σ H => tb (wAsMany X.K Wout D l) D σ H) := by
  refine ⟨fun pins s σ H D I h => wpAny_Try_except ?_⟩
  have ok := I.ok
  have hfr : X.A.frames = some (X.env :: X.outer) := by rw [ok.frames, hs]
  refine wpAny_mono ((hb (wAsMany X.K Wout D l) (X.pn ++ pins) (fun e s₁ => wpAny (model X.prog X.w) X.A (noteFrame e X.env) (fun _ s₂ => wpAny (model X.prog X.w) X.A (setFlight e none) (fun _ s₃ =>
    wpAny (model X.prog X.w) X.A (handleBy e X.env (h₀ :: hds)) (SP X pins D) X.xe s₃) X.xe s₂) X.xe s₁) (fun u s' xx => ?_) PassesOwn.looking).run [] s σ H D (I.toTry _) h) (fun f s1 hsp => ?_) (fun e s1 he => he)
  · obtain ⟨a, B, sI, _, σ', H', cls, d, rfl, J', nb, up, sky, na, os, ag, w⟩ := xx
    rw [hs] at sky
    exact Sky.land Zc.steady hfr hf sky fun h3 fl3 up3 => clauses hs hf hN tk hh (J'.ofTry ok) nb (up.trans up3) fl3 na os ag w
  · cases f with
    | next =>
      obtain ⟨σ', H', J', q⟩ := hsp
      exact wpAny_execs_nil ⟨σ', H', J'.ofTry ok, q⟩
    | brk =>
      obtain ⟨σ', H', J', q⟩ := hsp
      exact ⟨σ', H', J'.ofTry ok, q⟩
    | cont =>
      obtain ⟨σ', H', J', q⟩ := hsp
      exact ⟨σ', H', J'.ofTry ok, q⟩
    | ret u =>
      obtain ⟨v, σ', H', J', r, q⟩ := hsp
      exact ⟨v, σ', H', J'.ofTry ok, r, q⟩
end
end TM14

/-! ### try with several clauses, some with a name, some without -/
namespace TM15
open PySem PySem.Spec PyProof.Rows L2 TM14
/-- what the clauses wish of an exception of the body, one after the other -/
def wMix (K : PySem.W.Frag) (Wout : WX) (D : Ends) : List (Value × Option Nat × (Addr → Value → Option Addr → TS)) → WX
  | [] => Wout
  | (c, some i, ts) :: r => wAs K c i ts (wMix K Wout D r) D
  | (c, none, ts) :: r => wOnly K c ts (wMix K Wout D r) D
inductive HdsMx (X : Cx) : List ExceptHandler → List (Value × Option Nat × (Addr → Value → Option Addr → TS)) → Prop
  | nil : HdsMx X [] []
  | cons {x n : Str} {c : Value} {i : Nat} {ts : Addr → Value → Option Addr → TS} {b : Stmt} {suite : List Stmt} {np pos : Pos} {hds : List ExceptHandler} {l : List (Value × Option Nat × (Addr → Value → Option Addr → TS))}
      (hi : X.N[i]? = some n) (hl : X.env.kindOf n = some .local) (hc : Names X x c)
      (hsu : ∀ (a : Addr) (oe : Obj) (cls : Value) (d : Option Addr) (pn : List (Addr × Obj)), Zc cls d oe → (∃ vs, oe.data = .fields vs) → PSs (X.suite a ((a, oe) :: pn)) (b :: suite) (ts a cls d))
      (r : HdsMx X hds l) : HdsMx X (.ExceptHandler (some (.Name x np)) (some n) (b :: suite) pos :: hds) ((c, some i, ts) :: l)
  | plain {x : Str} {c : Value} {ts : Addr → Value → Option Addr → TS} {b : Stmt} {suite : List Stmt} {np pos : Pos} {hds : List ExceptHandler} {l : List (Value × Option Nat × (Addr → Value → Option Addr → TS))} (hc : Names X x c)
      (hsu : ∀ (a : Addr) (oe : Obj) (cls : Value) (d : Option Addr) (pn : List (Addr × Obj)), Zc cls d oe → (∃ vs, oe.data = .fields vs) → PSs (X.suite a ((a, oe) :: pn)) (b :: suite) (ts a cls d))
      (r : HdsMx X hds l) : HdsMx X (.ExceptHandler (some (.Name x np)) none (b :: suite) pos :: hds) ((c, none, ts) :: l)
section
variable {X : Cx} {pins : List (Addr × Obj)} {D : Ends} {Wout : WX}
/-- the clauses, one after the other -/
theorem clauses (hs : X.stack = X.env :: X.outer) (hf : X.env.frame = some X.env.locals) (hN : X.N.Nodup) (tk : Takes X Wout) {hds : List ExceptHandler} {l : List (Value × Option Nat × (Addr → Value → Option Addr → TS))} (hk : HdsMx X hds l)
    {a : Addr} {B h3 : Heap} {sI s' : Shared} {σ : L2.St} {H : Hp} {cls : Value} {d : Option Addr} (J : Inv X pins σ H sI)
    (nb : ∀ b o, sI.heap.get? b = some o → b ∉ frs X.stack → B.get? b = some o) (up : sI.heap.UpToSlots h3) (fl : HandSPX.FlyingZ B (X.env :: X.outer) a (Zc cls d) h3) (na : H a = none) (os : s'.os = sI.os) (ag : AllBare s'.gens)
    (w : wMix X.K Wout D l cls d σ H) : wpAny (model X.prog X.w) X.A (handleBy (.ref a) X.env hds) (SP X pins D) X.xe { s' with heap := h3 } := by
  have ok := J.ok
  induction hk with
  | nil => exact go_on hs hf tk J nb up fl na os ag w
  | @cons x n c i ts b₀ suite np pos hds l hi hl hc hsu r ih =>
    obtain ⟨b, hb, hyes, hno⟩ := w
    have J3 : Inv X pins σ H { s' with heap := h3 } := J.landed nb fl.1 up os ag
    obtain ⟨oe3, vs3, he3, hz3, hd3⟩ := fl.there
    obtain ⟨nL, nF⟩ := off_frames (X := X) fl.2.2.1 he3 hd3 hf
    have S3 := J3.suite he3 hd3 na nL nF
    refine wpAny_handleBy_cons (codeAny_handlers_test ?_) (by intro q; cases q)
    have LT : PySem.W.Looks (model X.prog X.w) h3 (typeOf (.ref a)) cls := fun A Q E s k q => wpAny_typeOf_ref (k _ _ he3) (by rw [hz3.1]; exact q)
    have LM := PySem.W.exm_one (M := model X.prog X.w) (J3.kIn) LT hb
    have test : ∀ {Q : Value → Shared → Prop} {E : Value → Shared → Prop}, Q c { s' with heap := h3 } → wpAny (model X.prog X.w) (X.A.mark (some (.ref a))) (eval (.Name x np) X.env) Q E { s' with heap := h3 } := fun {Q E} q => by
      obtain ⟨hg, hdbg, hm | ⟨hm, hv, hnn⟩⟩ := hc
      · exact ld_glob (X := X.suite a ((a, oe3) :: (X.pn ++ pins))) S3 hg hm q hdbg
      · exact ld_blt (X := X.suite a ((a, oe3) :: (X.pn ++ pins))) S3 hg hm hv q hnn hdbg
    refine test (LM.here ?_)
    cases b with
    | false => exact ih (hno rfl)
    | true =>
      refine codeAny_handlers_suite_as ?_
      refine HandSPX.lands_againZ fl fun h4 fl4 up4 => ?_
      have J4 : Inv X pins σ H { s' with heap := h4 } := J.landed nb fl4.1 (up.trans up4) os ag
      obtain ⟨oe4, vs4, he4, hz4, hd4⟩ := fl4.there
      have S4 := J4.suite he4 hd4 na nL nF
      refine store_ok (X := X.suite a ((a, oe4) :: (X.pn ++ pins))) (v := .ref a) S4 hN hi (.inl hl) rfl (fun s5 S5 => ?_) (.inr hl)
      refine wpAny_mono ((hsu a oe4 cls d (X.pn ++ pins) hz4 ⟨_, hd4⟩).run [] s5 _ H _ S5 (hyes rfl a na)) (fun f s6 hsp => ?_) (fun _ _ z => False.elim z)
      cases f with
      | ret u =>
        obtain ⟨v6, σ6, H6, S6, r6, q6⟩ := hsp
        exact gone_ok (S6.unsuite ok) hN hi hl fun s7 J7 => ⟨_, _, _, J7, r6, q6⟩
      | next =>
        obtain ⟨σ6, H6, S6, q6⟩ := hsp
        exact gone_ok (S6.unsuite ok) hN hi hl fun s7 J7 => ⟨_, _, J7, q6⟩
      | brk =>
        obtain ⟨σ6, H6, S6, q6⟩ := hsp
        exact gone_ok (S6.unsuite ok) hN hi hl fun s7 J7 => ⟨_, _, J7, q6⟩
      | cont =>
        obtain ⟨σ6, H6, S6, q6⟩ := hsp
        exact gone_ok (S6.unsuite ok) hN hi hl fun s7 J7 => ⟨_, _, J7, q6⟩
  | @plain x c ts b₀ suite np pos hds l hc hsu r ih =>
    obtain ⟨b, hb, hyes, hno⟩ := w
    have J3 : Inv X pins σ H { s' with heap := h3 } := J.landed nb fl.1 up os ag
    obtain ⟨oe3, vs3, he3, hz3, hd3⟩ := fl.there
    obtain ⟨nL, nF⟩ := off_frames (X := X) fl.2.2.1 he3 hd3 hf
    have S3 := J3.suite he3 hd3 na nL nF
    refine wpAny_handleBy_cons (codeAny_handlers_test ?_) (by intro q; cases q)
    have LT : PySem.W.Looks (model X.prog X.w) h3 (typeOf (.ref a)) cls := fun A Q E s k q => wpAny_typeOf_ref (k _ _ he3) (by rw [hz3.1]; exact q)
    have LM := PySem.W.exm_one (M := model X.prog X.w) (J3.kIn) LT hb
    have test : ∀ {Q : Value → Shared → Prop} {E : Value → Shared → Prop}, Q c { s' with heap := h3 } → wpAny (model X.prog X.w) (X.A.mark (some (.ref a))) (eval (.Name x np) X.env) Q E { s' with heap := h3 } := fun {Q E} q => by
      obtain ⟨hg, hdbg, hm | ⟨hm, hv, hnn⟩⟩ := hc
      · exact ld_glob (X := X.suite a ((a, oe3) :: (X.pn ++ pins))) S3 hg hm q hdbg
      · exact ld_blt (X := X.suite a ((a, oe3) :: (X.pn ++ pins))) S3 hg hm hv q hnn hdbg
    refine test (LM.here ?_)
    cases b with
    | false => exact ih (hno rfl)
    | true =>
      refine codeAny_handlers_suite ?_
      refine HandSPX.lands_againZ fl fun h4 fl4 up4 => ?_
      have J4 : Inv X pins σ H { s' with heap := h4 } := J.landed nb fl4.1 (up.trans up4) os ag
      obtain ⟨oe4, vs4, he4, hz4, hd4⟩ := fl4.there
      have S4 := J4.suite he4 hd4 na nL nF
      refine wpAny_mono ((hsu a oe4 cls d (X.pn ++ pins) hz4 ⟨_, hd4⟩).run [] _ _ H _ S4 (hyes rfl a na)) (fun f s6 hsp => ?_) (fun _ _ z => False.elim z)
      cases f with
      | next =>
        obtain ⟨σ6, H6, S6, q6⟩ := hsp
        exact ⟨_, _, S6.unsuite ok, q6⟩
      | brk =>
        obtain ⟨σ6, H6, S6, q6⟩ := hsp
        exact ⟨_, _, S6.unsuite ok, q6⟩
      | cont =>
        obtain ⟨σ6, H6, S6, q6⟩ := hsp
        exact ⟨_, _, S6.unsuite ok, q6⟩
      | ret u =>
        obtain ⟨v6, σ6, H6, S6, r6, q6⟩ := hsp
        exact ⟨_, _, _, S6.unsuite ok, r6, q6⟩
theorem ps_try_mix {body : List Stmt} {h₀ : ExceptHandler} {hds : List ExceptHandler} {l : List (Value × Option Nat × (Addr → Value → Option Addr → TS))} {pos : Pos} {tb : WX → TS} (hs : X.stack = X.env :: X.outer) (hf : X.env.frame = some X.env.locals) (hN : X.N.Nodup) (tk : Takes X Wout)
    (hb : ∀ (W : WX) (pn : List (Addr × Obj)) (xe : Value → Shared → Prop), Takes (X.tr pn xe) W → PassesOwn (model X.prog X.w) X.A X.env xe → PSs (X.tr pn xe) body (tb W))
    (hh : HdsMx X (h₀ :: hds) l) : PS X (.Try body (h₀ :: hds) [] [] pos) (fun D σ H => tb (wMix X.K Wout D l) D σ H) := by
  refine ⟨fun pins s σ H D I h => wpAny_Try_except ?_⟩
  have ok := I.ok
  have hfr : X.A.frames = some (X.env :: X.outer) := by rw [ok.frames, hs]
  refine wpAny_mono ((hb (wMix X.K Wout D l) (X.pn ++ pins) (fun e s₁ => wpAny (model X.prog X.w) X.A (noteFrame e X.env) (fun _ s₂ => wpAny (model X.prog X.w) X.A (setFlight e none) (fun _ s₃ =>
    wpAny (model X.prog X.w) X.A (handleBy e X.env (h₀ :: hds)) (SP X pins D) X.xe s₃) X.xe s₂) X.xe s₁) (fun u s' xx => ?_) PassesOwn.looking).run [] s σ H D (I.toTry _) h) (fun f s1 hsp => ?_) (fun e s1 he => he)
  · obtain ⟨a, B, sI, _, σ', H', cls, d, rfl, J', nb, up, sky, na, os, ag, w⟩ := xx
    rw [hs] at sky
    exact Sky.land Zc.steady hfr hf sky fun h3 fl3 up3 => clauses hs hf hN tk hh (J'.ofTry ok) nb (up.trans up3) fl3 na os ag w
  · cases f with
    | next =>
      obtain ⟨σ', H', J', q⟩ := hsp
      exact wpAny_execs_nil ⟨σ', H', J'.ofTry ok, q⟩
    | brk =>
      obtain ⟨σ', H', J', q⟩ := hsp
      exact ⟨σ', H', J'.ofTry ok, q⟩
    | cont =>
      obtain ⟨σ', H', J', q⟩ := hsp
      exact ⟨σ', H', J'.ofTry ok, q⟩
    | ret u =>
      obtain ⟨v, σ', H', J', r, q⟩ := hsp
      exact ⟨v, σ', H', J'.ofTry ok, r, q⟩
end
end TM15
/-! ### exceptions as values: made with nothing, asked for their class, their fields -/
namespace EX15
open PySem PySem.Spec PyProof.Rows L2
/-- C() as a value, C an exception class with its own __init__ that takes nothing -/
def tNewE0 (C : Addr) : TE := fun _ H Q => ∀ a, H a = none → Q (.ref a) (upd H a (exo a C none))
theorem pe_newE0 {X : Cx} {CX : CXT} {x : Str} {C fI : Addr} {k : Nat} {fd : FuncData} {sp : Sp} {p pos : Pos} (T : OexC X.K C) (iC : PySem.W.findIn X.K (.ref C) "__init__" = some (some (.ref fI))) (tI : PySem.W.typeIn X.K (.ref fI) = some (.type "function"))
    (F1 : FnOk X.prog X.w X.K X.mg X.base CX k fI fd ["self"] sp) (hsp : ∀ (a : Addr) (H : Hp) (Q : VK) (E : XK), Q .non H → sp [.ref a] H Q E) (hr : Room (k + 1) X.A) (hb : Binds X.K fd ["self"] []) (hx : Passes CX X (fun _ _ _ => False)) (hg : Gl X x) (hm : X.mg x = some (.ref C))
    (hdb : (x == ("__debug__" : Str)) = false := by decide) : PE X (.Call (.Name x p) [] [] pos) (tNewE0 C) := by
  refine ⟨fun pins s σ H Q I h => ?_⟩
  obtain ⟨nm, q, N, bs, bm, sn, sub, ab, col, dd, k0, k1, k2, k3, k5, hC, hbm⟩ := T.cls
  refine wpAny_Call_Name_kw (ld_glob I hg hm ?_ hdb)
  refine PySem.W.callWith_K0 I.kIn T.kC ?_
  show wpAny _ _ (call (.ref C) []) _ _ _
  obtain ⟨hp, g, dr, tk, os⟩ := s
  have hsz : hp.objs.size ≤ hp.objs.size + 1 := Nat.le_succ _
  have hn : H (hp.objs.size + 1) = none := I.hok.fresh hsz
  have kk : ∀ b o, hp.get? b = some o → ((hp.push (PySem.W.kdv_tup [])).push (PySem.HandSPX.excO C hp.objs.size)).get? b = some o := fun b o e => Heap.get?_push_of_some _ (Heap.get?_push_of_some _ e)
  have hget : ((hp.push (PySem.W.kdv_tup [])).push (PySem.HandSPX.excO C hp.objs.size)).get? (hp.objs.size + 1) = some (PySem.HandSPX.excO C hp.objs.size) := by heap_get
  have I2 : Inv X pins σ (upd H (hp.objs.size + 1) (exo (hp.objs.size + 1) C none)) ⟨(hp.push (PySem.W.kdv_tup [])).push (PySem.HandSPX.excO C hp.objs.size), g, dr, tk, os⟩ :=
    I.laid (t' := tk) (a := hp.objs.size + 1) (o := exo (hp.objs.size + 1) C none) (h' := (hp.push (PySem.W.kdv_tup [])).push (PySem.HandSPX.excO C hp.objs.size)) kk hsz (exo_ok hget)
  have r2 : Vals [V.ref (hp.objs.size + 1)] [Value.ref (hp.objs.size + 1)] := .cons rfl .nil
  refine wpAny_call (PySem.HandSPX.call_own F.excBase_ValueError (fun Y => PySem.HandSPX.refsVE_contains Y bm hbm) (I.kIn _ _ hC) (PySem.W.looks_findIn I.kIn iC) (fun self => PySem.W.bind_fn I.kIn self tI) (Nat.zero_le _)
    (codeAny_mono (F1.run _ X.stack _ _ ⟨[Value.ref (hp.objs.size + 1)], []⟩ [Value.ref (hp.objs.size + 1)] _ (fun v H3 => v = .non ∧ Q (.ref (hp.objs.size + 1)) H3) (fun _ _ _ => False) (hr.make C [] []) (I2.env0.make C [] []) (hb _ [Value.ref (hp.objs.size + 1)] I2.kIn rfl) r2 (hsp _ _ _ _ ⟨rfl, h _ hn⟩)) fun r s' hq' => ?_))
  cases r with
  | error er => exact hx pins σ _ _ er s' I2 hq'
  | ok fl =>
    cases fl with
    | ret u =>
      obtain ⟨v, H', I3, rv, ev, q3⟩ := I2.after hq'
      subst ev
      exact ⟨rv, ⟨V.ref (hp.objs.size + 1), H', I3, rfl, q3⟩⟩
    | next => exact False.elim hq'
    | brk => exact False.elim hq'
    | cont => exact False.elim hq'
/-- isinstance(e, c), e an exception of an own class that stands in the heap, with its dict or without -/
def rIsG (K : PySem.W.Frag) : List V → Hp → VK → Prop := fun xs H Q => ∃ (C a : Addr) (d : Option Addr) (c : V) (cv : Value) (b : Bool), xs = [.ref a, c] ∧ ExcC K C ∧ H a = some (exo a C d) ∧ (∀ dd, d = some dd → ∃ fs, H dd = some (exd dd fs)) ∧ ClsV c cv ∧ PySem.W.kitOne K (.ref C) cv = some b ∧ Q (.bl b) H
theorem call_isG {X : Cx} : CallR X (.builtin "isinstance") (rIsG X.K) := by
  intro pins s σ H xs us Q I r h
  obtain ⟨C, a, d, c, cv, b, rfl, E, ea, ed, k, e, q⟩ := h
  obtain ⟨u1, u2, rfl, r1, r2⟩ := vals2 r
  have e2 := k.eq r2
  subst e2
  cases (show u1 = Value.ref a from r1)
  obtain ⟨⟨t1, hget⟩, _⟩ := I.hok a _ ea
  obtain ⟨cd, hcD, _⟩ := PySem.W.any_some E.hd
  cases d with
  | none =>
    have J : PySem.W.InstAt s.heap a ({ cls := .ref C, dict := none, data := .fields #[.ref t1, .none, .none, .none, .bool false, .none] } : Obj) C none := ⟨hget, rfl, rfl, trivial⟩
    exact PySem.W.kia_one (PySem.W.kitx_exc (by rw [hcD]; rfl) E.hg E.hk E.hs E.ha E.hn E.ht E.hm) I.kIn J e (fun z => nomatch z) fun tk => ⟨.bl b, H, I.tok tk, rfl, q⟩
  | some dd =>
    obtain ⟨fs, edd⟩ := ed dd rfl
    obtain ⟨⟨mA, hns, _⟩, _⟩ := I.hok dd _ edd
    obtain ⟨od, ho, _⟩ := lookIn_ns hns
    have J : PySem.W.InstAt s.heap a ({ cls := .ref C, dict := some dd, data := .fields #[.ref t1, .none, .none, .none, .bool false, .none] } : Obj) C (some od) := ⟨hget, rfl, rfl, ho⟩
    exact PySem.W.kia_one (PySem.W.kitx_exc (by rw [hcD]; rfl) E.hg E.hk E.hs E.ha E.hn E.ht E.hm) I.kIn J e (fun z => nomatch z) fun tk => ⟨.bl b, H, I.tok tk, rfl, q⟩
/-- e.f, e an exception of an own class that stands in the heap with its dict -/
def tXg (K : PySem.W.Frag) (f : Str) (te : TE) : TE := fun σ H Q => te σ H fun x H1 => ∃ (C a d : Addr) (fs : List (Str × V)) (v : V), x = .ref a ∧ XfC K C ∧ PySem.W.findIn K (.ref C) f = some none ∧ H1 a = some (exo a C (some d)) ∧ H1 d = some (exd d fs) ∧ fs.lookup f = some v ∧ Q v H1
theorem pe_xg {X : Cx} {e : Expr} {te : TE} {pos : Pos} {f : Str} (he : PE X e te) (hb : attributeBase e f X.env (eval e X.env) = eval e X.env := by rfl) : PE X (.Attribute e f pos) (tXg X.K f te) := by
  refine ⟨fun pins s σ H Q I h => ?_⟩
  refine attr_of hb (thn (he.run pins s σ H _ I h) fun u s1 hh => ?_)
  obtain ⟨x, H1, I1, rx, C, a, d, fs, v, ex, T, hno, ea, ed, l, q⟩ := hh
  subst ex
  obtain rfl : u = Value.ref a := rx
  obtain ⟨⟨t1, hget⟩, _⟩ := I1.hok a _ ea
  obtain ⟨⟨mA, hns, hr⟩, _⟩ := I1.hok d _ ed
  obtain ⟨od, ho, hl⟩ := lookIn_ns hns
  obtain ⟨u, hu, ru⟩ := RelO.some_of (v := v) (o := mA f) (by rw [← l]; exact hr f)
  have J : PySem.W.InstAt s1.heap a ({ cls := .ref C, dict := some d, data := .fields #[.ref t1, .none, .none, .none, .bool false, .none] } : Obj) C (some od) := ⟨hget, rfl, rfl, ho⟩
  exact HandSPX.exc_get I1.kIn J T.ga T.gg T.exC (PySem.W.findObj_own T.hdC hno rfl (by rw [hl, hu])) (handed_of ru) ⟨v, H1, I1.tok _, ru, q⟩
/-- an own exception class whose base stands at le and is no base of others here -/
structure XcO (K : PySem.W.Frag) (le c : Addr) : Prop where
  lk : ∃ nm q N bs sn sub ab col dd k0 k1 k2 k3 k5, K.lookup c = some (excClassObj nm q c N bs [.ref le, .type "ValueError", .type "Exception", .type "BaseException", .type "object"] true sn sub ab col dd k0 k1 k2 k3 k5 "ValueError.__new__")
  ty : PySem.W.typeIn K (.ref c) = some (.type "type")
  ec : ExcC K c
def AllX (K : PySem.W.Frag) (le : Addr) : List Addr → Prop
  | [] => True
  | c :: r => XcO K le c ∧ AllX K le r
theorem AllX.mem {K : PySem.W.Frag} {le : Addr} : ∀ {cs : List Addr}, AllX K le cs → ∀ c ∈ cs, XcO K le c
  | [], _, _, h => by cases h
  | c :: r, ⟨h, hr⟩, d, hd => by
    rcases List.mem_cons.mp hd with rfl | hd
    · exact h
    · exact AllX.mem hr d hd
/-- own exception classes of one base, none under another -/
structure Kts (K : PySem.W.Frag) (le : Addr) (cs : List Addr) : Prop where
  one : ∀ (i j : Nat) (a b : Addr), cs[i]? = some a → cs[j]? = some b → PySem.W.kitOne K (.ref a) (.ref b) = some (decide (i = j))
  bas : ∀ (i : Nat) (a : Addr), cs[i]? = some a → PySem.W.kitOne K (.ref a) (.ref le) = some true
  ve : ∀ (i : Nat) (a : Addr), cs[i]? = some a → PySem.W.kitOne K (.ref a) (.type "ValueError") = some true
  ec : ∀ (i : Nat) (a : Addr), cs[i]? = some a → ExcC K a
theorem cls_at {K : PySem.W.Frag} {le c : Addr} (h : XcO K le c) : ∃ cd : ClassData, PySem.W.clsIn K c = some cd ∧ cd.mro = [.ref c, .ref le, .type "ValueError", .type "Exception", .type "BaseException", .type "object"] := by
  obtain ⟨nm, q, N, bs, sn, sub, ab, col, dd, k0, k1, k2, k3, k5, e⟩ := h.lk
  unfold PySem.W.clsIn
  rw [e]
  exact ⟨_, rfl, rfl⟩
theorem sub_at {K : PySem.W.Frag} {le c : Addr} (h : XcO K le c) (v : Value) : PySem.W.subIn K (.ref c) v = some (([.ref c, .ref le, .type "ValueError", .type "Exception", .type "BaseException", .type "object"] : List Value).contains v) := by
  obtain ⟨cd, e, m⟩ := cls_at h
  show PySem.W.mroIn K c v = _
  unfold PySem.W.mroIn
  rw [e]
  show (if cd.mro.isEmpty = true then none else some (cd.mro.contains v)) = _
  rw [m]
  rfl
theorem ref_ne {a b : Addr} (h : a ≠ b) : (Value.ref a == Value.ref b) = false := by
  have : ¬ (Value.ref a == Value.ref b) = true := fun z => h (by
    have := eq_of_beq z
    injection this)
  simpa using this
theorem nodup_inj {cs : List Addr} (nd : cs.Nodup) {i j : Nat} (hi : i < cs.length) (hj : j < cs.length) (h : cs[i] = cs[j]) : i = j := by
  rcases Nat.lt_trichotomy i j with c | c | c
  · exact absurd h (List.pairwise_iff_getElem.mp nd i j hi hj c)
  · exact c
  · exact absurd h.symm (List.pairwise_iff_getElem.mp nd j i hj hi c)
theorem kts_of {K : PySem.W.Frag} {le : Addr} {cs : List Addr} (h : AllX K le cs) (nd : cs.Nodup) (nl : le ∉ cs) (lc : PySem.W.isClsIn K le = true) (lt : PySem.W.typeIn K (.ref le) = some (.type "type")) : Kts K le cs := by
  have m : ∀ {i : Nat} {a : Addr}, cs[i]? = some a → a ∈ cs := fun e => List.mem_of_getElem? e
  refine ⟨fun i j a b ei ej => ?_, fun i a ei => ?_, fun i a ei => ?_, fun i a ei => (h.mem a (m ei)).ec⟩
  · have ha := h.mem a (m ei)
    have hb := h.mem b (m ej)
    obtain ⟨cb, eb, _⟩ := cls_at hb
    have lb : PySem.W.isClsIn K b = true := by
      unfold PySem.W.isClsIn
      rw [eb]
      rfl
    by_cases z : i = j
    · subst z
      cases Option.some.inj (ei.symm.trans ej)
      rw [decide_eq_true rfl]
      refine EX6.kit_own ?_ lb hb.ty
      rw [sub_at ha]
      rw [List.contains_cons, show (Value.ref a == Value.ref a) = true from by simp, Bool.true_or]
    · rw [decide_eq_false z]
      have ne : a ≠ b := fun q => z (by
        subst q
        obtain ⟨hi, qi⟩ := List.getElem?_eq_some_iff.mp ei
        obtain ⟨hj, qj⟩ := List.getElem?_eq_some_iff.mp ej
        exact nodup_inj nd hi hj (qi.trans qj.symm))
      have nle : le ≠ b := fun q => nl (q ▸ m ej)
      refine EX6.kit_ownN ?_ lb hb.ty (ref_ne ne)
      rw [sub_at ha]
      rw [List.contains_cons, List.contains_cons, ref_ne (Ne.symm ne), ref_ne (Ne.symm nle)]
      rfl
  · have ha := h.mem a (m ei)
    refine EX6.kit_own ?_ lc lt
    rw [sub_at ha]
    rw [List.contains_cons, List.contains_cons, show (Value.ref le == Value.ref le) = true from by simp, Bool.true_or, Bool.or_true]
  · have ha := h.mem a (m ei)
    show (if (Value.ref a == Value.type "ValueError") = true then some true else if PySem.W.kitMeta "ValueError" = true then PySem.W.subIn K (.ref a) (.type "ValueError") else none) = some true
    rw [if_neg (show ¬ (Value.ref a == Value.type "ValueError") = true from fun z => nomatch (eq_of_beq z)), if_pos (by decide +kernel), sub_at ha]
    rw [List.contains_cons, List.contains_cons, List.contains_cons, show (Value.type "ValueError" == Value.type "ValueError") = true from by decide +kernel, Bool.true_or, Bool.or_true, Bool.or_true]
/-- isinstance(x, c), the frame named -/
theorem call_isiN {X : Cx} {K : PySem.W.Frag} (h : X.K = K) : CallR X (.builtin "isinstance") (rIsi K) := by
  subst h
  exact call_isi
/-- a thing that is equal to itself: flat, or one object -/
def Sm (v : V) : Prop := flatB v = true ∨ ∃ a, v = .ref a
theorem sm_eq {A : Around} {s : Shared} {v : V} (h : Sm v) {u w : Value} (r : RelV v u) (r' : RelV v w) : SeqAt.EqAt A s u w true := by
  rcases h with f | ⟨a, rfl⟩
  · exact eqAt_same r r' f
  · cases (show u = Value.ref a from r)
    cases (show w = Value.ref a from r')
    exact SeqAt.EqAt.same _
theorem sm_all {A : Around} {s : Shared} : ∀ {xs : List V}, (∀ v ∈ xs, Sm v) → ∀ {us ws : List Value}, Vals xs us → Vals xs ws → ∀ j (h1 : j < us.length) (h2 : j < ws.length), SeqAt.EqAt A s us[j] ws[j] true
  | [], _, us, ws, r1, _, j, h1, _ => by
    cases r1
    exact absurd h1 (Nat.not_lt_zero j)
  | x :: xs, h, us, ws, r1, r2, j, h1, h2 => by
    cases r1 with
    | cons a1 b1 =>
      cases r2 with
      | cons a2 b2 =>
        cases j with
        | zero => exact sm_eq (h x List.mem_cons_self) a1 a2
        | succ j => exact sm_all (fun v hv => h v (List.mem_cons_of_mem _ hv)) b1 b2 j (Nat.lt_of_succ_lt_succ h1) (Nat.lt_of_succ_lt_succ h2)
/-- xs != ys, two lists of the same things -/
def rNeS (K : PySem.W.Frag) : R2 := fun x y H Q => ∃ a b xs, x = .ref a ∧ y = .ref b ∧ SqL K H a xs ∧ SqL K H b xs ∧ (∀ v ∈ xs, Sm v) ∧ Q (.bl false) H
theorem op_neS {X : Cx} (hu : X.A.units + 64 < cLine) : OpR X (compareOp .NotEq) (rNeS X.K) := by
  intro pins s σ H x y v u Q I rx ry h
  obtain ⟨a, b, xs, rfl, rfl, ha, hb, sm, q⟩ := h
  cases (show v = Value.ref a from rx)
  cases (show u = Value.ref b from ry)
  obtain ⟨us, r1, p1, _⟩ := I.list ha
  obtain ⟨ws, r2, p2, _⟩ := I.list hb
  have hsz : us.toArray.size = ws.toArray.size := by
    rw [List.size_toArray, List.size_toArray, ← r1.length, ← r2.length]
  have t := SeqAt.RcNeAt.lists (A := X.A) (e := fun _ => true) p1.isList p2.isList hsz (by omega) (fun j h1 h2 => by
    have k := sm_all (A := X.A.in1) (s := s) sm r1 r2 j (by simpa using h1) (by simpa using h2)
    simpa using k)
  rw [show ((List.range us.toArray.size).all fun _ => true) = true from List.all_eq_true.mpr fun _ _ => rfl] at t
  exact t X.prog X.w _ _ ⟨.bl false, H, I, rfl, q⟩
/-- the same thing, or two tuples of the same things -/
def EqS (K : PySem.W.Frag) (H : Hp) (x y : V) : Prop := (x = y ∧ Sm x) ∨ ∃ a b xs, x = .ref a ∧ y = .ref b ∧ SqT K H a xs ∧ SqT K H b xs ∧ ∀ v ∈ xs, Sm v
theorem eqS_run {X : Cx} {pins : List (Addr × Obj)} {σ : L2.St} {H : Hp} {s : Shared} (I : Inv X pins σ H s) {A : Around} (hu : A.units < cLine) (x y : V) (v u : Value) (h : EqS X.K H x y) (rx : RelV x v) (ry : RelV y u) : SeqAt.EqP X.prog X.w A s v u true := by
  rcases h with ⟨rfl, sm⟩ | ⟨a, b, xs, rfl, rfl, ha, hb, sm⟩
  · exact (sm_eq sm rx ry).eqP
  · cases (show v = Value.ref a from rx)
    cases (show u = Value.ref b from ry)
    by_cases e : a = b
    · subst e
      exact (SeqAt.EqAt.same _).eqP
    · obtain ⟨us, r1, p1, _⟩ := I.tuple ha
      obtain ⟨ws, r2, p2, _⟩ := I.tuple hb
      have hsz : us.toArray.size = ws.toArray.size := by
        rw [List.size_toArray, List.size_toArray, ← r1.length, ← r2.length]
      refine SeqAt.eqP_refs e fun E Q q => ?_
      refine (SeqAt.RcAt.tuples (e := fun _ => true) p1 p2 hu fun j h1 h2 => ?_) X.prog X.w E Q ?_
      · have k := sm_all (A := A.in1) (s := s) sm r1 r2 j (by simpa using h1) (by simpa using h2)
        simpa using k
      · rw [hsz, show ((List.range (min ws.toArray.size ws.toArray.size)).all fun _ => true) = true from List.all_eq_true.mpr fun _ _ => rfl]
        simpa using q
/-- xs == ys, two lists of things that are the same or tuples of the same -/
def rEqS (K : PySem.W.Frag) : R2 := fun x y H Q => ∃ a b xs ys, x = .ref a ∧ y = .ref b ∧ SqL K H a xs ∧ SqL K H b ys ∧ Paired (EqS K H) xs ys ∧ Q (.bl true) H
theorem op_eqS {X : Cx} (hu : X.A.units + 64 < cLine) : OpR X (compareOp .Eq) (rEqS X.K) := by
  intro pins s σ H x y v u Q I rx ry h
  obtain ⟨a, b, xs, ys, rfl, rfl, ha, hb, hp, q⟩ := h
  cases (show v = Value.ref a from rx)
  cases (show u = Value.ref b from ry)
  obtain ⟨us, r1, p1, _⟩ := I.list ha
  obtain ⟨ws, r2, p2, _⟩ := I.list hb
  have hsz : us.toArray.size = ws.toArray.size := by
    rw [List.size_toArray, List.size_toArray, ← r1.length, ← r2.length]
    exact Paired.length hp
  refine SeqAt.rcP_lists (A := X.A) (e := fun _ => true) p1.isList p2.isList hsz (by omega) (fun j h1 h2 => ?_) _ _ ?_
  · have k := items_run (eqS_run I (A := X.A.in1) (by show X.A.units + 1 < cLine; omega)) hp r1 r2 j (by simpa using h1) (by simpa using h2)
    simpa using k
  · rw [show ((List.range us.toArray.size).all fun _ => true) = true from List.all_eq_true.mpr fun _ _ => rfl]
    exact ⟨.bl true, H, I, rfl, q⟩
end EX15

/-! ### digits: taken from the longest loop on -/
namespace Dg
open LS13
theorem perm_uniq {α : Type} {r : α → α → Prop} (anti : ∀ a b, r a b → r b a → a = b) : ∀ {l m : List α}, l.Perm m → l.Pairwise r → m.Pairwise r → l = m
  | [], m, p, _, _ => (List.nil_perm.mp p).symm
  | x :: l, [], p, _, _ => absurd p.length_eq (by simp)
  | x :: l, y :: m, p, a, b => by
    have a' := List.pairwise_cons.mp a
    have b' := List.pairwise_cons.mp b
    have e : x = y := by
      have hx : x ∈ y :: m := p.mem_iff.mp List.mem_cons_self
      have hy : y ∈ x :: l := p.mem_iff.mpr List.mem_cons_self
      rcases List.mem_cons.mp hx with e | hx
      · exact e
      · rcases List.mem_cons.mp hy with e | hy
        · exact e.symm
        · exact anti _ _ (a'.1 y hy) (b'.1 x hx)
    subst e
    rw [perm_uniq anti (p.cons_inv) a'.2 b'.2]
def at_ (ls : List Int) (i : Int) : Int := ls.getD i.toNat 0
theorem lexle_anti (ls : List Int) (i j : Int) (h1 : lexle ls i j) (h2 : lexle ls j i) : i = j := by
  unfold lexle at h1 h2
  omega
def Ord (ls os : List Int) : Prop := os.Perm (rgI ls.length) ∧ os.Pairwise (lexle ls)
theorem Ord.uniq {ls os os' : List Int} (h : Ord ls os) (h' : Ord ls os') : os = os' := perm_uniq (lexle_anti ls) (h.1.trans h'.1.symm) h.2 h'.2
theorem Ord.ex (ls : List Int) : ∃ os, Ord ls os := ⟨_, List.mergeSort_perm _ _, sorted_pw ls (rgI ls.length)⟩
theorem rgI_nodup (n : Nat) : (rgI n).Nodup := by
  unfold rgI
  exact List.pairwise_map.mpr (List.nodup_range.imp fun {a b} h e => h (by omega))
theorem Ord.nodup {ls os : List Int} (h : Ord ls os) : os.Nodup := h.1.nodup_iff.mpr (rgI_nodup _)
theorem rgI_len (n : Nat) : (rgI n).length = n := by
  unfold rgI
  rw [List.length_map, List.length_range]
theorem Ord.len {ls os : List Int} (h : Ord ls os) : os.length = ls.length := h.1.length_eq.trans (rgI_len _)
theorem Ord.mem {ls os : List Int} (h : Ord ls os) {o : Int} (ho : o ∈ os) : 0 ≤ o ∧ o < ls.length := by
  have := h.1.mem_iff.mp ho
  unfold rgI at this
  obtain ⟨i, hi, rfl⟩ := List.mem_map.mp this
  have := List.mem_range.mp hi
  omega
theorem at_rg (ls : List Int) : (rgI ls.length).map (at_ ls) = ls := by
  unfold rgI
  rw [List.map_map]
  apply List.ext_getElem?
  intro i
  rw [List.getElem?_map]
  rcases Nat.lt_or_ge i ls.length with h | h
  · rw [List.getElem?_range h, List.getElem?_eq_getElem h]
    show some (ls.getD ((i : Int)).toNat 0) = _
    rw [Int.toNat_natCast, List.getD_eq_getElem?_getD, List.getElem?_eq_getElem h]
    rfl
  · rw [List.getElem?_eq_none (by rw [List.length_range]; exact h), List.getElem?_eq_none h]
    rfl
theorem Ord.vals {ls os : List Int} (h : Ord ls os) : os.map (at_ ls) = Rch.isort ls := by
  refine Rch.isort_of ?_ ?_
  · have := h.1.map (at_ ls)
    rw [at_rg] at this
    exact this
  · rw [List.pairwise_map]
    refine h.2.imp fun {a b} z => ?_
    unfold lexle at z
    unfold at_
    omega
/-- each is at most one more than all ahead of it -/
def Gr (ls us : List Int) : Prop := ∀ a o b, us = a ++ o :: b → 1 ≤ at_ ls o ∧ at_ ls o ≤ (a.map (at_ ls)).sum + 1
theorem ch_gr : ∀ (r : List Int) (p T : Int), Db.chB p r = true → 2 * p ≤ T + 1 → ∀ a o b, r = a ++ o :: b → o ≤ T + a.sum + 1
  | [], _, _, _, _, a, o, b, e => by
    have := congrArg List.length e
    simp at this
  | l :: r, p, T, h, hp, a, o, b, e => by
    have h2 : (decide (l ≤ 2 * p) && Db.chB l r) = true := h
    rw [Bool.and_eq_true] at h2
    have h3 := of_decide_eq_true h2.1
    cases a with
    | nil =>
      have e' : l = o := by
        injection e
      subst e'
      show l ≤ T + 0 + 1
      omega
    | cons x a =>
      injection e with e1 e2
      subst e1
      have := ch_gr r l (T + l) h2.2 (by omega) a o b e2
      rw [List.sum_cons]
      omega
theorem gr_of {ls os : List Int} (h : Ord ls os) (g : Rch.Good ls) (d : Db.dbl ls = true) : Gr ls os := by
  intro a o b e
  have ho : o ∈ os := by rw [e]; simp
  have hm := h.mem ho
  have h1 : at_ ls o ∈ ls := by
    unfold at_
    rw [List.getD_eq_getElem?_getD, List.getElem?_eq_getElem (show o.toNat < ls.length by omega)]
    exact List.getElem_mem _
  refine ⟨(g.2.2 _ h1).1, ?_⟩
  have v := h.vals
  have d' : Db.isD (Rch.isort ls) = true := d
  rw [← v] at d'
  have e2 : os.map (at_ ls) = a.map (at_ ls) ++ at_ ls o :: b.map (at_ ls) := by
    rw [e, List.map_append, List.map_cons]
  cases hv : os.map (at_ ls) with
  | nil =>
    rw [hv] at d'
    cases d'
  | cons x r =>
    rw [hv] at d' e2
    have d2 : (decide (x = 1) && Db.chB x r) = true := d'
    rw [Bool.and_eq_true] at d2
    have hx := of_decide_eq_true d2.1
    cases ha : a.map (at_ ls) with
    | nil =>
      rw [ha] at e2
      injection e2 with e3 _
      show at_ ls o ≤ 0 + 1
      omega
    | cons y a' =>
      rw [ha] at e2
      injection e2 with e3 e4
      have := ch_gr r x 1 d2.2 (by omega) a' _ _ e4
      rw [List.sum_cons]
      omega
theorem Gr.init {ls a b : List Int} (h : Gr ls (a ++ b)) : Gr ls a := fun x o y e => h x o (y ++ b) (by rw [e]; simp)
/-- the walk from the longest on -/
def tk (ls : List Int) : List Int → Int → List Int
  | [], _ => []
  | o :: r, l => if at_ ls o ≤ l then o :: tk ls r (l - at_ ls o) else tk ls r l
theorem tk_sub (ls : List Int) : ∀ (r : List Int) (l : Int), (tk ls r l).Sublist r
  | [], _ => .slnil
  | o :: r, l => by
    unfold tk
    split
    · exact (tk_sub ls r _).cons_cons o
    · exact (tk_sub ls r _).cons o
theorem tk_le (ls : List Int) : ∀ (r : List Int) (l : Int), 0 ≤ l → ((tk ls r l).map (at_ ls)).sum ≤ l
  | [], l, h => h
  | o :: r, l, h => by
    unfold tk
    split
    · rename_i c
      have := tk_le ls r (l - at_ ls o) (by omega)
      rw [List.map_cons, List.sum_cons]
      omega
    · exact tk_le ls r l h
theorem tk_sum (ls : List Int) : ∀ (n : Nat) (us : List Int) (l : Int), us.length = n → Gr ls us → 0 ≤ l → l ≤ (us.map (at_ ls)).sum → ((tk ls us.reverse l).map (at_ ls)).sum = l
  | 0, us, l, hn, _, h0, h1 => by
    rw [List.length_eq_zero_iff.mp hn] at h1 ⊢
    have h1 : l ≤ 0 := h1
    show (0 : Int) = l
    omega
  | n + 1, us, l, hn, g, h0, h1 => by
    obtain ⟨a, o, rfl⟩ : ∃ a o, us = a ++ [o] := ⟨us.dropLast, us.getLast (by intro z; rw [z] at hn; cases hn), (List.dropLast_concat_getLast _).symm⟩
    have g' := g a o [] rfl
    rw [List.map_append, List.sum_append] at h1
    have e1 : ([o].map (at_ ls)).sum = at_ ls o := by
      show at_ ls o + 0 = _
      omega
    rw [e1] at h1
    rw [List.reverse_append]
    show ((tk ls (o :: a.reverse) l).map (at_ ls)).sum = l
    have ha : a.length = n := by simpa using hn
    unfold tk
    split
    · rename_i c
      rw [List.map_cons, List.sum_cons, tk_sum ls n a _ ha g.init (by omega) (by omega)]
      omega
    · rename_i c
      exact tk_sum ls n a _ ha g.init h0 (by omega)
theorem tk_app (ls : List Int) : ∀ (x y : List Int) (l : Int), tk ls (x ++ y) l = tk ls x l ++ tk ls y (l - ((tk ls x l).map (at_ ls)).sum)
  | [], y, l => by
    show tk ls y l = tk ls y (l - 0)
    rw [Int.sub_zero]
  | o :: x, y, l => by
    show (if at_ ls o ≤ l then o :: tk ls (x ++ y) (l - at_ ls o) else tk ls (x ++ y) l) = _
    have e : tk ls (o :: x) l = if at_ ls o ≤ l then o :: tk ls x (l - at_ ls o) else tk ls x l := rfl
    rw [e]
    split
    · rw [tk_app ls x y, List.map_cons, List.sum_cons, List.cons_append]
      rw [show l - at_ ls o - ((tk ls x (l - at_ ls o)).map (at_ ls)).sum = l - (at_ ls o + ((tk ls x (l - at_ ls o)).map (at_ ls)).sum) by omega]
    · rw [tk_app ls x y]
/-- a part of a list without doubles is found again in it -/
theorem sub_filter : ∀ {row os : List Int}, row.Sublist os → os.Nodup → os.filter (fun k => decide (k ∈ row)) = row := by
  intro row os h
  induction h with
  | slnil => intro _; rfl
  | @cons l1 l2 a s ih =>
    intro nd
    have nd' := List.nodup_cons.mp nd
    have na : a ∉ l1 := fun z => nd'.1 (s.mem z)
    rw [List.filter_cons, if_neg (by rw [decide_eq_true_iff]; exact na)]
    exact ih nd'.2
  | @cons_cons l1 l2 a s ih =>
    intro nd
    have nd' := List.nodup_cons.mp nd
    rw [List.filter_cons, if_pos (by rw [decide_eq_true_iff]; exact List.mem_cons_self)]
    have e : l2.filter (fun k => decide (k ∈ a :: l1)) = l2.filter (fun k => decide (k ∈ l1)) := by
      refine List.filter_congr fun x hx => ?_
      have : x ≠ a := fun z => nd'.1 (by rw [← z]; exact hx)
      exact decide_eq_decide.mpr ⟨fun z => (List.mem_cons.mp z).resolve_left this, fun z => List.mem_cons_of_mem _ z⟩
    rw [e, ih nd'.2]
/-- the row of a wait -/
def row (ls os : List Int) (w : Int) : List Int := (tk ls os.reverse w).reverse
theorem row_sub (ls os : List Int) (w : Int) : (row ls os w).Sublist os := by
  have := (tk_sub ls os.reverse w).reverse
  rw [List.reverse_reverse] at this
  exact this
theorem row_filter {ls os : List Int} (h : Ord ls os) (w : Int) : os.filter (fun k => decide (k ∈ row ls os w)) = row ls os w := sub_filter (row_sub ls os w) h.nodup
theorem sum_rev : ∀ l : List Int, l.reverse.sum = l.sum
  | [] => rfl
  | x :: l => by
    rw [List.reverse_cons, List.sum_append, sum_rev l]
    show l.sum + (x + 0) = _
    rw [List.sum_cons]
    omega
theorem sum_os {ls os : List Int} (h : Ord ls os) : (os.map (at_ ls)).sum = ls.sum := by
  rw [h.vals]
  exact Db.perm_sum (Rch.isort_perm ls)
theorem row_sum {ls os : List Int} (h : Ord ls os) (g : Rch.Good ls) (d : Db.dbl ls = true) {w : Int} (h0 : 0 ≤ w) (h1 : w ≤ ls.sum) : ((row ls os w).map (at_ ls)).sum = w := by
  unfold row
  rw [List.map_reverse, sum_rev]
  exact tk_sum ls os.length os w rfl (gr_of h g d) h0 (by rw [sum_os h]; exact h1)
/-- what is taken of the shorter ones -/
def bel (ls os : List Int) (w : Int) (i : Nat) : Int := (((os.take i).filter fun k => decide (k ∈ row ls os w)).map (at_ ls)).sum
theorem bel_step {ls os : List Int} {w : Int} {i : Nat} {o : Int} (h : os[i]? = some o) : bel ls os w (i + 1) = bel ls os w i + if o ∈ row ls os w then at_ ls o else 0 := by
  unfold bel
  rw [List.take_add_one, h, List.filter_append, List.map_append, List.sum_append]
  congr 1
  show ((([o] : List Int).filter fun k => decide (k ∈ row ls os w)).map (at_ ls)).sum = _
  rw [List.filter_cons]
  split
  · rename_i c
    rw [if_pos (of_decide_eq_true c)]
    show at_ ls o + 0 = _
    omega
  · rename_i c
    rw [if_neg (fun z => c (decide_eq_true z))]
    rfl
theorem bel_lt {ls os : List Int} (hO : Ord ls os) {w : Int} (h0 : 0 ≤ w) {i : Nat} {o : Int} (h : os[i]? = some o) (ho : o ∉ row ls os w) : bel ls os w i < at_ ls o := by
  have hi := (List.getElem?_eq_some_iff.mp h).1
  have e : os = os.take i ++ o :: os.drop (i + 1) := by
    have := List.take_append_drop i os
    rw [List.drop_eq_getElem_cons hi] at this
    rw [(List.getElem?_eq_some_iff.mp h).2] at this
    exact this.symm
  obtain ⟨a, ha⟩ : ∃ a, a = os.take i := ⟨_, rfl⟩
  obtain ⟨b, hb⟩ : ∃ b, b = os.drop (i + 1) := ⟨_, rfl⟩
  rw [← ha, ← hb] at e
  have er : os.reverse = b.reverse ++ (o :: a.reverse) := by
    rw [e]
    simp
  obtain ⟨l', hl'⟩ : ∃ l', l' = w - ((tk ls b.reverse w).map (at_ ls)).sum := ⟨_, rfl⟩
  have hl0 : 0 ≤ l' := by
    have := tk_le ls b.reverse w h0
    omega
  have et : tk ls os.reverse w = tk ls b.reverse w ++ tk ls (o :: a.reverse) l' := by
    rw [er, tk_app, ← hl']
  have nd := hO.nodup
  rw [e] at nd
  have nd2 := List.nodup_append.mp nd
  have nd3 := List.nodup_cons.mp nd2.2.1
  have hno : ¬ at_ ls o ≤ l' := fun c => ho (by
    unfold row
    rw [List.mem_reverse, et]
    refine List.mem_append_right _ ?_
    unfold tk
    rw [if_pos c]
    exact List.mem_cons_self)
  have et2 : tk ls (o :: a.reverse) l' = tk ls a.reverse l' := by
    show (if at_ ls o ≤ l' then _ else _) = _
    rw [if_neg hno]
  rw [et2] at et
  have em : ∀ k ∈ a, (k ∈ row ls os w ↔ k ∈ (tk ls a.reverse l').reverse) := fun k hk => by
    unfold row
    rw [List.mem_reverse, List.mem_reverse, et, List.mem_append]
    refine ⟨fun z => z.resolve_left fun z1 => ?_, .inr⟩
    have zb : k ∈ b := List.mem_reverse.mp ((tk_sub ls b.reverse w).mem z1)
    exact nd2.2.2 k hk k (List.mem_cons_of_mem _ zb) rfl
  have eb : bel ls os w i = (((tk ls a.reverse l').reverse).map (at_ ls)).sum := by
    unfold bel
    rw [← ha]
    have e3 : a.filter (fun k => decide (k ∈ row ls os w)) = a.filter (fun k => decide (k ∈ (tk ls a.reverse l').reverse)) := List.filter_congr fun k hk => decide_eq_decide.mpr (em k hk)
    have s2 := (tk_sub ls a.reverse l').reverse
    rw [List.reverse_reverse] at s2
    rw [e3, sub_filter s2 nd2.1]
  rw [eb, List.map_reverse, sum_rev]
  have := tk_le ls a.reverse l' hl0
  omega
end Dg

/-! ### the table of the digits of doubling loops: two letters at most come, none meet -/
namespace Ds
open Dg
/-- each is at most twice the one ahead of it -/
def Tw (ls us : List Int) : Prop := ∀ a x y c, us = a ++ x :: y :: c → at_ ls y ≤ 2 * at_ ls x
theorem ch_tw : ∀ (r : List Int) (p : Int), Db.chB p r = true → ∀ a x y c, p :: r = a ++ x :: y :: c → y ≤ 2 * x
  | [], p, _, a, x, y, c, e => by
    have := congrArg List.length e
    simp at this
    omega
  | l :: r, p, h, a, x, y, c, e => by
    have h2 : (decide (l ≤ 2 * p) && Db.chB l r) = true := h
    rw [Bool.and_eq_true] at h2
    cases a with
    | nil =>
      injection e with e1 e2
      injection e2 with e3 _
      subst e1 e3
      exact of_decide_eq_true h2.1
    | cons z a =>
      injection e with _ e2
      exact ch_tw r l h2.2 a x y c e2
theorem tw_of {ls os : List Int} (h : Ord ls os) (d : Db.dbl ls = true) : Tw ls os := by
  intro a x y c e
  have v := h.vals
  have d' : Db.isD (Rch.isort ls) = true := d
  rw [← v] at d'
  have e2 : os.map (at_ ls) = a.map (at_ ls) ++ at_ ls x :: at_ ls y :: c.map (at_ ls) := by
    rw [e, List.map_append, List.map_cons, List.map_cons]
  cases hv : os.map (at_ ls) with
  | nil =>
    rw [hv] at d'
    cases d'
  | cons z r =>
    rw [hv] at d' e2
    have d2 : (decide (z = 1) && Db.chB z r) = true := d'
    rw [Bool.and_eq_true] at d2
    exact ch_tw r z d2.2 _ _ _ _ e2
/-- a walk down to a loop -/
def Chn (ls : List Int) (g : Int) : List Int → Prop
  | [] => True
  | m :: r => at_ ls m ≤ 2 * at_ ls (r.headD g) ∧ Chn ls g r
theorem chn_of {ls us A : List Int} {g : Int} (h : Tw ls us) : ∀ (n : Nat) (B C : List Int), B.length = n → us = A ++ g :: (B ++ C) → Chn ls g B.reverse
  | 0, B, C, hn, _ => by
    rw [List.length_eq_zero_iff.mp hn]
    exact True.intro
  | n + 1, B, C, hn, e => by
    obtain ⟨B', b, rfl⟩ : ∃ B' b, B = B' ++ [b] := ⟨B.dropLast, B.getLast (by intro z; rw [z] at hn; cases hn), (List.dropLast_concat_getLast _).symm⟩
    have hB : B'.length = n := by simpa using hn
    rw [List.reverse_append]
    show at_ ls b ≤ 2 * at_ ls (B'.reverse.headD g) ∧ Chn ls g B'.reverse
    refine ⟨?_, chn_of (A := A) h n B' (b :: C) hB (by rw [e]; simp)⟩
    cases n with
    | zero =>
      have := List.length_eq_zero_iff.mp hB
      subst this
      exact h A g b C (by rw [e]; simp)
    | succ n =>
      obtain ⟨B2, b2, rfl⟩ : ∃ B2 b2, B' = B2 ++ [b2] := ⟨B'.dropLast, B'.getLast (by intro z; rw [z] at hB; cases hB), (List.dropLast_concat_getLast _).symm⟩
      rw [List.reverse_append]
      show at_ ls b ≤ 2 * at_ ls b2
      exact h (A ++ g :: B2) b2 b C (by rw [e]; simp)
/-- what is taken so far -/
def tot (ls R : List Int) (r : Int) : Int := ((tk ls R r).map (at_ ls)).sum
theorem tot_cons (ls : List Int) (m : Int) (R : List Int) (r : Int) : tot ls (m :: R) r = if at_ ls m ≤ r then at_ ls m + tot ls R (r - at_ ls m) else tot ls R r := by
  unfold tot
  show ((if at_ ls m ≤ r then m :: tk ls R (r - at_ ls m) else tk ls R r).map (at_ ls)).sum = _
  split
  · rw [List.map_cons, List.sum_cons]
  · rfl
theorem tot_nn {ls : List Int} : ∀ (R : List Int) (r : Int), (∀ o ∈ R, 0 ≤ at_ ls o) → 0 ≤ tot ls R r
  | [], _, _ => Int.le_refl _
  | m :: R, r, h => by
    rw [tot_cons]
    have hm := h m (by simp)
    have h' : ∀ o ∈ R, 0 ≤ at_ ls o := fun o ho => h o (by simp [ho])
    split
    · have := tot_nn R (r - at_ ls m) h'
      omega
    · exact tot_nn R r h'
theorem low {ls : List Int} {g : Int} : ∀ (R : List Int) (r : Int), Chn ls g R → r < 2 * at_ ls (R.headD g) → r - tot ls R r < 2 * at_ ls g
  | [], r, _, h => by
    have h : r < 2 * at_ ls g := h
    show r - 0 < _
    omega
  | m :: R, r, hc, h => by
    have h : r < 2 * at_ ls m := h
    rw [tot_cons]
    split
    · have := low R (r - at_ ls m) hc.2 (by have := hc.1; omega)
      omega
    · exact low R r hc.2 (by have := hc.1; omega)
theorem gap {ls : List Int} {g : Int} : ∀ (R : List Int) (r1 r2 : Int), (∀ o ∈ R, 0 ≤ at_ ls o) → Chn ls g R → 0 ≤ r1 → 0 ≤ r2 → tot ls R r1 < tot ls R r2 → r1 - tot ls R r1 + 1 ≤ tot ls R r2 - tot ls R r1 ∧ r1 - tot ls R r1 < 2 * at_ ls g
  | [], r1, r2, _, _, _, _, h => absurd h (Int.lt_irrefl _)
  | m :: R, r1, r2, hp, hc, h1, h2, h => by
    have hm := hp m (by simp)
    have hp' : ∀ o ∈ R, 0 ≤ at_ ls o := fun o ho => hp o (by simp [ho])
    rw [tot_cons, tot_cons] at h ⊢
    by_cases c1 : at_ ls m ≤ r1
    · rw [if_pos c1] at h ⊢
      by_cases c2 : at_ ls m ≤ r2
      · rw [if_pos c2] at h ⊢
        have := gap R (r1 - at_ ls m) (r2 - at_ ls m) hp' hc.2 (by omega) (by omega) (by omega)
        omega
      · rw [if_neg c2] at h ⊢
        have a := tot_nn R (r1 - at_ ls m) hp'
        have b : tot ls R r2 ≤ r2 := tk_le ls R r2 h2
        omega
    · rw [if_neg c1] at h ⊢
      by_cases c2 : at_ ls m ≤ r2
      · rw [if_pos c2] at h ⊢
        have a := tot_nn R (r2 - at_ ls m) hp'
        have b := low R r1 hc.2 (by have := hc.1; omega)
        omega
      · rw [if_neg c2] at h ⊢
        exact gap R r1 r2 hp' hc.2 h1 h2 h
theorem go_split (ls : List Int) : ∀ (r : List Int) (x : Int) (p : Int × Int), p ∈ Tb.go ls x r → ∃ a b, r = a ++ p.2 :: b ∧ p.1 = x + Tb.rsum ls a
  | [], _, _, h => by cases h
  | k :: r, x, p, h => by
    have h' : p = (x, k) ∨ p ∈ Tb.go ls (x + Tb.len1 ls k) r := List.mem_cons.mp h
    rcases h' with rfl | h'
    · exact ⟨[], r, rfl, by show x = x + 0; omega⟩
    · obtain ⟨a, b, e, hp⟩ := go_split ls r _ p h'
      refine ⟨k :: a, b, by rw [e]; rfl, ?_⟩
      rw [hp]
      unfold Tb.rsum
      rw [List.map_cons, List.sum_cons]
      omega
theorem split_uniq {α : Type} {g : α} : ∀ {a b a' b' : List α}, a ++ g :: b = a' ++ g :: b' → g ∉ a → g ∉ a' → a = a' ∧ b = b'
  | [], b, [], b', e, _, _ => ⟨rfl, by injection e⟩
  | [], b, y :: a', b', e, _, n => by
    injection e with e1 _
    exact absurd (by rw [e1]; exact List.mem_cons_self) n
  | x :: a, b, [], b', e, n, _ => by
    injection e with e1 _
    exact absurd (by rw [← e1]; exact List.mem_cons_self) n
  | x :: a, b, y :: a', b', e, n, n' => by
    injection e with e1 e2
    obtain ⟨h1, h2⟩ := split_uniq e2 (fun z => n (List.mem_cons_of_mem _ z)) (fun z => n' (List.mem_cons_of_mem _ z))
    exact ⟨by rw [e1, h1], h2⟩
/-- an entry of a wait: what is gone, by what is taken of the longer ones -/
theorem ent_by {ls os : List Int} (hO : Ord ls os) (g : Rch.Good ls) (d : Db.dbl ls = true) {w : Int} (h0 : 0 ≤ w) (h1 : w ≤ ls.sum) {p : Int × Int} (hp : p ∈ Tb.go ls 0 (row ls os w)) {A B : List Int} (e : os = A ++ p.2 :: B) :
    at_ ls p.2 ≤ w - tot ls B.reverse w ∧ p.1 = w - tot ls B.reverse w - at_ ls p.2 := by
  obtain ⟨a, b, er, ep⟩ := go_split ls _ _ p hp
  rw [Int.zero_add] at ep
  obtain ⟨k, hk⟩ : ∃ k, k = p.2 := ⟨_, rfl⟩
  rw [← hk] at er e ⊢
  have nd := hO.nodup
  rw [e] at nd
  have nd2 := List.nodup_append.mp nd
  have nd3 := List.nodup_cons.mp nd2.2.1
  have eo : os.reverse = B.reverse ++ (k :: A.reverse) := by
    rw [e]
    simp
  have et : tk ls os.reverse w = tk ls B.reverse w ++ tk ls (k :: A.reverse) (w - tot ls B.reverse w) := by
    rw [eo, tk_app]
    rfl
  have hin : k ∈ row ls os w := by
    rw [er]
    simp
  have nB : k ∉ tk ls B.reverse w := fun z => nd3.1 (List.mem_reverse.mp ((tk_sub ls B.reverse w).mem z))
  have nA : ∀ l, k ∉ tk ls A.reverse l := fun l z => nd2.2.2 k (List.mem_reverse.mp ((tk_sub ls A.reverse l).mem z)) k List.mem_cons_self rfl
  have c : at_ ls k ≤ w - tot ls B.reverse w := by
    rcases Int.lt_or_le (w - tot ls B.reverse w) (at_ ls k) with z | z
    · refine absurd hin fun hi => ?_
      unfold row at hi
      rw [List.mem_reverse, et, List.mem_append] at hi
      rcases hi with hi | hi
      · exact nB hi
      · have e3 : tk ls (k :: A.reverse) (w - tot ls B.reverse w) = tk ls A.reverse (w - tot ls B.reverse w) := if_neg (by omega)
        rw [e3] at hi
        exact nA _ hi
    · exact z
  refine ⟨c, ?_⟩
  have e3 : tk ls (k :: A.reverse) (w - tot ls B.reverse w) = k :: tk ls A.reverse (w - tot ls B.reverse w - at_ ls k) := if_pos c
  have e4 : row ls os w = (tk ls A.reverse (w - tot ls B.reverse w - at_ ls k)).reverse ++ k :: (tk ls B.reverse w).reverse := by
    unfold row
    rw [et, e3]
    simp
  have rn : (row ls os w).Nodup := (row_sub ls os w).nodup hO.nodup
  have na : k ∉ a := fun z => by
    rw [er] at rn
    exact (List.nodup_append.mp rn).2.2 k z k List.mem_cons_self rfl
  have ea := (split_uniq (er.symm.trans e4) na (fun z => nA _ (List.mem_reverse.mp z)))
  have sm := row_sum hO g d h0 h1
  rw [er, List.map_append, List.sum_append, List.map_cons, List.sum_cons, ea.2, List.map_reverse, sum_rev] at sm
  have e5 : ((tk ls B.reverse w).map (at_ ls)).sum = tot ls B.reverse w := rfl
  have e6 : Tb.rsum ls a = (a.map (at_ ls)).sum := rfl
  rw [e5] at sm
  rw [ep, e6]
  omega
/-- the rows of all waits -/
def rows (ls os : List Int) : List (List Int) := (List.range ls.sum.toNat).map fun i : Nat => row ls os ((i : Int) + 1)
theorem rows_len (ls os : List Int) : (rows ls os).length = ls.sum.toNat := by
  unfold rows
  rw [List.length_map, List.length_range]
theorem rowOf_rows {ls os : List Int} {w : Int} (h0 : 1 ≤ w) (h1 : w ≤ ls.sum) : Dy.rowOf (rows ls os) w = row ls os w := by
  unfold Dy.rowOf
  rw [if_neg (by omega)]
  unfold rows
  rw [List.getD_eq_getElem?_getD, List.getElem?_map, List.getElem?_range (by omega)]
  show row ls os (((w - 1).toNat : Int) + 1) = _
  rw [show (((w - 1).toNat : Int) + 1) = w by omega]
theorem right {ls os : List Int} (hO : Ord ls os) (g : Rch.Good ls) (d : Db.dbl ls = true) (h1 : 1 ≤ ls.sum) (h60 : ls.sum ≤ 60) : Tb.Right ls (rows ls os) := by
  refine ⟨g, by rw [rows_len]; omega, by rw [rows_len]; omega, fun i r hr => ?_⟩
  unfold rows at hr
  rw [List.getElem?_map] at hr
  obtain ⟨j, hj, rfl⟩ := Option.map_eq_some_iff.mp hr
  have hi := (List.getElem?_eq_some_iff.mp hj).1
  rw [List.length_range] at hi
  rw [List.getElem?_range hi] at hj
  cases hj
  refine ⟨fun k hk => ?_, ?_, ?_⟩
  · exact hO.mem ((row_sub ls os _).mem hk)
  · have := (row_sub ls os ((i : Int) + 1)).length_le
    have := hO.len
    have := g.2.1
    omega
  · exact row_sum hO g d (by omega) (by omega)
theorem safe {ls os : List Int} (hO : Ord ls os) (g : Rch.Good ls) (d : Db.dbl ls = true) (h60 : ls.sum ≤ 60) : Cl.Safe 2 ls (rows ls os) := by
  intro x y hc
  obtain ⟨a, b, hh, cd⟩ := hc
  have rl := rows_len ls os
  obtain ⟨w1, p, a1, a2, hp, rfl⟩ := Sf.all_inv (Nat.le_refl _) a
  obtain ⟨w2, q, b1, b2, hq, rfl⟩ := Sf.all_inv (Nat.le_refl _) b
  have a2' : w1 ≤ ls.sum := by omega
  have b2' : w2 ≤ ls.sum := by omega
  rw [rowOf_rows a1 a2'] at hp
  rw [rowOf_rows b1 b2'] at hq
  have hk : p.2 = q.2 := hh
  have cd' : (decide ((w2 - q.1) - (w1 - p.1) > 0) && (decide (p.1 ≥ q.1) && decide ((w2 - q.1) - (w1 - p.1) ≤ 2 * (p.1 - q.1) + 2 - 1))) = true := cd
  rw [Bool.and_eq_true, Bool.and_eq_true, decide_eq_true_iff, decide_eq_true_iff, decide_eq_true_iff] at cd'
  obtain ⟨d1, d2, d3⟩ := cd'
  have hm : p.2 ∈ os := by
    obtain ⟨u, v, er, _⟩ := go_split ls _ _ p hp
    exact (row_sub ls os w1).mem (by rw [er]; simp)
  obtain ⟨A, B, eo⟩ := List.append_of_mem hm
  obtain ⟨e1, e2⟩ := ent_by hO g d (by omega) a2' hp eo
  have eo2 : os = A ++ q.2 :: B := by rw [← hk]; exact eo
  obtain ⟨f1, f2⟩ := ent_by hO g d (by omega) b2' hq eo2
  rw [← hk] at f1 f2
  have hpos : ∀ o ∈ B.reverse, 0 ≤ at_ ls o := fun o ho => by
    have ho' : o ∈ os := by
      rw [eo]
      simp [List.mem_reverse.mp ho]
    have hm := hO.mem ho'
    have h1 : at_ ls o ∈ ls := by
      unfold at_
      rw [List.getD_eq_getElem?_getD, List.getElem?_eq_getElem (show o.toNat < ls.length by omega)]
      exact List.getElem_mem _
    have := (g.2.2 _ h1).1
    omega
  have ch : Chn ls p.2 B.reverse := chn_of (tw_of hO d) (A := A) B.length B [] rfl (by rw [List.append_nil]; exact eo)
  have gp := gap B.reverse w1 w2 hpos ch (by omega) (by omega) (by omega)
  omega
end Ds

set_option Elab.async false
set_option linter.all false
set_option maxRecDepth 100000
set_option maxHeartbeats 4000000
namespace My
open PySem PySem.Spec PyProof.Rows L2
def topS (i : Nat) : Stmt := PySem.Challenge.pw_loopstore_k00_errors_of_the_package.main.body.getD i (.Pass ⟨0, 0, 0, 0⟩)
abbrev s__law_tape : Stmt := topS 42
theorem sc__law_tape : FnScope ["script"] ["script"] (defScope s__law_tape) := ⟨rfl, rfl, rfl, by decide +kernel, rfl, by decide +kernel, by decide +kernel⟩
abbrev s__law_pick : Stmt := topS 43
theorem sc__law_pick : FnScope ["tape", "size", "digit", "cell", "mixed"] ["tape", "size"] (defScope s__law_pick) := ⟨rfl, rfl, rfl, by decide +kernel, rfl, by decide +kernel, by decide +kernel⟩
abbrev s__law_flags : Stmt := topS 44
theorem sc__law_flags : FnScope ["e", "flags"] ["e"] (defScope s__law_flags) := ⟨rfl, rfl, rfl, by decide +kernel, rfl, by decide +kernel, by decide +kernel⟩
abbrev s__law_made : Stmt := topS 45
theorem sc__law_made : FnScope ["one", "other", "made"] ["one", "other"] (defScope s__law_made) := ⟨rfl, rfl, rfl, by decide +kernel, rfl, by decide +kernel, by decide +kernel⟩
abbrev s__law_caught : Stmt := topS 46
theorem sc__law_caught : FnScope ["kind", "thing", "found", "e"] ["kind", "thing"] (defScope s__law_caught) := ⟨rfl, rfl, rfl, by decide +kernel, rfl, by decide +kernel, by decide +kernel⟩
abbrev s_law : Stmt := topS 47
theorem sc_law : FnScope ["script", "tape", "things", "one", "other", "made", "k", "kept", "due", "j", "thing", "kind"] ["script"] (defScope s_law) := ⟨rfl, rfl, rfl, by decide +kernel, rfl, by decide +kernel, by decide +kernel⟩
abbrev s_NoComers___init__ : Stmt := inClass (topS 2) 0
theorem sc_NoComers___init__ : FnScope ["self"] ["self"] (defScope s_NoComers___init__) := ⟨rfl, rfl, rfl, by decide +kernel, rfl, by decide +kernel, by decide +kernel⟩
abbrev s_NoBound___init__ : Stmt := inClass (topS 3) 0
theorem sc_NoBound___init__ : FnScope ["self"] ["self"] (defScope s_NoBound___init__) := ⟨rfl, rfl, rfl, by decide +kernel, rfl, by decide +kernel, by decide +kernel⟩
abbrev s_NoComings___init__ : Stmt := inClass (topS 4) 0
theorem sc_NoComings___init__ : FnScope ["self"] ["self"] (defScope s_NoComings___init__) := ⟨rfl, rfl, rfl, by decide +kernel, rfl, by decide +kernel, by decide +kernel⟩
abbrev s_NoSpot___init__ : Stmt := inClass (topS 5) 0
theorem sc_NoSpot___init__ : FnScope ["self"] ["self"] (defScope s_NoSpot___init__) := ⟨rfl, rfl, rfl, by decide +kernel, rfl, by decide +kernel, by decide +kernel⟩
abbrev s_NoWalk___init__ : Stmt := inClass (topS 6) 0
theorem sc_NoWalk___init__ : FnScope ["self"] ["self"] (defScope s_NoWalk___init__) := ⟨rfl, rfl, rfl, by decide +kernel, rfl, by decide +kernel, by decide +kernel⟩
abbrev s_BadTable___init__ : Stmt := inClass (topS 7) 0
theorem sc_BadTable___init__ : FnScope ["self", "part", "at"] ["self", "part", "at"] (defScope s_BadTable___init__) := ⟨rfl, rfl, rfl, by decide +kernel, rfl, by decide +kernel, by decide +kernel⟩
abbrev s_Meet___init__ : Stmt := inClass (topS 8) 0
theorem sc_Meet___init__ : FnScope ["self", "tick", "loop"] ["self", "tick", "loop"] (defScope s_Meet___init__) := ⟨rfl, rfl, rfl, by decide +kernel, rfl, by decide +kernel, by decide +kernel⟩
abbrev s_NoTick___init__ : Stmt := inClass (topS 9) 0
theorem sc_NoTick___init__ : FnScope ["self"] ["self"] (defScope s_NoTick___init__) := ⟨rfl, rfl, rfl, by decide +kernel, rfl, by decide +kernel, by decide +kernel⟩
abbrev s_NoLoops___init__ : Stmt := inClass (topS 10) 0
theorem sc_NoLoops___init__ : FnScope ["self"] ["self"] (defScope s_NoLoops___init__) := ⟨rfl, rfl, rfl, by decide +kernel, rfl, by decide +kernel, by decide +kernel⟩
abbrev s_TooMany___init__ : Stmt := inClass (topS 11) 0
theorem sc_TooMany___init__ : FnScope ["self", "most"] ["self", "most"] (defScope s_TooMany___init__) := ⟨rfl, rfl, rfl, by decide +kernel, rfl, by decide +kernel, by decide +kernel⟩
abbrev s_NotDoubling___init__ : Stmt := inClass (topS 12) 0
theorem sc_NotDoubling___init__ : FnScope ["self"] ["self"] (defScope s_NotDoubling___init__) := ⟨rfl, rfl, rfl, by decide +kernel, rfl, by decide +kernel, by decide +kernel⟩
abbrev s_NoWait___init__ : Stmt := inClass (topS 13) 0
theorem sc_NoWait___init__ : FnScope ["self"] ["self"] (defScope s_NoWait___init__) := ⟨rfl, rfl, rfl, by decide +kernel, rfl, by decide +kernel, by decide +kernel⟩
abbrev s_NoTotal___init__ : Stmt := inClass (topS 14) 0
theorem sc_NoTotal___init__ : FnScope ["self"] ["self"] (defScope s_NoTotal___init__) := ⟨rfl, rfl, rfl, by decide +kernel, rfl, by decide +kernel, by decide +kernel⟩
abbrev s_NoRow___init__ : Stmt := inClass (topS 15) 0
theorem sc_NoRow___init__ : FnScope ["self"] ["self"] (defScope s_NoRow___init__) := ⟨rfl, rfl, rfl, by decide +kernel, rfl, by decide +kernel, by decide +kernel⟩
abbrev s_NoTold___init__ : Stmt := inClass (topS 16) 0
theorem sc_NoTold___init__ : FnScope ["self"] ["self"] (defScope s_NoTold___init__) := ⟨rfl, rfl, rfl, by decide +kernel, rfl, by decide +kernel, by decide +kernel⟩
abbrev s_NoStand___init__ : Stmt := inClass (topS 17) 0
theorem sc_NoStand___init__ : FnScope ["self"] ["self"] (defScope s_NoStand___init__) := ⟨rfl, rfl, rfl, by decide +kernel, rfl, by decide +kernel, by decide +kernel⟩
abbrev s_NoNumber___init__ : Stmt := inClass (topS 18) 0
theorem sc_NoNumber___init__ : FnScope ["self"] ["self"] (defScope s_NoNumber___init__) := ⟨rfl, rfl, rfl, by decide +kernel, rfl, by decide +kernel, by decide +kernel⟩
abbrev s_NoLaying___init__ : Stmt := inClass (topS 19) 0
theorem sc_NoLaying___init__ : FnScope ["self"] ["self"] (defScope s_NoLaying___init__) := ⟨rfl, rfl, rfl, by decide +kernel, rfl, by decide +kernel, by decide +kernel⟩
abbrev s_NoPlan___init__ : Stmt := inClass (topS 20) 0
theorem sc_NoPlan___init__ : FnScope ["self"] ["self"] (defScope s_NoPlan___init__) := ⟨rfl, rfl, rfl, by decide +kernel, rfl, by decide +kernel, by decide +kernel⟩
abbrev s_NotKept___init__ : Stmt := inClass (topS 21) 0
theorem sc_NotKept___init__ : FnScope ["self"] ["self"] (defScope s_NotKept___init__) := ⟨rfl, rfl, rfl, by decide +kernel, rfl, by decide +kernel, by decide +kernel⟩
abbrev s_NothingDone___init__ : Stmt := inClass (topS 22) 0
theorem sc_NothingDone___init__ : FnScope ["self"] ["self"] (defScope s_NothingDone___init__) := ⟨rfl, rfl, rfl, by decide +kernel, rfl, by decide +kernel, by decide +kernel⟩
abbrev s_NotLost___init__ : Stmt := inClass (topS 23) 0
theorem sc_NotLost___init__ : FnScope ["self"] ["self"] (defScope s_NotLost___init__) := ⟨rfl, rfl, rfl, by decide +kernel, rfl, by decide +kernel, by decide +kernel⟩
abbrev s_Over___init__ : Stmt := inClass (topS 24) 0
theorem sc_Over___init__ : FnScope ["self"] ["self"] (defScope s_Over___init__) := ⟨rfl, rfl, rfl, by decide +kernel, rfl, by decide +kernel, by decide +kernel⟩
abbrev s_NoLoop___init__ : Stmt := inClass (topS 25) 0
theorem sc_NoLoop___init__ : FnScope ["self"] ["self"] (defScope s_NoLoop___init__) := ⟨rfl, rfl, rfl, by decide +kernel, rfl, by decide +kernel, by decide +kernel⟩
abbrev s_NoWeights___init__ : Stmt := inClass (topS 26) 0
theorem sc_NoWeights___init__ : FnScope ["self"] ["self"] (defScope s_NoWeights___init__) := ⟨rfl, rfl, rfl, by decide +kernel, rfl, by decide +kernel, by decide +kernel⟩
abbrev s_NoFraction___init__ : Stmt := inClass (topS 27) 0
theorem sc_NoFraction___init__ : FnScope ["self"] ["self"] (defScope s_NoFraction___init__) := ⟨rfl, rfl, rfl, by decide +kernel, rfl, by decide +kernel, by decide +kernel⟩
abbrev s_OtherBounds___init__ : Stmt := inClass (topS 28) 0
theorem sc_OtherBounds___init__ : FnScope ["self"] ["self"] (defScope s_OtherBounds___init__) := ⟨rfl, rfl, rfl, by decide +kernel, rfl, by decide +kernel, by decide +kernel⟩
abbrev s_NoLetter___init__ : Stmt := inClass (topS 29) 0
theorem sc_NoLetter___init__ : FnScope ["self"] ["self"] (defScope s_NoLetter___init__) := ⟨rfl, rfl, rfl, by decide +kernel, rfl, by decide +kernel, by decide +kernel⟩
abbrev s_NoDay___init__ : Stmt := inClass (topS 30) 0
theorem sc_NoDay___init__ : FnScope ["self"] ["self"] (defScope s_NoDay___init__) := ⟨rfl, rfl, rfl, by decide +kernel, rfl, by decide +kernel, by decide +kernel⟩
abbrev s_BadText___init__ : Stmt := inClass (topS 31) 0
theorem sc_BadText___init__ : FnScope ["self", "line"] ["self", "line"] (defScope s_BadText___init__) := ⟨rfl, rfl, rfl, by decide +kernel, rfl, by decide +kernel, by decide +kernel⟩
abbrev s_NoLine___init__ : Stmt := inClass (topS 32) 0
theorem sc_NoLine___init__ : FnScope ["self"] ["self"] (defScope s_NoLine___init__) := ⟨rfl, rfl, rfl, by decide +kernel, rfl, by decide +kernel, by decide +kernel⟩
abbrev s_NoName___init__ : Stmt := inClass (topS 33) 0
theorem sc_NoName___init__ : FnScope ["self", "name"] ["self", "name"] (defScope s_NoName___init__) := ⟨rfl, rfl, rfl, by decide +kernel, rfl, by decide +kernel, by decide +kernel⟩
abbrev s_BadTree___init__ : Stmt := inClass (topS 34) 0
theorem sc_BadTree___init__ : FnScope ["self", "at"] ["self", "at"] (defScope s_BadTree___init__) := ⟨rfl, rfl, rfl, by decide +kernel, rfl, by decide +kernel, by decide +kernel⟩
abbrev s_NoDoorings___init__ : Stmt := inClass (topS 35) 0
theorem sc_NoDoorings___init__ : FnScope ["self"] ["self"] (defScope s_NoDoorings___init__) := ⟨rfl, rfl, rfl, by decide +kernel, rfl, by decide +kernel, by decide +kernel⟩
abbrev s_NoLong___init__ : Stmt := inClass (topS 36) 0
theorem sc_NoLong___init__ : FnScope ["self"] ["self"] (defScope s_NoLong___init__) := ⟨rfl, rfl, rfl, by decide +kernel, rfl, by decide +kernel, by decide +kernel⟩
abbrev s_NoPrices___init__ : Stmt := inClass (topS 37) 0
theorem sc_NoPrices___init__ : FnScope ["self"] ["self"] (defScope s_NoPrices___init__) := ⟨rfl, rfl, rfl, by decide +kernel, rfl, by decide +kernel, by decide +kernel⟩
abbrev s_OtherTables___init__ : Stmt := inClass (topS 38) 0
theorem sc_OtherTables___init__ : FnScope ["self"] ["self"] (defScope s_OtherTables___init__) := ⟨rfl, rfl, rfl, by decide +kernel, rfl, by decide +kernel, by decide +kernel⟩
abbrev s_NoTables___init__ : Stmt := inClass (topS 39) 0
theorem sc_NoTables___init__ : FnScope ["self"] ["self"] (defScope s_NoTables___init__) := ⟨rfl, rfl, rfl, by decide +kernel, rfl, by decide +kernel, by decide +kernel⟩
abbrev s_NoTable___init__ : Stmt := inClass (topS 40) 0
theorem sc_NoTable___init__ : FnScope ["self"] ["self"] (defScope s_NoTable___init__) := ⟨rfl, rfl, rfl, by decide +kernel, rfl, by decide +kernel, by decide +kernel⟩
structure Tx (K : PySem.W.Frag) (mg : Str → Option Value) where
  a__law_tape : Addr
  d__law_tape : FuncData
  F__law_tape : Fun K "_law_tape" "_law_tape" s__law_tape a__law_tape d__law_tape
  b__law_tape : Binds K d__law_tape ["script"] []
  g__law_tape : mg "_law_tape" = some (.ref a__law_tape)
  a__law_pick : Addr
  d__law_pick : FuncData
  F__law_pick : Fun K "_law_pick" "_law_pick" s__law_pick a__law_pick d__law_pick
  b__law_pick : Binds K d__law_pick ["tape", "size"] []
  g__law_pick : mg "_law_pick" = some (.ref a__law_pick)
  a__law_flags : Addr
  d__law_flags : FuncData
  F__law_flags : Fun K "_law_flags" "_law_flags" s__law_flags a__law_flags d__law_flags
  b__law_flags : Binds K d__law_flags ["e"] []
  g__law_flags : mg "_law_flags" = some (.ref a__law_flags)
  a__law_made : Addr
  d__law_made : FuncData
  F__law_made : Fun K "_law_made" "_law_made" s__law_made a__law_made d__law_made
  b__law_made : Binds K d__law_made ["one", "other"] []
  g__law_made : mg "_law_made" = some (.ref a__law_made)
  a__law_caught : Addr
  d__law_caught : FuncData
  F__law_caught : Fun K "_law_caught" "_law_caught" s__law_caught a__law_caught d__law_caught
  b__law_caught : Binds K d__law_caught ["kind", "thing"] []
  g__law_caught : mg "_law_caught" = some (.ref a__law_caught)
  a_law : Addr
  d_law : FuncData
  F_law : Fun K "law" "law" s_law a_law d_law
  b_law : Binds K d_law ["script"] []
  g_law : mg "law" = some (.ref a_law)
  m_ValueError : mg "ValueError" = none
  m_bool : mg "bool" = none
  m_int : mg "int" = none
  m_isinstance : mg "isinstance" = none
  m_len : mg "len" = none
  m_list : mg "list" = none
  m_range : mg "range" = none
  c_BadTable : Addr
  g_BadTable : mg "BadTable" = some (.ref c_BadTable)
  c_BadText : Addr
  g_BadText : mg "BadText" = some (.ref c_BadText)
  c_BadTree : Addr
  g_BadTree : mg "BadTree" = some (.ref c_BadTree)
  c_LoopError : Addr
  g_LoopError : mg "LoopError" = some (.ref c_LoopError)
  c_Meet : Addr
  g_Meet : mg "Meet" = some (.ref c_Meet)
  c_NoBound : Addr
  g_NoBound : mg "NoBound" = some (.ref c_NoBound)
  c_NoComers : Addr
  g_NoComers : mg "NoComers" = some (.ref c_NoComers)
  c_NoComings : Addr
  g_NoComings : mg "NoComings" = some (.ref c_NoComings)
  c_NoDay : Addr
  g_NoDay : mg "NoDay" = some (.ref c_NoDay)
  c_NoDoorings : Addr
  g_NoDoorings : mg "NoDoorings" = some (.ref c_NoDoorings)
  c_NoFraction : Addr
  g_NoFraction : mg "NoFraction" = some (.ref c_NoFraction)
  c_NoLaying : Addr
  g_NoLaying : mg "NoLaying" = some (.ref c_NoLaying)
  c_NoLetter : Addr
  g_NoLetter : mg "NoLetter" = some (.ref c_NoLetter)
  c_NoLine : Addr
  g_NoLine : mg "NoLine" = some (.ref c_NoLine)
  c_NoLong : Addr
  g_NoLong : mg "NoLong" = some (.ref c_NoLong)
  c_NoLoop : Addr
  g_NoLoop : mg "NoLoop" = some (.ref c_NoLoop)
  c_NoLoops : Addr
  g_NoLoops : mg "NoLoops" = some (.ref c_NoLoops)
  c_NoName : Addr
  g_NoName : mg "NoName" = some (.ref c_NoName)
  c_NoNumber : Addr
  g_NoNumber : mg "NoNumber" = some (.ref c_NoNumber)
  c_NoPlan : Addr
  g_NoPlan : mg "NoPlan" = some (.ref c_NoPlan)
  c_NoPrices : Addr
  g_NoPrices : mg "NoPrices" = some (.ref c_NoPrices)
  c_NoRow : Addr
  g_NoRow : mg "NoRow" = some (.ref c_NoRow)
  c_NoSpot : Addr
  g_NoSpot : mg "NoSpot" = some (.ref c_NoSpot)
  c_NoStand : Addr
  g_NoStand : mg "NoStand" = some (.ref c_NoStand)
  c_NoTable : Addr
  g_NoTable : mg "NoTable" = some (.ref c_NoTable)
  c_NoTables : Addr
  g_NoTables : mg "NoTables" = some (.ref c_NoTables)
  c_NoTick : Addr
  g_NoTick : mg "NoTick" = some (.ref c_NoTick)
  c_NoTold : Addr
  g_NoTold : mg "NoTold" = some (.ref c_NoTold)
  c_NoTotal : Addr
  g_NoTotal : mg "NoTotal" = some (.ref c_NoTotal)
  c_NoWait : Addr
  g_NoWait : mg "NoWait" = some (.ref c_NoWait)
  c_NoWalk : Addr
  g_NoWalk : mg "NoWalk" = some (.ref c_NoWalk)
  c_NoWeights : Addr
  g_NoWeights : mg "NoWeights" = some (.ref c_NoWeights)
  c_NotDoubling : Addr
  g_NotDoubling : mg "NotDoubling" = some (.ref c_NotDoubling)
  c_NotKept : Addr
  g_NotKept : mg "NotKept" = some (.ref c_NotKept)
  c_NotLost : Addr
  g_NotLost : mg "NotLost" = some (.ref c_NotLost)
  c_NothingDone : Addr
  g_NothingDone : mg "NothingDone" = some (.ref c_NothingDone)
  c_OtherBounds : Addr
  g_OtherBounds : mg "OtherBounds" = some (.ref c_OtherBounds)
  c_OtherTables : Addr
  g_OtherTables : mg "OtherTables" = some (.ref c_OtherTables)
  c_Over : Addr
  g_Over : mg "Over" = some (.ref c_Over)
  c_TooMany : Addr
  g_TooMany : mg "TooMany" = some (.ref c_TooMany)
  a_NoComers___init__ : Addr
  d_NoComers___init__ : FuncData
  F_NoComers___init__ : Fun K "__init__" "NoComers.__init__" s_NoComers___init__ a_NoComers___init__ d_NoComers___init__
  b_NoComers___init__ : Binds K d_NoComers___init__ ["self"] []
  x_NoComers : OexC K c_NoComers
  i_NoComers : PySem.W.findIn K (.ref c_NoComers) "__init__" = some (some (.ref a_NoComers___init__))
  ti_NoComers : PySem.W.typeIn K (.ref a_NoComers___init__) = some (.type "function")
  e_NoComers : PySem.W.exmOne K (.ref c_NoComers) (.ref c_NoComers) = some true
  a_NoBound___init__ : Addr
  d_NoBound___init__ : FuncData
  F_NoBound___init__ : Fun K "__init__" "NoBound.__init__" s_NoBound___init__ a_NoBound___init__ d_NoBound___init__
  b_NoBound___init__ : Binds K d_NoBound___init__ ["self"] []
  x_NoBound : OexC K c_NoBound
  i_NoBound : PySem.W.findIn K (.ref c_NoBound) "__init__" = some (some (.ref a_NoBound___init__))
  ti_NoBound : PySem.W.typeIn K (.ref a_NoBound___init__) = some (.type "function")
  e_NoBound : PySem.W.exmOne K (.ref c_NoBound) (.ref c_NoBound) = some true
  a_NoComings___init__ : Addr
  d_NoComings___init__ : FuncData
  F_NoComings___init__ : Fun K "__init__" "NoComings.__init__" s_NoComings___init__ a_NoComings___init__ d_NoComings___init__
  b_NoComings___init__ : Binds K d_NoComings___init__ ["self"] []
  x_NoComings : OexC K c_NoComings
  i_NoComings : PySem.W.findIn K (.ref c_NoComings) "__init__" = some (some (.ref a_NoComings___init__))
  ti_NoComings : PySem.W.typeIn K (.ref a_NoComings___init__) = some (.type "function")
  e_NoComings : PySem.W.exmOne K (.ref c_NoComings) (.ref c_NoComings) = some true
  a_NoSpot___init__ : Addr
  d_NoSpot___init__ : FuncData
  F_NoSpot___init__ : Fun K "__init__" "NoSpot.__init__" s_NoSpot___init__ a_NoSpot___init__ d_NoSpot___init__
  b_NoSpot___init__ : Binds K d_NoSpot___init__ ["self"] []
  x_NoSpot : OexC K c_NoSpot
  i_NoSpot : PySem.W.findIn K (.ref c_NoSpot) "__init__" = some (some (.ref a_NoSpot___init__))
  ti_NoSpot : PySem.W.typeIn K (.ref a_NoSpot___init__) = some (.type "function")
  e_NoSpot : PySem.W.exmOne K (.ref c_NoSpot) (.ref c_NoSpot) = some true
  a_NoWalk___init__ : Addr
  d_NoWalk___init__ : FuncData
  F_NoWalk___init__ : Fun K "__init__" "NoWalk.__init__" s_NoWalk___init__ a_NoWalk___init__ d_NoWalk___init__
  b_NoWalk___init__ : Binds K d_NoWalk___init__ ["self"] []
  x_NoWalk : OexC K c_NoWalk
  i_NoWalk : PySem.W.findIn K (.ref c_NoWalk) "__init__" = some (some (.ref a_NoWalk___init__))
  ti_NoWalk : PySem.W.typeIn K (.ref a_NoWalk___init__) = some (.type "function")
  e_NoWalk : PySem.W.exmOne K (.ref c_NoWalk) (.ref c_NoWalk) = some true
  a_BadTable___init__ : Addr
  d_BadTable___init__ : FuncData
  F_BadTable___init__ : Fun K "__init__" "BadTable.__init__" s_BadTable___init__ a_BadTable___init__ d_BadTable___init__
  b_BadTable___init__ : Binds K d_BadTable___init__ ["self", "part", "at"] []
  x_BadTable : OexC K c_BadTable
  i_BadTable : PySem.W.findIn K (.ref c_BadTable) "__init__" = some (some (.ref a_BadTable___init__))
  ti_BadTable : PySem.W.typeIn K (.ref a_BadTable___init__) = some (.type "function")
  e_BadTable : PySem.W.exmOne K (.ref c_BadTable) (.ref c_BadTable) = some true
  n_BadTable_part : PySem.W.findIn K (.ref c_BadTable) "part" = some none
  n_BadTable_at : PySem.W.findIn K (.ref c_BadTable) "at" = some none
  a_Meet___init__ : Addr
  d_Meet___init__ : FuncData
  F_Meet___init__ : Fun K "__init__" "Meet.__init__" s_Meet___init__ a_Meet___init__ d_Meet___init__
  b_Meet___init__ : Binds K d_Meet___init__ ["self", "tick", "loop"] []
  x_Meet : OexC K c_Meet
  i_Meet : PySem.W.findIn K (.ref c_Meet) "__init__" = some (some (.ref a_Meet___init__))
  ti_Meet : PySem.W.typeIn K (.ref a_Meet___init__) = some (.type "function")
  e_Meet : PySem.W.exmOne K (.ref c_Meet) (.ref c_Meet) = some true
  n_Meet_tick : PySem.W.findIn K (.ref c_Meet) "tick" = some none
  n_Meet_loop : PySem.W.findIn K (.ref c_Meet) "loop" = some none
  a_NoTick___init__ : Addr
  d_NoTick___init__ : FuncData
  F_NoTick___init__ : Fun K "__init__" "NoTick.__init__" s_NoTick___init__ a_NoTick___init__ d_NoTick___init__
  b_NoTick___init__ : Binds K d_NoTick___init__ ["self"] []
  x_NoTick : OexC K c_NoTick
  i_NoTick : PySem.W.findIn K (.ref c_NoTick) "__init__" = some (some (.ref a_NoTick___init__))
  ti_NoTick : PySem.W.typeIn K (.ref a_NoTick___init__) = some (.type "function")
  e_NoTick : PySem.W.exmOne K (.ref c_NoTick) (.ref c_NoTick) = some true
  a_NoLoops___init__ : Addr
  d_NoLoops___init__ : FuncData
  F_NoLoops___init__ : Fun K "__init__" "NoLoops.__init__" s_NoLoops___init__ a_NoLoops___init__ d_NoLoops___init__
  b_NoLoops___init__ : Binds K d_NoLoops___init__ ["self"] []
  x_NoLoops : OexC K c_NoLoops
  i_NoLoops : PySem.W.findIn K (.ref c_NoLoops) "__init__" = some (some (.ref a_NoLoops___init__))
  ti_NoLoops : PySem.W.typeIn K (.ref a_NoLoops___init__) = some (.type "function")
  e_NoLoops : PySem.W.exmOne K (.ref c_NoLoops) (.ref c_NoLoops) = some true
  a_TooMany___init__ : Addr
  d_TooMany___init__ : FuncData
  F_TooMany___init__ : Fun K "__init__" "TooMany.__init__" s_TooMany___init__ a_TooMany___init__ d_TooMany___init__
  b_TooMany___init__ : Binds K d_TooMany___init__ ["self", "most"] []
  x_TooMany : OexC K c_TooMany
  i_TooMany : PySem.W.findIn K (.ref c_TooMany) "__init__" = some (some (.ref a_TooMany___init__))
  ti_TooMany : PySem.W.typeIn K (.ref a_TooMany___init__) = some (.type "function")
  e_TooMany : PySem.W.exmOne K (.ref c_TooMany) (.ref c_TooMany) = some true
  n_TooMany_most : PySem.W.findIn K (.ref c_TooMany) "most" = some none
  a_NotDoubling___init__ : Addr
  d_NotDoubling___init__ : FuncData
  F_NotDoubling___init__ : Fun K "__init__" "NotDoubling.__init__" s_NotDoubling___init__ a_NotDoubling___init__ d_NotDoubling___init__
  b_NotDoubling___init__ : Binds K d_NotDoubling___init__ ["self"] []
  x_NotDoubling : OexC K c_NotDoubling
  i_NotDoubling : PySem.W.findIn K (.ref c_NotDoubling) "__init__" = some (some (.ref a_NotDoubling___init__))
  ti_NotDoubling : PySem.W.typeIn K (.ref a_NotDoubling___init__) = some (.type "function")
  e_NotDoubling : PySem.W.exmOne K (.ref c_NotDoubling) (.ref c_NotDoubling) = some true
  a_NoWait___init__ : Addr
  d_NoWait___init__ : FuncData
  F_NoWait___init__ : Fun K "__init__" "NoWait.__init__" s_NoWait___init__ a_NoWait___init__ d_NoWait___init__
  b_NoWait___init__ : Binds K d_NoWait___init__ ["self"] []
  x_NoWait : OexC K c_NoWait
  i_NoWait : PySem.W.findIn K (.ref c_NoWait) "__init__" = some (some (.ref a_NoWait___init__))
  ti_NoWait : PySem.W.typeIn K (.ref a_NoWait___init__) = some (.type "function")
  e_NoWait : PySem.W.exmOne K (.ref c_NoWait) (.ref c_NoWait) = some true
  a_NoTotal___init__ : Addr
  d_NoTotal___init__ : FuncData
  F_NoTotal___init__ : Fun K "__init__" "NoTotal.__init__" s_NoTotal___init__ a_NoTotal___init__ d_NoTotal___init__
  b_NoTotal___init__ : Binds K d_NoTotal___init__ ["self"] []
  x_NoTotal : OexC K c_NoTotal
  i_NoTotal : PySem.W.findIn K (.ref c_NoTotal) "__init__" = some (some (.ref a_NoTotal___init__))
  ti_NoTotal : PySem.W.typeIn K (.ref a_NoTotal___init__) = some (.type "function")
  e_NoTotal : PySem.W.exmOne K (.ref c_NoTotal) (.ref c_NoTotal) = some true
  a_NoRow___init__ : Addr
  d_NoRow___init__ : FuncData
  F_NoRow___init__ : Fun K "__init__" "NoRow.__init__" s_NoRow___init__ a_NoRow___init__ d_NoRow___init__
  b_NoRow___init__ : Binds K d_NoRow___init__ ["self"] []
  x_NoRow : OexC K c_NoRow
  i_NoRow : PySem.W.findIn K (.ref c_NoRow) "__init__" = some (some (.ref a_NoRow___init__))
  ti_NoRow : PySem.W.typeIn K (.ref a_NoRow___init__) = some (.type "function")
  e_NoRow : PySem.W.exmOne K (.ref c_NoRow) (.ref c_NoRow) = some true
  a_NoTold___init__ : Addr
  d_NoTold___init__ : FuncData
  F_NoTold___init__ : Fun K "__init__" "NoTold.__init__" s_NoTold___init__ a_NoTold___init__ d_NoTold___init__
  b_NoTold___init__ : Binds K d_NoTold___init__ ["self"] []
  x_NoTold : OexC K c_NoTold
  i_NoTold : PySem.W.findIn K (.ref c_NoTold) "__init__" = some (some (.ref a_NoTold___init__))
  ti_NoTold : PySem.W.typeIn K (.ref a_NoTold___init__) = some (.type "function")
  e_NoTold : PySem.W.exmOne K (.ref c_NoTold) (.ref c_NoTold) = some true
  a_NoStand___init__ : Addr
  d_NoStand___init__ : FuncData
  F_NoStand___init__ : Fun K "__init__" "NoStand.__init__" s_NoStand___init__ a_NoStand___init__ d_NoStand___init__
  b_NoStand___init__ : Binds K d_NoStand___init__ ["self"] []
  x_NoStand : OexC K c_NoStand
  i_NoStand : PySem.W.findIn K (.ref c_NoStand) "__init__" = some (some (.ref a_NoStand___init__))
  ti_NoStand : PySem.W.typeIn K (.ref a_NoStand___init__) = some (.type "function")
  e_NoStand : PySem.W.exmOne K (.ref c_NoStand) (.ref c_NoStand) = some true
  a_NoNumber___init__ : Addr
  d_NoNumber___init__ : FuncData
  F_NoNumber___init__ : Fun K "__init__" "NoNumber.__init__" s_NoNumber___init__ a_NoNumber___init__ d_NoNumber___init__
  b_NoNumber___init__ : Binds K d_NoNumber___init__ ["self"] []
  x_NoNumber : OexC K c_NoNumber
  i_NoNumber : PySem.W.findIn K (.ref c_NoNumber) "__init__" = some (some (.ref a_NoNumber___init__))
  ti_NoNumber : PySem.W.typeIn K (.ref a_NoNumber___init__) = some (.type "function")
  e_NoNumber : PySem.W.exmOne K (.ref c_NoNumber) (.ref c_NoNumber) = some true
  a_NoLaying___init__ : Addr
  d_NoLaying___init__ : FuncData
  F_NoLaying___init__ : Fun K "__init__" "NoLaying.__init__" s_NoLaying___init__ a_NoLaying___init__ d_NoLaying___init__
  b_NoLaying___init__ : Binds K d_NoLaying___init__ ["self"] []
  x_NoLaying : OexC K c_NoLaying
  i_NoLaying : PySem.W.findIn K (.ref c_NoLaying) "__init__" = some (some (.ref a_NoLaying___init__))
  ti_NoLaying : PySem.W.typeIn K (.ref a_NoLaying___init__) = some (.type "function")
  e_NoLaying : PySem.W.exmOne K (.ref c_NoLaying) (.ref c_NoLaying) = some true
  a_NoPlan___init__ : Addr
  d_NoPlan___init__ : FuncData
  F_NoPlan___init__ : Fun K "__init__" "NoPlan.__init__" s_NoPlan___init__ a_NoPlan___init__ d_NoPlan___init__
  b_NoPlan___init__ : Binds K d_NoPlan___init__ ["self"] []
  x_NoPlan : OexC K c_NoPlan
  i_NoPlan : PySem.W.findIn K (.ref c_NoPlan) "__init__" = some (some (.ref a_NoPlan___init__))
  ti_NoPlan : PySem.W.typeIn K (.ref a_NoPlan___init__) = some (.type "function")
  e_NoPlan : PySem.W.exmOne K (.ref c_NoPlan) (.ref c_NoPlan) = some true
  a_NotKept___init__ : Addr
  d_NotKept___init__ : FuncData
  F_NotKept___init__ : Fun K "__init__" "NotKept.__init__" s_NotKept___init__ a_NotKept___init__ d_NotKept___init__
  b_NotKept___init__ : Binds K d_NotKept___init__ ["self"] []
  x_NotKept : OexC K c_NotKept
  i_NotKept : PySem.W.findIn K (.ref c_NotKept) "__init__" = some (some (.ref a_NotKept___init__))
  ti_NotKept : PySem.W.typeIn K (.ref a_NotKept___init__) = some (.type "function")
  e_NotKept : PySem.W.exmOne K (.ref c_NotKept) (.ref c_NotKept) = some true
  a_NothingDone___init__ : Addr
  d_NothingDone___init__ : FuncData
  F_NothingDone___init__ : Fun K "__init__" "NothingDone.__init__" s_NothingDone___init__ a_NothingDone___init__ d_NothingDone___init__
  b_NothingDone___init__ : Binds K d_NothingDone___init__ ["self"] []
  x_NothingDone : OexC K c_NothingDone
  i_NothingDone : PySem.W.findIn K (.ref c_NothingDone) "__init__" = some (some (.ref a_NothingDone___init__))
  ti_NothingDone : PySem.W.typeIn K (.ref a_NothingDone___init__) = some (.type "function")
  e_NothingDone : PySem.W.exmOne K (.ref c_NothingDone) (.ref c_NothingDone) = some true
  a_NotLost___init__ : Addr
  d_NotLost___init__ : FuncData
  F_NotLost___init__ : Fun K "__init__" "NotLost.__init__" s_NotLost___init__ a_NotLost___init__ d_NotLost___init__
  b_NotLost___init__ : Binds K d_NotLost___init__ ["self"] []
  x_NotLost : OexC K c_NotLost
  i_NotLost : PySem.W.findIn K (.ref c_NotLost) "__init__" = some (some (.ref a_NotLost___init__))
  ti_NotLost : PySem.W.typeIn K (.ref a_NotLost___init__) = some (.type "function")
  e_NotLost : PySem.W.exmOne K (.ref c_NotLost) (.ref c_NotLost) = some true
  a_Over___init__ : Addr
  d_Over___init__ : FuncData
  F_Over___init__ : Fun K "__init__" "Over.__init__" s_Over___init__ a_Over___init__ d_Over___init__
  b_Over___init__ : Binds K d_Over___init__ ["self"] []
  x_Over : OexC K c_Over
  i_Over : PySem.W.findIn K (.ref c_Over) "__init__" = some (some (.ref a_Over___init__))
  ti_Over : PySem.W.typeIn K (.ref a_Over___init__) = some (.type "function")
  e_Over : PySem.W.exmOne K (.ref c_Over) (.ref c_Over) = some true
  a_NoLoop___init__ : Addr
  d_NoLoop___init__ : FuncData
  F_NoLoop___init__ : Fun K "__init__" "NoLoop.__init__" s_NoLoop___init__ a_NoLoop___init__ d_NoLoop___init__
  b_NoLoop___init__ : Binds K d_NoLoop___init__ ["self"] []
  x_NoLoop : OexC K c_NoLoop
  i_NoLoop : PySem.W.findIn K (.ref c_NoLoop) "__init__" = some (some (.ref a_NoLoop___init__))
  ti_NoLoop : PySem.W.typeIn K (.ref a_NoLoop___init__) = some (.type "function")
  e_NoLoop : PySem.W.exmOne K (.ref c_NoLoop) (.ref c_NoLoop) = some true
  a_NoWeights___init__ : Addr
  d_NoWeights___init__ : FuncData
  F_NoWeights___init__ : Fun K "__init__" "NoWeights.__init__" s_NoWeights___init__ a_NoWeights___init__ d_NoWeights___init__
  b_NoWeights___init__ : Binds K d_NoWeights___init__ ["self"] []
  x_NoWeights : OexC K c_NoWeights
  i_NoWeights : PySem.W.findIn K (.ref c_NoWeights) "__init__" = some (some (.ref a_NoWeights___init__))
  ti_NoWeights : PySem.W.typeIn K (.ref a_NoWeights___init__) = some (.type "function")
  e_NoWeights : PySem.W.exmOne K (.ref c_NoWeights) (.ref c_NoWeights) = some true
  a_NoFraction___init__ : Addr
  d_NoFraction___init__ : FuncData
  F_NoFraction___init__ : Fun K "__init__" "NoFraction.__init__" s_NoFraction___init__ a_NoFraction___init__ d_NoFraction___init__
  b_NoFraction___init__ : Binds K d_NoFraction___init__ ["self"] []
  x_NoFraction : OexC K c_NoFraction
  i_NoFraction : PySem.W.findIn K (.ref c_NoFraction) "__init__" = some (some (.ref a_NoFraction___init__))
  ti_NoFraction : PySem.W.typeIn K (.ref a_NoFraction___init__) = some (.type "function")
  e_NoFraction : PySem.W.exmOne K (.ref c_NoFraction) (.ref c_NoFraction) = some true
  a_OtherBounds___init__ : Addr
  d_OtherBounds___init__ : FuncData
  F_OtherBounds___init__ : Fun K "__init__" "OtherBounds.__init__" s_OtherBounds___init__ a_OtherBounds___init__ d_OtherBounds___init__
  b_OtherBounds___init__ : Binds K d_OtherBounds___init__ ["self"] []
  x_OtherBounds : OexC K c_OtherBounds
  i_OtherBounds : PySem.W.findIn K (.ref c_OtherBounds) "__init__" = some (some (.ref a_OtherBounds___init__))
  ti_OtherBounds : PySem.W.typeIn K (.ref a_OtherBounds___init__) = some (.type "function")
  e_OtherBounds : PySem.W.exmOne K (.ref c_OtherBounds) (.ref c_OtherBounds) = some true
  a_NoLetter___init__ : Addr
  d_NoLetter___init__ : FuncData
  F_NoLetter___init__ : Fun K "__init__" "NoLetter.__init__" s_NoLetter___init__ a_NoLetter___init__ d_NoLetter___init__
  b_NoLetter___init__ : Binds K d_NoLetter___init__ ["self"] []
  x_NoLetter : OexC K c_NoLetter
  i_NoLetter : PySem.W.findIn K (.ref c_NoLetter) "__init__" = some (some (.ref a_NoLetter___init__))
  ti_NoLetter : PySem.W.typeIn K (.ref a_NoLetter___init__) = some (.type "function")
  e_NoLetter : PySem.W.exmOne K (.ref c_NoLetter) (.ref c_NoLetter) = some true
  a_NoDay___init__ : Addr
  d_NoDay___init__ : FuncData
  F_NoDay___init__ : Fun K "__init__" "NoDay.__init__" s_NoDay___init__ a_NoDay___init__ d_NoDay___init__
  b_NoDay___init__ : Binds K d_NoDay___init__ ["self"] []
  x_NoDay : OexC K c_NoDay
  i_NoDay : PySem.W.findIn K (.ref c_NoDay) "__init__" = some (some (.ref a_NoDay___init__))
  ti_NoDay : PySem.W.typeIn K (.ref a_NoDay___init__) = some (.type "function")
  e_NoDay : PySem.W.exmOne K (.ref c_NoDay) (.ref c_NoDay) = some true
  a_BadText___init__ : Addr
  d_BadText___init__ : FuncData
  F_BadText___init__ : Fun K "__init__" "BadText.__init__" s_BadText___init__ a_BadText___init__ d_BadText___init__
  b_BadText___init__ : Binds K d_BadText___init__ ["self", "line"] []
  x_BadText : OexC K c_BadText
  i_BadText : PySem.W.findIn K (.ref c_BadText) "__init__" = some (some (.ref a_BadText___init__))
  ti_BadText : PySem.W.typeIn K (.ref a_BadText___init__) = some (.type "function")
  e_BadText : PySem.W.exmOne K (.ref c_BadText) (.ref c_BadText) = some true
  n_BadText_line : PySem.W.findIn K (.ref c_BadText) "line" = some none
  a_NoLine___init__ : Addr
  d_NoLine___init__ : FuncData
  F_NoLine___init__ : Fun K "__init__" "NoLine.__init__" s_NoLine___init__ a_NoLine___init__ d_NoLine___init__
  b_NoLine___init__ : Binds K d_NoLine___init__ ["self"] []
  x_NoLine : OexC K c_NoLine
  i_NoLine : PySem.W.findIn K (.ref c_NoLine) "__init__" = some (some (.ref a_NoLine___init__))
  ti_NoLine : PySem.W.typeIn K (.ref a_NoLine___init__) = some (.type "function")
  e_NoLine : PySem.W.exmOne K (.ref c_NoLine) (.ref c_NoLine) = some true
  a_NoName___init__ : Addr
  d_NoName___init__ : FuncData
  F_NoName___init__ : Fun K "__init__" "NoName.__init__" s_NoName___init__ a_NoName___init__ d_NoName___init__
  b_NoName___init__ : Binds K d_NoName___init__ ["self", "name"] []
  x_NoName : OexC K c_NoName
  i_NoName : PySem.W.findIn K (.ref c_NoName) "__init__" = some (some (.ref a_NoName___init__))
  ti_NoName : PySem.W.typeIn K (.ref a_NoName___init__) = some (.type "function")
  e_NoName : PySem.W.exmOne K (.ref c_NoName) (.ref c_NoName) = some true
  n_NoName_name : PySem.W.findIn K (.ref c_NoName) "name" = some none
  a_BadTree___init__ : Addr
  d_BadTree___init__ : FuncData
  F_BadTree___init__ : Fun K "__init__" "BadTree.__init__" s_BadTree___init__ a_BadTree___init__ d_BadTree___init__
  b_BadTree___init__ : Binds K d_BadTree___init__ ["self", "at"] []
  x_BadTree : OexC K c_BadTree
  i_BadTree : PySem.W.findIn K (.ref c_BadTree) "__init__" = some (some (.ref a_BadTree___init__))
  ti_BadTree : PySem.W.typeIn K (.ref a_BadTree___init__) = some (.type "function")
  e_BadTree : PySem.W.exmOne K (.ref c_BadTree) (.ref c_BadTree) = some true
  n_BadTree_at : PySem.W.findIn K (.ref c_BadTree) "at" = some none
  a_NoDoorings___init__ : Addr
  d_NoDoorings___init__ : FuncData
  F_NoDoorings___init__ : Fun K "__init__" "NoDoorings.__init__" s_NoDoorings___init__ a_NoDoorings___init__ d_NoDoorings___init__
  b_NoDoorings___init__ : Binds K d_NoDoorings___init__ ["self"] []
  x_NoDoorings : OexC K c_NoDoorings
  i_NoDoorings : PySem.W.findIn K (.ref c_NoDoorings) "__init__" = some (some (.ref a_NoDoorings___init__))
  ti_NoDoorings : PySem.W.typeIn K (.ref a_NoDoorings___init__) = some (.type "function")
  e_NoDoorings : PySem.W.exmOne K (.ref c_NoDoorings) (.ref c_NoDoorings) = some true
  a_NoLong___init__ : Addr
  d_NoLong___init__ : FuncData
  F_NoLong___init__ : Fun K "__init__" "NoLong.__init__" s_NoLong___init__ a_NoLong___init__ d_NoLong___init__
  b_NoLong___init__ : Binds K d_NoLong___init__ ["self"] []
  x_NoLong : OexC K c_NoLong
  i_NoLong : PySem.W.findIn K (.ref c_NoLong) "__init__" = some (some (.ref a_NoLong___init__))
  ti_NoLong : PySem.W.typeIn K (.ref a_NoLong___init__) = some (.type "function")
  e_NoLong : PySem.W.exmOne K (.ref c_NoLong) (.ref c_NoLong) = some true
  a_NoPrices___init__ : Addr
  d_NoPrices___init__ : FuncData
  F_NoPrices___init__ : Fun K "__init__" "NoPrices.__init__" s_NoPrices___init__ a_NoPrices___init__ d_NoPrices___init__
  b_NoPrices___init__ : Binds K d_NoPrices___init__ ["self"] []
  x_NoPrices : OexC K c_NoPrices
  i_NoPrices : PySem.W.findIn K (.ref c_NoPrices) "__init__" = some (some (.ref a_NoPrices___init__))
  ti_NoPrices : PySem.W.typeIn K (.ref a_NoPrices___init__) = some (.type "function")
  e_NoPrices : PySem.W.exmOne K (.ref c_NoPrices) (.ref c_NoPrices) = some true
  a_OtherTables___init__ : Addr
  d_OtherTables___init__ : FuncData
  F_OtherTables___init__ : Fun K "__init__" "OtherTables.__init__" s_OtherTables___init__ a_OtherTables___init__ d_OtherTables___init__
  b_OtherTables___init__ : Binds K d_OtherTables___init__ ["self"] []
  x_OtherTables : OexC K c_OtherTables
  i_OtherTables : PySem.W.findIn K (.ref c_OtherTables) "__init__" = some (some (.ref a_OtherTables___init__))
  ti_OtherTables : PySem.W.typeIn K (.ref a_OtherTables___init__) = some (.type "function")
  e_OtherTables : PySem.W.exmOne K (.ref c_OtherTables) (.ref c_OtherTables) = some true
  a_NoTables___init__ : Addr
  d_NoTables___init__ : FuncData
  F_NoTables___init__ : Fun K "__init__" "NoTables.__init__" s_NoTables___init__ a_NoTables___init__ d_NoTables___init__
  b_NoTables___init__ : Binds K d_NoTables___init__ ["self"] []
  x_NoTables : OexC K c_NoTables
  i_NoTables : PySem.W.findIn K (.ref c_NoTables) "__init__" = some (some (.ref a_NoTables___init__))
  ti_NoTables : PySem.W.typeIn K (.ref a_NoTables___init__) = some (.type "function")
  e_NoTables : PySem.W.exmOne K (.ref c_NoTables) (.ref c_NoTables) = some true
  a_NoTable___init__ : Addr
  d_NoTable___init__ : FuncData
  F_NoTable___init__ : Fun K "__init__" "NoTable.__init__" s_NoTable___init__ a_NoTable___init__ d_NoTable___init__
  b_NoTable___init__ : Binds K d_NoTable___init__ ["self"] []
  x_NoTable : OexC K c_NoTable
  i_NoTable : PySem.W.findIn K (.ref c_NoTable) "__init__" = some (some (.ref a_NoTable___init__))
  ti_NoTable : PySem.W.typeIn K (.ref a_NoTable___init__) = some (.type "function")
  e_NoTable : PySem.W.exmOne K (.ref c_NoTable) (.ref c_NoTable) = some true
  ec_NoComers : ExcC K c_NoComers
  ec_NoBound : ExcC K c_NoBound
  ec_NoComings : ExcC K c_NoComings
  ec_NoSpot : ExcC K c_NoSpot
  ec_NoWalk : ExcC K c_NoWalk
  ec_NoTick : ExcC K c_NoTick
  ec_NoLoops : ExcC K c_NoLoops
  ec_NotDoubling : ExcC K c_NotDoubling
  ec_NoWait : ExcC K c_NoWait
  ec_NoTotal : ExcC K c_NoTotal
  ec_NoRow : ExcC K c_NoRow
  ec_NoTold : ExcC K c_NoTold
  ec_NoStand : ExcC K c_NoStand
  ec_NoNumber : ExcC K c_NoNumber
  ec_NoLaying : ExcC K c_NoLaying
  ec_NoPlan : ExcC K c_NoPlan
  ec_NotKept : ExcC K c_NotKept
  ec_NothingDone : ExcC K c_NothingDone
  ec_NotLost : ExcC K c_NotLost
  ec_Over : ExcC K c_Over
  ec_NoLoop : ExcC K c_NoLoop
  ec_NoWeights : ExcC K c_NoWeights
  ec_NoFraction : ExcC K c_NoFraction
  ec_OtherBounds : ExcC K c_OtherBounds
  ec_NoLetter : ExcC K c_NoLetter
  ec_NoDay : ExcC K c_NoDay
  ec_NoLine : ExcC K c_NoLine
  ec_BadTable : ExcC K c_BadTable
  ec_Meet : ExcC K c_Meet
  ec_TooMany : ExcC K c_TooMany
  ec_BadText : ExcC K c_BadText
  ec_NoName : ExcC K c_NoName
  ec_NoDoorings : ExcC K c_NoDoorings
  ec_NoLong : ExcC K c_NoLong
  ec_NoPrices : ExcC K c_NoPrices
  ec_OtherTables : ExcC K c_OtherTables
  ec_NoTables : ExcC K c_NoTables
  ec_NoTable : ExcC K c_NoTable
  ec_BadTree : ExcC K c_BadTree
  ec_LoopError : ExcC K c_LoopError
  kt_Meet_TooMany : PySem.W.kitOne K (.ref c_Meet) (.ref c_TooMany) = some false
  kt_NoLoops_TooMany : PySem.W.kitOne K (.ref c_NoLoops) (.ref c_TooMany) = some false
  kt_NoLoops_Meet : PySem.W.kitOne K (.ref c_NoLoops) (.ref c_Meet) = some false
  kt_NoLoops_LoopError : PySem.W.kitOne K (.ref c_NoLoops) (.ref c_LoopError) = some true
  kts : EX15.Kts K c_LoopError [c_NoComers, c_NoBound, c_NoComings, c_NoSpot, c_NoWalk, c_NoTick, c_NoLoops, c_NotDoubling, c_NoWait, c_NoTotal, c_NoRow, c_NoTold, c_NoStand, c_NoNumber, c_NoLaying, c_NoPlan, c_NotKept, c_NothingDone, c_NotLost, c_Over, c_NoLoop, c_NoWeights, c_NoFraction, c_OtherBounds, c_NoLetter, c_NoDay, c_NoLine, c_BadTable, c_Meet, c_TooMany, c_BadText, c_NoName, c_NoDoorings, c_NoLong, c_NoPrices, c_OtherTables, c_NoTables, c_NoTable, c_BadTree]
  xm_Meet_TooMany : PySem.W.exmOne K (.ref c_Meet) (.ref c_TooMany) = some false
  xm_NoLoops_TooMany : PySem.W.exmOne K (.ref c_NoLoops) (.ref c_TooMany) = some false
  xm_NoLoops_Meet : PySem.W.exmOne K (.ref c_NoLoops) (.ref c_Meet) = some false
  xm_NoLoops_LoopError : PySem.W.exmOne K (.ref c_NoLoops) (.ref c_LoopError) = some true
/- -/
section
variable {P : Program} {w : World} {K : PySem.W.Frag} {mg : Str → Option Value} {base : Heap}
def spTape (K : PySem.W.Frag) : Sp := fun vs H Q _ => ∃ (a : Addr) (ns : List Int), vs = [.ref a] ∧ SqL K H a (ns.map V.int) ∧ ∀ t s H', H t = none → H s = none → Same H H' → Tape H' t s → Q (.ref t) H'
theorem ok__law_tape (T : Tx K mg) : FnOk P w K mg base CX0 1 T.a__law_tape T.d__law_tape ["script"] (spTape K) := by
  refine T.F__law_tape.ok sc__law_tape (fun vs H Q E h => ?_) (fun cdv A outer s H vs Q E hr h => ?_)
  · obtain ⟨a, ns, rfl, _⟩ := h
    rfl
  · obtain ⟨a, ns, rfl, hS, q⟩ := h
    refine ⟨_, ((pss_one (ps_ret (pe_lst (pa_cons (pe_callTy call_list_of (by rfl) T.m_list (by decide +kernel) (pa_cons (pv 0) pa_nil)) (pa_cons pe_int (pa_cons pe_int (pa_cons pe_int (pa_cons pe_int pa_nil))))))))), ?_⟩
    refine ⟨.ref a, rfl, a, _, rfl, .inl hS, fun l nl => ?_⟩
    refine ⟨by show 5 ≤ sizeLine; decide, fun t nt => ?_⟩
    have nlt : l ≠ t := fun e => by
      rw [← e, upd_same] at nt
      cases nt
    have s1 : Same H (upd H l (.lst (ns.map V.int))) := same_upd nl
    refine q t l _ (Same.free s1 nt) nl (s1.trans (same_upd nt)) ⟨ns, 0, 0, 1, 0, nlt, upd_same, ?_, by decide⟩
    rw [upd_ne nlt, upd_same]
def spPick (K : PySem.W.Frag) : Sp := fun vs H Q _ => ∃ (t s : Addr) (n : Int), vs = [.ref t, .int n] ∧ (0 < n ∧ n < 2 ^ 60) ∧ Tape H t s ∧ ∀ r H', 0 ≤ r → r < n → Moved t H H' → Tape H' t s → Q (.int r) H'
theorem fm_of {a b : Int} (h : 0 < b) : 0 ≤ a.fmod b ∧ a.fmod b < b := by
  rw [Int.fmod_eq_emod_of_nonneg a (Int.le_of_lt h)]
  exact ⟨Int.emod_nonneg a (by omega), Int.emod_lt_of_pos a h⟩
theorem ok__law_pick (T : Tx K mg) : FnOk P w K mg base CX0 1 T.a__law_pick T.d__law_pick ["tape", "size"] (spPick K) := by
  refine T.F__law_pick.ok sc__law_pick (fun vs H Q E h => ?_) (fun cdv A outer s H vs Q E hr h => ?_)
  · obtain ⟨t, l, n, rfl, _⟩ := h
    rfl
  · obtain ⟨t, l, n, rfl, ⟨hn, hn2⟩, ⟨ns, pos, rest, mx, ct, hlt, ht, hl, hp⟩, q⟩ := h
    have wd : ∀ i : Int, CDivW i n := fun i => wide_div hn (b := 60) (by omega) (by decide) (by decide)
    refine ⟨_, ((pss_cons (ps_if (pt_cmpR op_gt (pe_ix ix_list (pv 0) pe_int (fun _ _ => rfl)) pe_int (nomark _)) (pss_cons (ps_set (i := 2) sc__law_pick.nd rfl (.inl rfl) (pe_op op_modN (pe_callTy call_int1 (by rfl) T.m_int (by decide +kernel) (pa_cons (pe_ix ix_list (pv 0) pe_int (fun _ _ => rfl)) pa_nil)) (pv 1)))
  (pss_cons (ps_asg (pe_op op_fdivW (pe_ix ix_list (pv 0) pe_int (fun _ _ => rfl)) (pv 1)) (pg_sub (pv 0) pe_int set_list))
  (pss_one (ps_ret (pv 2))))) pss_nil)
  (pss_cons (ps_asg (pe_op op_add (pe_ix ix_list (pv 0) pe_int (fun _ _ => rfl)) pe_int) (pg_sub (pv 0) pe_int set_list))
  (pss_cons (ps_set (i := 3) sc__law_pick.nd rfl (.inl rfl) pe_int)
  (Evl.pss_cut (ps_if (pt_cmpR op_lt (pe_ix ix_list (pv 0) pe_int (fun _ _ => rfl)) (pe_callB call_len_seq (by rfl) T.m_len PySem.boot_len (pa_cons (pe_ix ix_list (pv 0) pe_int (fun _ _ => rfl)) pa_nil)) (nomark _)) (pss_cons (ps_set (i := 3) sc__law_pick.nd rfl (.inl rfl) (pe_ix ix_list (pe_ix ix_list (pv 0) pe_int (fun _ _ => rfl)) (pe_ix ix_list (pv 0) pe_int (fun _ _ => rfl)) (fun _ _ => rfl)))
  (pss_one (ps_asg (pe_op op_add (pe_ix ix_list (pv 0) pe_int (fun _ _ => rfl)) pe_int) (pg_sub (pv 0) pe_int set_list)))) pss_nil)
  (pss_cons (ps_if (pt_cmpR op_ge (pv 3) (pe_op op_pow pe_int pe_int) (nomark _)) (pss_cons (ps_asg (pe_op op_fdivW (pv 3) (pv 1)) (pg_sub (pv 0) pe_int set_list))
  (pss_one (ps_ret (pe_op op_modN (pe_callTy call_int1 (by rfl) T.m_int (by decide +kernel) (pa_cons (pv 3) pa_nil)) (pv 1))))) pss_nil)
  (pss_cons (ps_set (i := 4) sc__law_pick.nd rfl (.inl rfl) (pe_op op_modN (pe_callTy call_int1 (by rfl) T.m_int (by decide +kernel) (pa_cons (pe_op op_add (pe_op op_add (pe_op op_mul (pe_ix ix_list (pv 0) pe_int (fun _ _ => rfl)) pe_int) (pe_op op_modN (pe_callTy call_int1 (by rfl) T.m_int (by decide +kernel) (pa_cons (pv 3) pa_nil)) pe_int)) (pe_op op_mul (pe_ix ix_list (pv 0) pe_int (fun _ _ => rfl)) pe_int)) pa_nil)) pe_int))
  (pss_cons (ps_set (i := 4) sc__law_pick.nd rfl (.inl rfl) (pe_op op_modN (pe_callTy call_int1 (by rfl) T.m_int (by decide +kernel) (pa_cons (pe_op op_mul (pv 4) (pe_op op_add (pe_op op_fdivW (pv 4) pe_int) pe_int)) pa_nil)) pe_int))
  (pss_cons (ps_asg (pv 4) (pg_sub (pv 0) pe_int set_list))
  (pss_one (ps_ret (pe_op op_modN (pe_callTy call_int1 (by rfl) T.m_int (by decide +kernel) (pa_cons (pe_op op_fdivW (pv 4) pe_int) pa_nil)) (pv 1))))))))))))), ?_⟩
    -- tape[2] > 1
    refine ⟨.ref t, rfl, t, _, 2, _, rfl, rfl, SqL.of ht, atI_nat (j := 2) rfl, _, _, rfl, rfl, _, rfl, ite2 (fun h1 => ?_) (fun h1 => ?_)⟩
    · -- digit
      refine ⟨.ref t, rfl, t, _, 2, _, rfl, rfl, SqL.of ht, atI_nat (j := 2) rfl, .inl ⟨_, rfl, ?_⟩⟩
      refine ⟨.int n, rfl, _, _, rfl, rfl, by omega, ?_⟩
      -- tape[2] = tape[2] // size
      refine ⟨.ref t, rfl, t, _, 2, _, rfl, rfl, SqL.of ht, atI_nat (j := 2) rfl, .int n, rfl, _, _, rfl, rfl, wd _, ?_⟩
      refine ⟨.ref t, rfl, t, _, 2, 2, rfl, rfl, ht, rfl, ?_⟩
      -- return digit
      refine ⟨_, rfl, ?_⟩
      refine q _ _ (fm_of hn).1 (fm_of hn).2 Moved.upd ⟨ns, pos, _, mx, ct, hlt, upd_same, ?_, hp⟩
      rw [upd_ne hlt]
      exact hl
    · -- tape[4] = tape[4] + 1
      refine ⟨.ref t, rfl, t, _, 4, _, rfl, rfl, SqL.of ht, atI_nat (j := 4) rfl, _, _, rfl, rfl, ?_⟩
      refine ⟨.ref t, rfl, t, _, 4, 4, rfl, rfl, ht, rfl, ?_⟩
      -- cell = 0; the first cut
      refine ⟨fun σ' H1 => ∃ (cell p2 : Int) (σ3 σ4 : Option V), σ' = [some (.ref t), some (.int n), σ3, some (.int cell), σ4] ∧ 0 ≤ p2 ∧ H1 t = some (.lst [.ref l, .int p2, .int rest, .int mx, .int (ct + 1)]) ∧ H1 l = some (.lst (ns.map V.int)) ∧ Moved t H H1, ?_, fun σ' H1 hm => ?_⟩
      · have hl1 : (upd H t (.lst [.ref l, .int pos, .int rest, .int mx, .int (ct + 1)])) l = some (.lst (ns.map V.int)) := by
          rw [upd_ne hlt]
          exact hl
        refine ⟨.ref t, rfl, t, _, 1, _, rfl, rfl, SqL.of upd_same, atI_nat (j := 1) rfl, .ref t, rfl, t, _, 0, _, rfl, rfl, SqL.of upd_same, atI_nat (j := 0) rfl, l, _, rfl, .inl (SqL.of hl1), _, _, rfl, rfl, _, rfl, ite2 (fun h2 => ?_) (fun h2 => ?_)⟩
        · have h3 : pos < ((ns.map V.int).length : Int) := of_decide_eq_true h2
          obtain ⟨j, rfl⟩ : ∃ j : Nat, pos = (j : Int) := ⟨pos.toNat, by omega⟩
          have hj : j < ns.length := by
            rw [List.length_map] at h3
            omega
          have gj : (ns.map V.int)[j]? = some (.int ns[j]) := by
            rw [List.getElem?_map, List.getElem?_eq_getElem hj]
            rfl
          -- cell = tape[0][tape[1]]
          refine ⟨.ref t, rfl, t, _, 0, _, rfl, rfl, SqL.of upd_same, atI_nat (j := 0) rfl, .ref t, rfl, t, _, 1, _, rfl, rfl, SqL.of upd_same, atI_nat (j := 1) rfl, l, _, _, _, rfl, rfl, SqL.of hl1, atI_nat gj, ?_⟩
          -- tape[1] = tape[1] + 1
          refine ⟨.ref t, rfl, t, _, 1, _, rfl, rfl, SqL.of upd_same, atI_nat (j := 1) rfl, _, _, rfl, rfl, ?_⟩
          refine ⟨.ref t, rfl, t, _, 1, 1, rfl, rfl, upd_same, rfl, ?_⟩
          rw [upd_upd]
          exact ⟨_, _, _, _, rfl, by omega, upd_same, (by rw [upd_ne hlt]; exact hl), Moved.upd⟩
        · exact ⟨_, _, _, _, rfl, hp, upd_same, hl1, Moved.upd⟩
      · obtain ⟨cell, p2, σ3, σ4, rfl, hp2, ht1, hl1, mv⟩ := hm
        -- cell >= 10 ** 18
        refine ⟨.int cell, rfl, 10, 18, rfl, rfl, ⟨by decide, by decide, by decide⟩, _, _, rfl, rfl, _, rfl, ite2 (fun h2 => ?_) (fun h2 => ?_)⟩
        · refine ⟨.int cell, rfl, .int n, rfl, _, _, rfl, rfl, wd _, .ref t, rfl, t, _, 2, 2, rfl, rfl, ht1, rfl, ?_⟩
          refine ⟨.int cell, rfl, .inl ⟨_, rfl, .int n, rfl, _, _, rfl, rfl, by omega, ?_⟩⟩
          refine q _ _ (fm_of hn).1 (fm_of hn).2 (mv.trans Moved.upd) ⟨ns, p2, _, mx, _, hlt, upd_same, ?_, hp2⟩
          rw [upd_ne hlt]
          exact hl1
        · -- mixed = ..
          refine ⟨.ref t, rfl, t, _, 3, _, rfl, rfl, SqL.of ht1, atI_nat (j := 3) rfl, _, _, rfl, rfl, .inr ⟨by decide, by decide⟩, ?_⟩
          refine ⟨.int cell, rfl, .inl ⟨_, rfl, _, _, rfl, rfl, (by show (2147483629 : Int) ≠ 0; decide), _, _, rfl, rfl, ?_⟩⟩
          refine ⟨.ref t, rfl, t, _, 4, _, rfl, rfl, SqL.of ht1, atI_nat (j := 4) rfl, _, _, rfl, rfl, .inr ⟨by decide, by decide⟩, _, _, rfl, rfl, ?_⟩
          refine .inl ⟨_, rfl, _, _, rfl, rfl, (by show (2147483647 : Int) ≠ 0; decide), ?_⟩
          have bm := fm_of (a := mx * 48271 + cell.fmod 2147483629 + (ct + 1) * 69621) (b := 2147483647) (by decide)
          -- mixed = int(mixed * ..) % ..
          refine ⟨_, rfl, _, rfl, _, _, rfl, rfl, ⟨by decide, by decide⟩, _, _, rfl, rfl, _, _, rfl, rfl, .inl ⟨Int.lt_of_lt_of_le (by decide) bm.1, Int.lt_trans bm.2 (by decide)⟩, .inl ⟨_, rfl, _, _, rfl, rfl, (by show (2147483399 : Int) ≠ 0; decide), ?_⟩⟩
          -- tape[3] = mixed
          refine ⟨_, rfl, .ref t, rfl, t, _, 3, 3, rfl, rfl, ht1, rfl, ?_⟩
          refine ⟨_, rfl, _, _, rfl, rfl, ⟨by decide, by decide⟩, .inl ⟨_, rfl, .int n, rfl, _, _, rfl, rfl, by omega, ?_⟩⟩
          refine q _ _ (fm_of hn).1 (fm_of hn).2 (mv.trans Moved.upd) ⟨ns, p2, _, _, _, hlt, upd_same, ?_, hp2⟩
          rw [upd_ne hlt]
          exact hl1
end

/-! ### the classes of errors and what their making leaves -/
theorem exm_self {K : PySem.W.Frag} {S : Addr} (h1 : PySem.W.subIn K (.ref S) (.type "BaseException") = some true) (h2 : PySem.W.isClsIn K S = true) (h3 : PySem.W.typeIn K (.ref S) = some (.type "type")) (h4 : PySem.W.subIn K (.ref S) (.ref S) = some true) :
    PySem.W.exmOne K (.ref S) (.ref S) = some true := by
  have a : (PySem.W.subIn K (.ref S) (.type "BaseException") == some true) = true := by
    rw [h1]
    rfl
  have h2' : (PySem.W.clsIn K S).isSome = true := h2
  have b : ((PySem.W.clsIn K S).isSome && PySem.W.typeIn K (.ref S) == some (.type "type")) = true := by
    rw [h2', h3]
    rfl
  unfold PySem.W.exmOne
  rw [if_pos a]
  show (if _ then PySem.W.subIn K (.ref S) (.ref S) else none) = some true
  rw [if_pos b]
  exact h4
section
variable {P : Program} {w : World} {K : PySem.W.Frag} {mg : Str → Option Value} {base : Heap}
theorem none_back {H H' : Hp} {p : Addr} (s : Same H H') (n : H' p = none) : H p = none := by
  cases h : H p with
  | none => rfl
  | some o => rw [s _ _ h] at n; cases n
def spI0 : Sp := fun vs H Q _ => ∃ a : Addr, vs = [.ref a] ∧ Q .non H
def spI1 (f : Str) (K : PySem.W.Frag) (C : Addr) : Sp := fun vs H Q _ => ∃ (a : Addr) (m : V), vs = [.ref a, m] ∧ H a = some (exo a C none) ∧
  ∀ dx, H dx = none → dx ≠ a → Q .non (upd (upd H dx (exd dx [(f, m)])) a (exo a C (some dx)))
def spI2 (f g : Str) (K : PySem.W.Frag) (C : Addr) : Sp := fun vs H Q _ => ∃ (a : Addr) (t l : V), vs = [.ref a, t, l] ∧ H a = some (exo a C none) ∧
  ∀ dx, H dx = none → dx ≠ a → Q .non (upd (upd (upd H dx (exd dx [(f, t)])) a (exo a C (some dx))) dx (exd dx [(g, l), (f, t)]))
theorem ok_NoComers___init__ (T : Tx K mg) : FnOk P w K mg base CX0 1 T.a_NoComers___init__ T.d_NoComers___init__ ["self"] spI0 := by
  refine T.F_NoComers___init__.ok sc_NoComers___init__ (fun vs H Q E h => ?_) (fun cdv A outer s H vs Q E hr h => ?_)
  · obtain ⟨a, rfl, _⟩ := h
    rfl
  · obtain ⟨a, rfl, q⟩ := h
    exact ⟨_, ((pss_one ps_pass)), q⟩
theorem ok_NoBound___init__ (T : Tx K mg) : FnOk P w K mg base CX0 1 T.a_NoBound___init__ T.d_NoBound___init__ ["self"] spI0 := by
  refine T.F_NoBound___init__.ok sc_NoBound___init__ (fun vs H Q E h => ?_) (fun cdv A outer s H vs Q E hr h => ?_)
  · obtain ⟨a, rfl, _⟩ := h
    rfl
  · obtain ⟨a, rfl, q⟩ := h
    exact ⟨_, ((pss_one ps_pass)), q⟩
theorem ok_NoComings___init__ (T : Tx K mg) : FnOk P w K mg base CX0 1 T.a_NoComings___init__ T.d_NoComings___init__ ["self"] spI0 := by
  refine T.F_NoComings___init__.ok sc_NoComings___init__ (fun vs H Q E h => ?_) (fun cdv A outer s H vs Q E hr h => ?_)
  · obtain ⟨a, rfl, _⟩ := h
    rfl
  · obtain ⟨a, rfl, q⟩ := h
    exact ⟨_, ((pss_one ps_pass)), q⟩
theorem ok_NoSpot___init__ (T : Tx K mg) : FnOk P w K mg base CX0 1 T.a_NoSpot___init__ T.d_NoSpot___init__ ["self"] spI0 := by
  refine T.F_NoSpot___init__.ok sc_NoSpot___init__ (fun vs H Q E h => ?_) (fun cdv A outer s H vs Q E hr h => ?_)
  · obtain ⟨a, rfl, _⟩ := h
    rfl
  · obtain ⟨a, rfl, q⟩ := h
    exact ⟨_, ((pss_one ps_pass)), q⟩
theorem ok_NoWalk___init__ (T : Tx K mg) : FnOk P w K mg base CX0 1 T.a_NoWalk___init__ T.d_NoWalk___init__ ["self"] spI0 := by
  refine T.F_NoWalk___init__.ok sc_NoWalk___init__ (fun vs H Q E h => ?_) (fun cdv A outer s H vs Q E hr h => ?_)
  · obtain ⟨a, rfl, _⟩ := h
    rfl
  · obtain ⟨a, rfl, q⟩ := h
    exact ⟨_, ((pss_one ps_pass)), q⟩
theorem ok_NoTick___init__ (T : Tx K mg) : FnOk P w K mg base CX0 1 T.a_NoTick___init__ T.d_NoTick___init__ ["self"] spI0 := by
  refine T.F_NoTick___init__.ok sc_NoTick___init__ (fun vs H Q E h => ?_) (fun cdv A outer s H vs Q E hr h => ?_)
  · obtain ⟨a, rfl, _⟩ := h
    rfl
  · obtain ⟨a, rfl, q⟩ := h
    exact ⟨_, ((pss_one ps_pass)), q⟩
theorem ok_NoLoops___init__ (T : Tx K mg) : FnOk P w K mg base CX0 1 T.a_NoLoops___init__ T.d_NoLoops___init__ ["self"] spI0 := by
  refine T.F_NoLoops___init__.ok sc_NoLoops___init__ (fun vs H Q E h => ?_) (fun cdv A outer s H vs Q E hr h => ?_)
  · obtain ⟨a, rfl, _⟩ := h
    rfl
  · obtain ⟨a, rfl, q⟩ := h
    exact ⟨_, ((pss_one ps_pass)), q⟩
theorem ok_NotDoubling___init__ (T : Tx K mg) : FnOk P w K mg base CX0 1 T.a_NotDoubling___init__ T.d_NotDoubling___init__ ["self"] spI0 := by
  refine T.F_NotDoubling___init__.ok sc_NotDoubling___init__ (fun vs H Q E h => ?_) (fun cdv A outer s H vs Q E hr h => ?_)
  · obtain ⟨a, rfl, _⟩ := h
    rfl
  · obtain ⟨a, rfl, q⟩ := h
    exact ⟨_, ((pss_one ps_pass)), q⟩
theorem ok_NoWait___init__ (T : Tx K mg) : FnOk P w K mg base CX0 1 T.a_NoWait___init__ T.d_NoWait___init__ ["self"] spI0 := by
  refine T.F_NoWait___init__.ok sc_NoWait___init__ (fun vs H Q E h => ?_) (fun cdv A outer s H vs Q E hr h => ?_)
  · obtain ⟨a, rfl, _⟩ := h
    rfl
  · obtain ⟨a, rfl, q⟩ := h
    exact ⟨_, ((pss_one ps_pass)), q⟩
theorem ok_NoTotal___init__ (T : Tx K mg) : FnOk P w K mg base CX0 1 T.a_NoTotal___init__ T.d_NoTotal___init__ ["self"] spI0 := by
  refine T.F_NoTotal___init__.ok sc_NoTotal___init__ (fun vs H Q E h => ?_) (fun cdv A outer s H vs Q E hr h => ?_)
  · obtain ⟨a, rfl, _⟩ := h
    rfl
  · obtain ⟨a, rfl, q⟩ := h
    exact ⟨_, ((pss_one ps_pass)), q⟩
theorem ok_NoRow___init__ (T : Tx K mg) : FnOk P w K mg base CX0 1 T.a_NoRow___init__ T.d_NoRow___init__ ["self"] spI0 := by
  refine T.F_NoRow___init__.ok sc_NoRow___init__ (fun vs H Q E h => ?_) (fun cdv A outer s H vs Q E hr h => ?_)
  · obtain ⟨a, rfl, _⟩ := h
    rfl
  · obtain ⟨a, rfl, q⟩ := h
    exact ⟨_, ((pss_one ps_pass)), q⟩
theorem ok_NoTold___init__ (T : Tx K mg) : FnOk P w K mg base CX0 1 T.a_NoTold___init__ T.d_NoTold___init__ ["self"] spI0 := by
  refine T.F_NoTold___init__.ok sc_NoTold___init__ (fun vs H Q E h => ?_) (fun cdv A outer s H vs Q E hr h => ?_)
  · obtain ⟨a, rfl, _⟩ := h
    rfl
  · obtain ⟨a, rfl, q⟩ := h
    exact ⟨_, ((pss_one ps_pass)), q⟩
theorem ok_NoStand___init__ (T : Tx K mg) : FnOk P w K mg base CX0 1 T.a_NoStand___init__ T.d_NoStand___init__ ["self"] spI0 := by
  refine T.F_NoStand___init__.ok sc_NoStand___init__ (fun vs H Q E h => ?_) (fun cdv A outer s H vs Q E hr h => ?_)
  · obtain ⟨a, rfl, _⟩ := h
    rfl
  · obtain ⟨a, rfl, q⟩ := h
    exact ⟨_, ((pss_one ps_pass)), q⟩
theorem ok_NoNumber___init__ (T : Tx K mg) : FnOk P w K mg base CX0 1 T.a_NoNumber___init__ T.d_NoNumber___init__ ["self"] spI0 := by
  refine T.F_NoNumber___init__.ok sc_NoNumber___init__ (fun vs H Q E h => ?_) (fun cdv A outer s H vs Q E hr h => ?_)
  · obtain ⟨a, rfl, _⟩ := h
    rfl
  · obtain ⟨a, rfl, q⟩ := h
    exact ⟨_, ((pss_one ps_pass)), q⟩
theorem ok_NoLaying___init__ (T : Tx K mg) : FnOk P w K mg base CX0 1 T.a_NoLaying___init__ T.d_NoLaying___init__ ["self"] spI0 := by
  refine T.F_NoLaying___init__.ok sc_NoLaying___init__ (fun vs H Q E h => ?_) (fun cdv A outer s H vs Q E hr h => ?_)
  · obtain ⟨a, rfl, _⟩ := h
    rfl
  · obtain ⟨a, rfl, q⟩ := h
    exact ⟨_, ((pss_one ps_pass)), q⟩
theorem ok_NoPlan___init__ (T : Tx K mg) : FnOk P w K mg base CX0 1 T.a_NoPlan___init__ T.d_NoPlan___init__ ["self"] spI0 := by
  refine T.F_NoPlan___init__.ok sc_NoPlan___init__ (fun vs H Q E h => ?_) (fun cdv A outer s H vs Q E hr h => ?_)
  · obtain ⟨a, rfl, _⟩ := h
    rfl
  · obtain ⟨a, rfl, q⟩ := h
    exact ⟨_, ((pss_one ps_pass)), q⟩
theorem ok_NotKept___init__ (T : Tx K mg) : FnOk P w K mg base CX0 1 T.a_NotKept___init__ T.d_NotKept___init__ ["self"] spI0 := by
  refine T.F_NotKept___init__.ok sc_NotKept___init__ (fun vs H Q E h => ?_) (fun cdv A outer s H vs Q E hr h => ?_)
  · obtain ⟨a, rfl, _⟩ := h
    rfl
  · obtain ⟨a, rfl, q⟩ := h
    exact ⟨_, ((pss_one ps_pass)), q⟩
theorem ok_NothingDone___init__ (T : Tx K mg) : FnOk P w K mg base CX0 1 T.a_NothingDone___init__ T.d_NothingDone___init__ ["self"] spI0 := by
  refine T.F_NothingDone___init__.ok sc_NothingDone___init__ (fun vs H Q E h => ?_) (fun cdv A outer s H vs Q E hr h => ?_)
  · obtain ⟨a, rfl, _⟩ := h
    rfl
  · obtain ⟨a, rfl, q⟩ := h
    exact ⟨_, ((pss_one ps_pass)), q⟩
theorem ok_NotLost___init__ (T : Tx K mg) : FnOk P w K mg base CX0 1 T.a_NotLost___init__ T.d_NotLost___init__ ["self"] spI0 := by
  refine T.F_NotLost___init__.ok sc_NotLost___init__ (fun vs H Q E h => ?_) (fun cdv A outer s H vs Q E hr h => ?_)
  · obtain ⟨a, rfl, _⟩ := h
    rfl
  · obtain ⟨a, rfl, q⟩ := h
    exact ⟨_, ((pss_one ps_pass)), q⟩
theorem ok_Over___init__ (T : Tx K mg) : FnOk P w K mg base CX0 1 T.a_Over___init__ T.d_Over___init__ ["self"] spI0 := by
  refine T.F_Over___init__.ok sc_Over___init__ (fun vs H Q E h => ?_) (fun cdv A outer s H vs Q E hr h => ?_)
  · obtain ⟨a, rfl, _⟩ := h
    rfl
  · obtain ⟨a, rfl, q⟩ := h
    exact ⟨_, ((pss_one ps_pass)), q⟩
theorem ok_NoLoop___init__ (T : Tx K mg) : FnOk P w K mg base CX0 1 T.a_NoLoop___init__ T.d_NoLoop___init__ ["self"] spI0 := by
  refine T.F_NoLoop___init__.ok sc_NoLoop___init__ (fun vs H Q E h => ?_) (fun cdv A outer s H vs Q E hr h => ?_)
  · obtain ⟨a, rfl, _⟩ := h
    rfl
  · obtain ⟨a, rfl, q⟩ := h
    exact ⟨_, ((pss_one ps_pass)), q⟩
theorem ok_NoWeights___init__ (T : Tx K mg) : FnOk P w K mg base CX0 1 T.a_NoWeights___init__ T.d_NoWeights___init__ ["self"] spI0 := by
  refine T.F_NoWeights___init__.ok sc_NoWeights___init__ (fun vs H Q E h => ?_) (fun cdv A outer s H vs Q E hr h => ?_)
  · obtain ⟨a, rfl, _⟩ := h
    rfl
  · obtain ⟨a, rfl, q⟩ := h
    exact ⟨_, ((pss_one ps_pass)), q⟩
theorem ok_NoFraction___init__ (T : Tx K mg) : FnOk P w K mg base CX0 1 T.a_NoFraction___init__ T.d_NoFraction___init__ ["self"] spI0 := by
  refine T.F_NoFraction___init__.ok sc_NoFraction___init__ (fun vs H Q E h => ?_) (fun cdv A outer s H vs Q E hr h => ?_)
  · obtain ⟨a, rfl, _⟩ := h
    rfl
  · obtain ⟨a, rfl, q⟩ := h
    exact ⟨_, ((pss_one ps_pass)), q⟩
theorem ok_OtherBounds___init__ (T : Tx K mg) : FnOk P w K mg base CX0 1 T.a_OtherBounds___init__ T.d_OtherBounds___init__ ["self"] spI0 := by
  refine T.F_OtherBounds___init__.ok sc_OtherBounds___init__ (fun vs H Q E h => ?_) (fun cdv A outer s H vs Q E hr h => ?_)
  · obtain ⟨a, rfl, _⟩ := h
    rfl
  · obtain ⟨a, rfl, q⟩ := h
    exact ⟨_, ((pss_one ps_pass)), q⟩
theorem ok_NoLetter___init__ (T : Tx K mg) : FnOk P w K mg base CX0 1 T.a_NoLetter___init__ T.d_NoLetter___init__ ["self"] spI0 := by
  refine T.F_NoLetter___init__.ok sc_NoLetter___init__ (fun vs H Q E h => ?_) (fun cdv A outer s H vs Q E hr h => ?_)
  · obtain ⟨a, rfl, _⟩ := h
    rfl
  · obtain ⟨a, rfl, q⟩ := h
    exact ⟨_, ((pss_one ps_pass)), q⟩
theorem ok_NoDay___init__ (T : Tx K mg) : FnOk P w K mg base CX0 1 T.a_NoDay___init__ T.d_NoDay___init__ ["self"] spI0 := by
  refine T.F_NoDay___init__.ok sc_NoDay___init__ (fun vs H Q E h => ?_) (fun cdv A outer s H vs Q E hr h => ?_)
  · obtain ⟨a, rfl, _⟩ := h
    rfl
  · obtain ⟨a, rfl, q⟩ := h
    exact ⟨_, ((pss_one ps_pass)), q⟩
theorem ok_NoLine___init__ (T : Tx K mg) : FnOk P w K mg base CX0 1 T.a_NoLine___init__ T.d_NoLine___init__ ["self"] spI0 := by
  refine T.F_NoLine___init__.ok sc_NoLine___init__ (fun vs H Q E h => ?_) (fun cdv A outer s H vs Q E hr h => ?_)
  · obtain ⟨a, rfl, _⟩ := h
    rfl
  · obtain ⟨a, rfl, q⟩ := h
    exact ⟨_, ((pss_one ps_pass)), q⟩
theorem ok_BadTable___init__ (T : Tx K mg) : FnOk P w K mg base CX0 1 T.a_BadTable___init__ T.d_BadTable___init__ ["self", "part", "at"] (spI2 "part" "at" K T.c_BadTable) := by
  refine T.F_BadTable___init__.ok sc_BadTable___init__ (fun vs H Q E h => ?_) (fun cdv A outer s H vs Q E hr h => ?_)
  · obtain ⟨a, t, l, rfl, _⟩ := h
    rfl
  · obtain ⟨a, t, l, rfl, ea, q⟩ := h
    refine ⟨_, ((pss_cons (ps_ost (pv 0) (pv 1))
  (pss_one (ps_ost (pv 0) (pv 2))))), ?_⟩
    refine ⟨t, rfl, .ref a, rfl, a, T.c_BadTable, rfl, T.x_BadTable, T.n_BadTable_part, .inl ⟨ea, fun dx nd ne => ?_⟩⟩
    refine ⟨l, rfl, .ref a, rfl, a, T.c_BadTable, rfl, T.x_BadTable, T.n_BadTable_at, .inr ⟨dx, _, upd_same, (upd_ne ne).trans upd_same, by show 1 ≤ 900; decide, ?_⟩⟩
    exact q dx nd ne
theorem ok_Meet___init__ (T : Tx K mg) : FnOk P w K mg base CX0 1 T.a_Meet___init__ T.d_Meet___init__ ["self", "tick", "loop"] (spI2 "tick" "loop" K T.c_Meet) := by
  refine T.F_Meet___init__.ok sc_Meet___init__ (fun vs H Q E h => ?_) (fun cdv A outer s H vs Q E hr h => ?_)
  · obtain ⟨a, t, l, rfl, _⟩ := h
    rfl
  · obtain ⟨a, t, l, rfl, ea, q⟩ := h
    refine ⟨_, ((pss_cons (ps_ost (pv 0) (pv 1))
  (pss_one (ps_ost (pv 0) (pv 2))))), ?_⟩
    refine ⟨t, rfl, .ref a, rfl, a, T.c_Meet, rfl, T.x_Meet, T.n_Meet_tick, .inl ⟨ea, fun dx nd ne => ?_⟩⟩
    refine ⟨l, rfl, .ref a, rfl, a, T.c_Meet, rfl, T.x_Meet, T.n_Meet_loop, .inr ⟨dx, _, upd_same, (upd_ne ne).trans upd_same, by show 1 ≤ 900; decide, ?_⟩⟩
    exact q dx nd ne
theorem ok_TooMany___init__ (T : Tx K mg) : FnOk P w K mg base CX0 1 T.a_TooMany___init__ T.d_TooMany___init__ ["self", "most"] (spI1 "most" K T.c_TooMany) := by
  refine T.F_TooMany___init__.ok sc_TooMany___init__ (fun vs H Q E h => ?_) (fun cdv A outer s H vs Q E hr h => ?_)
  · obtain ⟨a, m, rfl, _⟩ := h
    rfl
  · obtain ⟨a, m, rfl, ha, q⟩ := h
    refine ⟨_, ((pss_one (ps_ost (pv 0) (pv 1)))), ?_⟩
    exact ⟨m, rfl, .ref a, rfl, a, T.c_TooMany, rfl, T.x_TooMany, T.n_TooMany_most, .inl ⟨ha, fun dx nd ne => q dx nd ne⟩⟩
theorem ok_BadText___init__ (T : Tx K mg) : FnOk P w K mg base CX0 1 T.a_BadText___init__ T.d_BadText___init__ ["self", "line"] (spI1 "line" K T.c_BadText) := by
  refine T.F_BadText___init__.ok sc_BadText___init__ (fun vs H Q E h => ?_) (fun cdv A outer s H vs Q E hr h => ?_)
  · obtain ⟨a, m, rfl, _⟩ := h
    rfl
  · obtain ⟨a, m, rfl, ha, q⟩ := h
    refine ⟨_, ((pss_one (ps_ost (pv 0) (pv 1)))), ?_⟩
    exact ⟨m, rfl, .ref a, rfl, a, T.c_BadText, rfl, T.x_BadText, T.n_BadText_line, .inl ⟨ha, fun dx nd ne => q dx nd ne⟩⟩
theorem ok_NoName___init__ (T : Tx K mg) : FnOk P w K mg base CX0 1 T.a_NoName___init__ T.d_NoName___init__ ["self", "name"] (spI1 "name" K T.c_NoName) := by
  refine T.F_NoName___init__.ok sc_NoName___init__ (fun vs H Q E h => ?_) (fun cdv A outer s H vs Q E hr h => ?_)
  · obtain ⟨a, m, rfl, _⟩ := h
    rfl
  · obtain ⟨a, m, rfl, ha, q⟩ := h
    refine ⟨_, ((pss_one (ps_ost (pv 0) (pv 1)))), ?_⟩
    exact ⟨m, rfl, .ref a, rfl, a, T.c_NoName, rfl, T.x_NoName, T.n_NoName_name, .inl ⟨ha, fun dx nd ne => q dx nd ne⟩⟩
theorem ok_NoDoorings___init__ (T : Tx K mg) : FnOk P w K mg base CX0 1 T.a_NoDoorings___init__ T.d_NoDoorings___init__ ["self"] spI0 := by
  refine T.F_NoDoorings___init__.ok sc_NoDoorings___init__ (fun vs H Q E h => ?_) (fun cdv A outer s H vs Q E hr h => ?_)
  · obtain ⟨a, rfl, _⟩ := h
    rfl
  · obtain ⟨a, rfl, q⟩ := h
    exact ⟨_, ((pss_one ps_pass)), q⟩
theorem ok_NoLong___init__ (T : Tx K mg) : FnOk P w K mg base CX0 1 T.a_NoLong___init__ T.d_NoLong___init__ ["self"] spI0 := by
  refine T.F_NoLong___init__.ok sc_NoLong___init__ (fun vs H Q E h => ?_) (fun cdv A outer s H vs Q E hr h => ?_)
  · obtain ⟨a, rfl, _⟩ := h
    rfl
  · obtain ⟨a, rfl, q⟩ := h
    exact ⟨_, ((pss_one ps_pass)), q⟩
theorem ok_NoPrices___init__ (T : Tx K mg) : FnOk P w K mg base CX0 1 T.a_NoPrices___init__ T.d_NoPrices___init__ ["self"] spI0 := by
  refine T.F_NoPrices___init__.ok sc_NoPrices___init__ (fun vs H Q E h => ?_) (fun cdv A outer s H vs Q E hr h => ?_)
  · obtain ⟨a, rfl, _⟩ := h
    rfl
  · obtain ⟨a, rfl, q⟩ := h
    exact ⟨_, ((pss_one ps_pass)), q⟩
theorem ok_OtherTables___init__ (T : Tx K mg) : FnOk P w K mg base CX0 1 T.a_OtherTables___init__ T.d_OtherTables___init__ ["self"] spI0 := by
  refine T.F_OtherTables___init__.ok sc_OtherTables___init__ (fun vs H Q E h => ?_) (fun cdv A outer s H vs Q E hr h => ?_)
  · obtain ⟨a, rfl, _⟩ := h
    rfl
  · obtain ⟨a, rfl, q⟩ := h
    exact ⟨_, ((pss_one ps_pass)), q⟩
theorem ok_NoTables___init__ (T : Tx K mg) : FnOk P w K mg base CX0 1 T.a_NoTables___init__ T.d_NoTables___init__ ["self"] spI0 := by
  refine T.F_NoTables___init__.ok sc_NoTables___init__ (fun vs H Q E h => ?_) (fun cdv A outer s H vs Q E hr h => ?_)
  · obtain ⟨a, rfl, _⟩ := h
    rfl
  · obtain ⟨a, rfl, q⟩ := h
    exact ⟨_, ((pss_one ps_pass)), q⟩
theorem ok_NoTable___init__ (T : Tx K mg) : FnOk P w K mg base CX0 1 T.a_NoTable___init__ T.d_NoTable___init__ ["self"] spI0 := by
  refine T.F_NoTable___init__.ok sc_NoTable___init__ (fun vs H Q E h => ?_) (fun cdv A outer s H vs Q E hr h => ?_)
  · obtain ⟨a, rfl, _⟩ := h
    rfl
  · obtain ⟨a, rfl, q⟩ := h
    exact ⟨_, ((pss_one ps_pass)), q⟩
theorem ok_BadTree___init__ (T : Tx K mg) : FnOk P w K mg base CX0 1 T.a_BadTree___init__ T.d_BadTree___init__ ["self", "at"] (spI1 "at" K T.c_BadTree) := by
  refine T.F_BadTree___init__.ok sc_BadTree___init__ (fun vs H Q E h => ?_) (fun cdv A outer s H vs Q E hr h => ?_)
  · obtain ⟨a, m, rfl, _⟩ := h
    rfl
  · obtain ⟨a, m, rfl, ha, q⟩ := h
    refine ⟨_, ((pss_one (ps_ost (pv 0) (pv 1)))), ?_⟩
    exact ⟨m, rfl, .ref a, rfl, a, T.c_BadTree, rfl, T.x_BadTree, T.n_BadTree_at, .inl ⟨ha, fun dx nd ne => q dx nd ne⟩⟩
end

/-! ### what an error is asked for -/
section
variable {P : Program} {w : World} {K : PySem.W.Frag} {mg : Str → Option Value} {base : Heap}
abbrev clsL (T : Tx K mg) : List Addr := [T.c_NoComers, T.c_NoBound, T.c_NoComings, T.c_NoSpot, T.c_NoWalk, T.c_NoTick, T.c_NoLoops, T.c_NotDoubling, T.c_NoWait, T.c_NoTotal, T.c_NoRow, T.c_NoTold, T.c_NoStand, T.c_NoNumber, T.c_NoLaying, T.c_NoPlan, T.c_NotKept, T.c_NothingDone, T.c_NotLost, T.c_Over, T.c_NoLoop, T.c_NoWeights, T.c_NoFraction, T.c_OtherBounds, T.c_NoLetter, T.c_NoDay, T.c_NoLine, T.c_BadTable, T.c_Meet, T.c_TooMany, T.c_BadText, T.c_NoName, T.c_NoDoorings, T.c_NoLong, T.c_NoPrices, T.c_OtherTables, T.c_NoTables, T.c_NoTable, T.c_BadTree]
/-- an error of the i-th class -/
def Exc (T : Tx K mg) (H : Hp) (i : Nat) (a : Addr) : Prop := ∃ C d, (clsL T)[i]? = some C ∧ H a = some (exo a C d) ∧ ∀ dd, d = some dd → ∃ fs, H dd = some (exd dd fs)
theorem Exc.same {T : Tx K mg} {H H' : Hp} {i : Nat} {a : Addr} (s : Same H H') (h : Exc T H i a) : Exc T H' i a := by
  obtain ⟨C, d, e, ea, ed⟩ := h
  exact ⟨C, d, e, s _ _ ea, fun dd z => by
    obtain ⟨fs, q⟩ := ed dd z
    exact ⟨fs, s _ _ q⟩⟩
theorem Exc.is {T : Tx K mg} {H H' : Hp} {i j : Nat} {a b : Addr} (h : Exc T H i a) (hb : (clsL T)[j]? = some b) (s : Same H H') {Q : VK} (q : Q (.bl (decide (i = j))) H') : EX15.rIsG K [.ref a, .ref b] H' Q := by
  obtain ⟨C, d, e, ea, ed⟩ := h.same s
  exact ⟨C, a, d, .ref b, _, _, rfl, T.kts.ec i C e, ea, ed, .own b, T.kts.one i j C b e hb, q⟩
def fl39 (i : Nat) : List V := (List.range 39).map fun j => V.bl (decide (i = j))
def spFlags (T : Tx K mg) : Sp := fun vs H Q _ => ∃ (a : Addr) (i : Nat), vs = [.ref a] ∧ Exc T H i a ∧ ∀ p H', H p = none → Same H H' → H' p = some (.lst (fl39 i)) → Q (.ref p) H'
theorem ok__law_flags (T : Tx K mg) : FnOk P w K mg base CX0 1 T.a__law_flags T.d__law_flags ["e"] (spFlags T) := by
  refine T.F__law_flags.ok sc__law_flags (fun vs H Q E h => ?_) (fun cdv A outer s H vs Q E hr h => ?_)
  · obtain ⟨a, i, rfl, _⟩ := h
    rfl
  · obtain ⟨a, i, rfl, x, q⟩ := h
    refine ⟨_, ((pss_cons (ps_set (i := 1) sc__law_flags.nd rfl (.inl rfl) (pe_lst (pa_cons (pe_callB (EX15.call_isG) (by rfl) T.m_isinstance (by decide +kernel) (pa_cons (pv 0) (pa_cons (pe_glob (v := .ref T.c_NoComers) rfl T.g_NoComers rfl) pa_nil))) (pa_cons (pe_callB (EX15.call_isG) (by rfl) T.m_isinstance (by decide +kernel) (pa_cons (pv 0) (pa_cons (pe_glob (v := .ref T.c_NoBound) rfl T.g_NoBound rfl) pa_nil))) (pa_cons (pe_callB (EX15.call_isG) (by rfl) T.m_isinstance (by decide +kernel) (pa_cons (pv 0) (pa_cons (pe_glob (v := .ref T.c_NoComings) rfl T.g_NoComings rfl) pa_nil))) (pa_cons (pe_callB (EX15.call_isG) (by rfl) T.m_isinstance (by decide +kernel) (pa_cons (pv 0) (pa_cons (pe_glob (v := .ref T.c_NoSpot) rfl T.g_NoSpot rfl) pa_nil))) pa_nil))))))
  (pss_cons (ps_set (i := 1) sc__law_flags.nd rfl (.inl rfl) (pe_op op_cat (pv 1) (pe_lst (pa_cons (pe_callB (EX15.call_isG) (by rfl) T.m_isinstance (by decide +kernel) (pa_cons (pv 0) (pa_cons (pe_glob (v := .ref T.c_NoWalk) rfl T.g_NoWalk rfl) pa_nil))) (pa_cons (pe_callB (EX15.call_isG) (by rfl) T.m_isinstance (by decide +kernel) (pa_cons (pv 0) (pa_cons (pe_glob (v := .ref T.c_NoTick) rfl T.g_NoTick rfl) pa_nil))) (pa_cons (pe_callB (EX15.call_isG) (by rfl) T.m_isinstance (by decide +kernel) (pa_cons (pv 0) (pa_cons (pe_glob (v := .ref T.c_NoLoops) rfl T.g_NoLoops rfl) pa_nil))) (pa_cons (pe_callB (EX15.call_isG) (by rfl) T.m_isinstance (by decide +kernel) (pa_cons (pv 0) (pa_cons (pe_glob (v := .ref T.c_NotDoubling) rfl T.g_NotDoubling rfl) pa_nil))) pa_nil)))))))
  (pss_cons (ps_set (i := 1) sc__law_flags.nd rfl (.inl rfl) (pe_op op_cat (pv 1) (pe_lst (pa_cons (pe_callB (EX15.call_isG) (by rfl) T.m_isinstance (by decide +kernel) (pa_cons (pv 0) (pa_cons (pe_glob (v := .ref T.c_NoWait) rfl T.g_NoWait rfl) pa_nil))) (pa_cons (pe_callB (EX15.call_isG) (by rfl) T.m_isinstance (by decide +kernel) (pa_cons (pv 0) (pa_cons (pe_glob (v := .ref T.c_NoTotal) rfl T.g_NoTotal rfl) pa_nil))) (pa_cons (pe_callB (EX15.call_isG) (by rfl) T.m_isinstance (by decide +kernel) (pa_cons (pv 0) (pa_cons (pe_glob (v := .ref T.c_NoRow) rfl T.g_NoRow rfl) pa_nil))) (pa_cons (pe_callB (EX15.call_isG) (by rfl) T.m_isinstance (by decide +kernel) (pa_cons (pv 0) (pa_cons (pe_glob (v := .ref T.c_NoTold) rfl T.g_NoTold rfl) pa_nil))) pa_nil)))))))
  (pss_cons (ps_set (i := 1) sc__law_flags.nd rfl (.inl rfl) (pe_op op_cat (pv 1) (pe_lst (pa_cons (pe_callB (EX15.call_isG) (by rfl) T.m_isinstance (by decide +kernel) (pa_cons (pv 0) (pa_cons (pe_glob (v := .ref T.c_NoStand) rfl T.g_NoStand rfl) pa_nil))) (pa_cons (pe_callB (EX15.call_isG) (by rfl) T.m_isinstance (by decide +kernel) (pa_cons (pv 0) (pa_cons (pe_glob (v := .ref T.c_NoNumber) rfl T.g_NoNumber rfl) pa_nil))) (pa_cons (pe_callB (EX15.call_isG) (by rfl) T.m_isinstance (by decide +kernel) (pa_cons (pv 0) (pa_cons (pe_glob (v := .ref T.c_NoLaying) rfl T.g_NoLaying rfl) pa_nil))) (pa_cons (pe_callB (EX15.call_isG) (by rfl) T.m_isinstance (by decide +kernel) (pa_cons (pv 0) (pa_cons (pe_glob (v := .ref T.c_NoPlan) rfl T.g_NoPlan rfl) pa_nil))) pa_nil)))))))
  (pss_cons (ps_set (i := 1) sc__law_flags.nd rfl (.inl rfl) (pe_op op_cat (pv 1) (pe_lst (pa_cons (pe_callB (EX15.call_isG) (by rfl) T.m_isinstance (by decide +kernel) (pa_cons (pv 0) (pa_cons (pe_glob (v := .ref T.c_NotKept) rfl T.g_NotKept rfl) pa_nil))) (pa_cons (pe_callB (EX15.call_isG) (by rfl) T.m_isinstance (by decide +kernel) (pa_cons (pv 0) (pa_cons (pe_glob (v := .ref T.c_NothingDone) rfl T.g_NothingDone rfl) pa_nil))) (pa_cons (pe_callB (EX15.call_isG) (by rfl) T.m_isinstance (by decide +kernel) (pa_cons (pv 0) (pa_cons (pe_glob (v := .ref T.c_NotLost) rfl T.g_NotLost rfl) pa_nil))) (pa_cons (pe_callB (EX15.call_isG) (by rfl) T.m_isinstance (by decide +kernel) (pa_cons (pv 0) (pa_cons (pe_glob (v := .ref T.c_Over) rfl T.g_Over rfl) pa_nil))) pa_nil)))))))
  (pss_cons (ps_set (i := 1) sc__law_flags.nd rfl (.inl rfl) (pe_op op_cat (pv 1) (pe_lst (pa_cons (pe_callB (EX15.call_isG) (by rfl) T.m_isinstance (by decide +kernel) (pa_cons (pv 0) (pa_cons (pe_glob (v := .ref T.c_NoLoop) rfl T.g_NoLoop rfl) pa_nil))) (pa_cons (pe_callB (EX15.call_isG) (by rfl) T.m_isinstance (by decide +kernel) (pa_cons (pv 0) (pa_cons (pe_glob (v := .ref T.c_NoWeights) rfl T.g_NoWeights rfl) pa_nil))) (pa_cons (pe_callB (EX15.call_isG) (by rfl) T.m_isinstance (by decide +kernel) (pa_cons (pv 0) (pa_cons (pe_glob (v := .ref T.c_NoFraction) rfl T.g_NoFraction rfl) pa_nil))) pa_nil))))))
  (pss_cons (ps_set (i := 1) sc__law_flags.nd rfl (.inl rfl) (pe_op op_cat (pv 1) (pe_lst (pa_cons (pe_callB (EX15.call_isG) (by rfl) T.m_isinstance (by decide +kernel) (pa_cons (pv 0) (pa_cons (pe_glob (v := .ref T.c_OtherBounds) rfl T.g_OtherBounds rfl) pa_nil))) (pa_cons (pe_callB (EX15.call_isG) (by rfl) T.m_isinstance (by decide +kernel) (pa_cons (pv 0) (pa_cons (pe_glob (v := .ref T.c_NoLetter) rfl T.g_NoLetter rfl) pa_nil))) (pa_cons (pe_callB (EX15.call_isG) (by rfl) T.m_isinstance (by decide +kernel) (pa_cons (pv 0) (pa_cons (pe_glob (v := .ref T.c_NoDay) rfl T.g_NoDay rfl) pa_nil))) (pa_cons (pe_callB (EX15.call_isG) (by rfl) T.m_isinstance (by decide +kernel) (pa_cons (pv 0) (pa_cons (pe_glob (v := .ref T.c_NoLine) rfl T.g_NoLine rfl) pa_nil))) pa_nil)))))))
  (pss_cons (ps_set (i := 1) sc__law_flags.nd rfl (.inl rfl) (pe_op op_cat (pv 1) (pe_lst (pa_cons (pe_callB (EX15.call_isG) (by rfl) T.m_isinstance (by decide +kernel) (pa_cons (pv 0) (pa_cons (pe_glob (v := .ref T.c_BadTable) rfl T.g_BadTable rfl) pa_nil))) (pa_cons (pe_callB (EX15.call_isG) (by rfl) T.m_isinstance (by decide +kernel) (pa_cons (pv 0) (pa_cons (pe_glob (v := .ref T.c_Meet) rfl T.g_Meet rfl) pa_nil))) (pa_cons (pe_callB (EX15.call_isG) (by rfl) T.m_isinstance (by decide +kernel) (pa_cons (pv 0) (pa_cons (pe_glob (v := .ref T.c_TooMany) rfl T.g_TooMany rfl) pa_nil))) (pa_cons (pe_callB (EX15.call_isG) (by rfl) T.m_isinstance (by decide +kernel) (pa_cons (pv 0) (pa_cons (pe_glob (v := .ref T.c_BadText) rfl T.g_BadText rfl) pa_nil))) pa_nil)))))))
  (pss_cons (ps_set (i := 1) sc__law_flags.nd rfl (.inl rfl) (pe_op op_cat (pv 1) (pe_lst (pa_cons (pe_callB (EX15.call_isG) (by rfl) T.m_isinstance (by decide +kernel) (pa_cons (pv 0) (pa_cons (pe_glob (v := .ref T.c_NoName) rfl T.g_NoName rfl) pa_nil))) (pa_cons (pe_callB (EX15.call_isG) (by rfl) T.m_isinstance (by decide +kernel) (pa_cons (pv 0) (pa_cons (pe_glob (v := .ref T.c_NoDoorings) rfl T.g_NoDoorings rfl) pa_nil))) (pa_cons (pe_callB (EX15.call_isG) (by rfl) T.m_isinstance (by decide +kernel) (pa_cons (pv 0) (pa_cons (pe_glob (v := .ref T.c_NoLong) rfl T.g_NoLong rfl) pa_nil))) (pa_cons (pe_callB (EX15.call_isG) (by rfl) T.m_isinstance (by decide +kernel) (pa_cons (pv 0) (pa_cons (pe_glob (v := .ref T.c_NoPrices) rfl T.g_NoPrices rfl) pa_nil))) pa_nil)))))))
  (pss_cons (ps_set (i := 1) sc__law_flags.nd rfl (.inl rfl) (pe_op op_cat (pv 1) (pe_lst (pa_cons (pe_callB (EX15.call_isG) (by rfl) T.m_isinstance (by decide +kernel) (pa_cons (pv 0) (pa_cons (pe_glob (v := .ref T.c_OtherTables) rfl T.g_OtherTables rfl) pa_nil))) (pa_cons (pe_callB (EX15.call_isG) (by rfl) T.m_isinstance (by decide +kernel) (pa_cons (pv 0) (pa_cons (pe_glob (v := .ref T.c_NoTables) rfl T.g_NoTables rfl) pa_nil))) (pa_cons (pe_callB (EX15.call_isG) (by rfl) T.m_isinstance (by decide +kernel) (pa_cons (pv 0) (pa_cons (pe_glob (v := .ref T.c_NoTable) rfl T.g_NoTable rfl) pa_nil))) pa_nil))))))
  (pss_one (ps_ret (pe_op op_cat (pv 1) (pe_lst (pa_cons (pe_callB (EX15.call_isG) (by rfl) T.m_isinstance (by decide +kernel) (pa_cons (pv 0) (pa_cons (pe_glob (v := .ref T.c_BadTree) rfl T.g_BadTree rfl) pa_nil))) pa_nil)))))))))))))))), ?_⟩
    obtain ⟨C, d, eC, Ha, Hd⟩ := x
    have ecC := T.kts.ec i C eC
    refine ⟨.ref a, rfl, C, a, d, .ref T.c_NoComers, _, _, rfl, ecC, Ha, Hd, .own _, T.kts.one i 0 C _ eC rfl, ?_⟩
    refine ⟨.ref a, rfl, C, a, d, .ref T.c_NoBound, _, _, rfl, ecC, Ha, Hd, .own _, T.kts.one i 1 C _ eC rfl, ?_⟩
    refine ⟨.ref a, rfl, C, a, d, .ref T.c_NoComings, _, _, rfl, ecC, Ha, Hd, .own _, T.kts.one i 2 C _ eC rfl, ?_⟩
    refine ⟨.ref a, rfl, C, a, d, .ref T.c_NoSpot, _, _, rfl, ecC, Ha, Hd, .own _, T.kts.one i 3 C _ eC rfl, ?_⟩
    refine ⟨by show 4 ≤ sizeLine; decide, fun f0 nf0 => ?_⟩
    have s0 : Same H (upd H f0 (.lst [V.bl (decide (i = 0)), V.bl (decide (i = 1)), V.bl (decide (i = 2)), V.bl (decide (i = 3))])) := same_upd nf0
    have e0 : upd H f0 (.lst [V.bl (decide (i = 0)), V.bl (decide (i = 1)), V.bl (decide (i = 2)), V.bl (decide (i = 3))]) f0 = some (.lst [V.bl (decide (i = 0)), V.bl (decide (i = 1)), V.bl (decide (i = 2)), V.bl (decide (i = 3))]) := upd_same
    generalize upd H f0 (.lst [V.bl (decide (i = 0)), V.bl (decide (i = 1)), V.bl (decide (i = 2)), V.bl (decide (i = 3))]) = H0 at *
    have H0a := s0 _ _ Ha
    have H0d : ∀ dd, d = some dd → ∃ fs, H0 dd = some (exd dd fs) := fun dd z => ((Hd dd z).elim fun fs q => ⟨fs, s0 _ _ q⟩)
    have c0 := e0
    have z0 := s0
    refine ⟨.ref f0, rfl, .ref a, rfl, C, a, d, .ref T.c_NoWalk, _, _, rfl, ecC, H0a, H0d, .own _, T.kts.one i 4 C _ eC rfl, ?_⟩
    refine ⟨.ref a, rfl, C, a, d, .ref T.c_NoTick, _, _, rfl, ecC, H0a, H0d, .own _, T.kts.one i 5 C _ eC rfl, ?_⟩
    refine ⟨.ref a, rfl, C, a, d, .ref T.c_NoLoops, _, _, rfl, ecC, H0a, H0d, .own _, T.kts.one i 6 C _ eC rfl, ?_⟩
    refine ⟨.ref a, rfl, C, a, d, .ref T.c_NotDoubling, _, _, rfl, ecC, H0a, H0d, .own _, T.kts.one i 7 C _ eC rfl, ?_⟩
    refine ⟨by show 4 ≤ sizeLine; decide, fun p1 np1 => ?_⟩
    have s1 : Same H0 (upd H0 p1 (.lst [V.bl (decide (i = 4)), V.bl (decide (i = 5)), V.bl (decide (i = 6)), V.bl (decide (i = 7))])) := same_upd np1
    have e1 : upd H0 p1 (.lst [V.bl (decide (i = 4)), V.bl (decide (i = 5)), V.bl (decide (i = 6)), V.bl (decide (i = 7))]) p1 = some (.lst [V.bl (decide (i = 4)), V.bl (decide (i = 5)), V.bl (decide (i = 6)), V.bl (decide (i = 7))]) := upd_same
    generalize upd H0 p1 (.lst [V.bl (decide (i = 4)), V.bl (decide (i = 5)), V.bl (decide (i = 6)), V.bl (decide (i = 7))]) = H1 at *
    have H1a := s1 _ _ H0a
    have H1d : ∀ dd, d = some dd → ∃ fs, H1 dd = some (exd dd fs) := fun dd z => ((H0d dd z).elim fun fs q => ⟨fs, s1 _ _ q⟩)
    refine ⟨f0, p1, _, _, rfl, rfl, s1 _ _ c0, e1, by show 8 ≤ sizeLine; decide, fun f1 nf1 => ?_⟩
    have t1 : Same H1 (upd H1 f1 (.lst ([V.bl (decide (i = 0)), V.bl (decide (i = 1)), V.bl (decide (i = 2)), V.bl (decide (i = 3))] ++ [V.bl (decide (i = 4)), V.bl (decide (i = 5)), V.bl (decide (i = 6)), V.bl (decide (i = 7))]))) := same_upd nf1
    have c1 : upd H1 f1 (.lst ([V.bl (decide (i = 0)), V.bl (decide (i = 1)), V.bl (decide (i = 2)), V.bl (decide (i = 3))] ++ [V.bl (decide (i = 4)), V.bl (decide (i = 5)), V.bl (decide (i = 6)), V.bl (decide (i = 7))])) f1 = some (.lst [V.bl (decide (i = 0)), V.bl (decide (i = 1)), V.bl (decide (i = 2)), V.bl (decide (i = 3)), V.bl (decide (i = 4)), V.bl (decide (i = 5)), V.bl (decide (i = 6)), V.bl (decide (i = 7))]) := upd_same
    generalize upd H1 f1 (.lst ([V.bl (decide (i = 0)), V.bl (decide (i = 1)), V.bl (decide (i = 2)), V.bl (decide (i = 3))] ++ [V.bl (decide (i = 4)), V.bl (decide (i = 5)), V.bl (decide (i = 6)), V.bl (decide (i = 7))])) = G1 at *
    have G1a := t1 _ _ H1a
    have G1d : ∀ dd, d = some dd → ∃ fs, G1 dd = some (exd dd fs) := fun dd z => ((H1d dd z).elim fun fs q => ⟨fs, t1 _ _ q⟩)
    have z1 := z0.trans (s1.trans t1)
    refine ⟨.ref f1, rfl, .ref a, rfl, C, a, d, .ref T.c_NoWait, _, _, rfl, ecC, G1a, G1d, .own _, T.kts.one i 8 C _ eC rfl, ?_⟩
    refine ⟨.ref a, rfl, C, a, d, .ref T.c_NoTotal, _, _, rfl, ecC, G1a, G1d, .own _, T.kts.one i 9 C _ eC rfl, ?_⟩
    refine ⟨.ref a, rfl, C, a, d, .ref T.c_NoRow, _, _, rfl, ecC, G1a, G1d, .own _, T.kts.one i 10 C _ eC rfl, ?_⟩
    refine ⟨.ref a, rfl, C, a, d, .ref T.c_NoTold, _, _, rfl, ecC, G1a, G1d, .own _, T.kts.one i 11 C _ eC rfl, ?_⟩
    refine ⟨by show 4 ≤ sizeLine; decide, fun p2 np2 => ?_⟩
    have s2 : Same G1 (upd G1 p2 (.lst [V.bl (decide (i = 8)), V.bl (decide (i = 9)), V.bl (decide (i = 10)), V.bl (decide (i = 11))])) := same_upd np2
    have e2 : upd G1 p2 (.lst [V.bl (decide (i = 8)), V.bl (decide (i = 9)), V.bl (decide (i = 10)), V.bl (decide (i = 11))]) p2 = some (.lst [V.bl (decide (i = 8)), V.bl (decide (i = 9)), V.bl (decide (i = 10)), V.bl (decide (i = 11))]) := upd_same
    generalize upd G1 p2 (.lst [V.bl (decide (i = 8)), V.bl (decide (i = 9)), V.bl (decide (i = 10)), V.bl (decide (i = 11))]) = H2 at *
    have H2a := s2 _ _ G1a
    have H2d : ∀ dd, d = some dd → ∃ fs, H2 dd = some (exd dd fs) := fun dd z => ((G1d dd z).elim fun fs q => ⟨fs, s2 _ _ q⟩)
    refine ⟨f1, p2, _, _, rfl, rfl, s2 _ _ c1, e2, by show 12 ≤ sizeLine; decide, fun f2 nf2 => ?_⟩
    have t2 : Same H2 (upd H2 f2 (.lst ([V.bl (decide (i = 0)), V.bl (decide (i = 1)), V.bl (decide (i = 2)), V.bl (decide (i = 3)), V.bl (decide (i = 4)), V.bl (decide (i = 5)), V.bl (decide (i = 6)), V.bl (decide (i = 7))] ++ [V.bl (decide (i = 8)), V.bl (decide (i = 9)), V.bl (decide (i = 10)), V.bl (decide (i = 11))]))) := same_upd nf2
    have c2 : upd H2 f2 (.lst ([V.bl (decide (i = 0)), V.bl (decide (i = 1)), V.bl (decide (i = 2)), V.bl (decide (i = 3)), V.bl (decide (i = 4)), V.bl (decide (i = 5)), V.bl (decide (i = 6)), V.bl (decide (i = 7))] ++ [V.bl (decide (i = 8)), V.bl (decide (i = 9)), V.bl (decide (i = 10)), V.bl (decide (i = 11))])) f2 = some (.lst [V.bl (decide (i = 0)), V.bl (decide (i = 1)), V.bl (decide (i = 2)), V.bl (decide (i = 3)), V.bl (decide (i = 4)), V.bl (decide (i = 5)), V.bl (decide (i = 6)), V.bl (decide (i = 7)), V.bl (decide (i = 8)), V.bl (decide (i = 9)), V.bl (decide (i = 10)), V.bl (decide (i = 11))]) := upd_same
    generalize upd H2 f2 (.lst ([V.bl (decide (i = 0)), V.bl (decide (i = 1)), V.bl (decide (i = 2)), V.bl (decide (i = 3)), V.bl (decide (i = 4)), V.bl (decide (i = 5)), V.bl (decide (i = 6)), V.bl (decide (i = 7))] ++ [V.bl (decide (i = 8)), V.bl (decide (i = 9)), V.bl (decide (i = 10)), V.bl (decide (i = 11))])) = G2 at *
    have G2a := t2 _ _ H2a
    have G2d : ∀ dd, d = some dd → ∃ fs, G2 dd = some (exd dd fs) := fun dd z => ((H2d dd z).elim fun fs q => ⟨fs, t2 _ _ q⟩)
    have z2 := z1.trans (s2.trans t2)
    refine ⟨.ref f2, rfl, .ref a, rfl, C, a, d, .ref T.c_NoStand, _, _, rfl, ecC, G2a, G2d, .own _, T.kts.one i 12 C _ eC rfl, ?_⟩
    refine ⟨.ref a, rfl, C, a, d, .ref T.c_NoNumber, _, _, rfl, ecC, G2a, G2d, .own _, T.kts.one i 13 C _ eC rfl, ?_⟩
    refine ⟨.ref a, rfl, C, a, d, .ref T.c_NoLaying, _, _, rfl, ecC, G2a, G2d, .own _, T.kts.one i 14 C _ eC rfl, ?_⟩
    refine ⟨.ref a, rfl, C, a, d, .ref T.c_NoPlan, _, _, rfl, ecC, G2a, G2d, .own _, T.kts.one i 15 C _ eC rfl, ?_⟩
    refine ⟨by show 4 ≤ sizeLine; decide, fun p3 np3 => ?_⟩
    have s3 : Same G2 (upd G2 p3 (.lst [V.bl (decide (i = 12)), V.bl (decide (i = 13)), V.bl (decide (i = 14)), V.bl (decide (i = 15))])) := same_upd np3
    have e3 : upd G2 p3 (.lst [V.bl (decide (i = 12)), V.bl (decide (i = 13)), V.bl (decide (i = 14)), V.bl (decide (i = 15))]) p3 = some (.lst [V.bl (decide (i = 12)), V.bl (decide (i = 13)), V.bl (decide (i = 14)), V.bl (decide (i = 15))]) := upd_same
    generalize upd G2 p3 (.lst [V.bl (decide (i = 12)), V.bl (decide (i = 13)), V.bl (decide (i = 14)), V.bl (decide (i = 15))]) = H3 at *
    have H3a := s3 _ _ G2a
    have H3d : ∀ dd, d = some dd → ∃ fs, H3 dd = some (exd dd fs) := fun dd z => ((G2d dd z).elim fun fs q => ⟨fs, s3 _ _ q⟩)
    refine ⟨f2, p3, _, _, rfl, rfl, s3 _ _ c2, e3, by show 16 ≤ sizeLine; decide, fun f3 nf3 => ?_⟩
    have t3 : Same H3 (upd H3 f3 (.lst ([V.bl (decide (i = 0)), V.bl (decide (i = 1)), V.bl (decide (i = 2)), V.bl (decide (i = 3)), V.bl (decide (i = 4)), V.bl (decide (i = 5)), V.bl (decide (i = 6)), V.bl (decide (i = 7)), V.bl (decide (i = 8)), V.bl (decide (i = 9)), V.bl (decide (i = 10)), V.bl (decide (i = 11))] ++ [V.bl (decide (i = 12)), V.bl (decide (i = 13)), V.bl (decide (i = 14)), V.bl (decide (i = 15))]))) := same_upd nf3
    have c3 : upd H3 f3 (.lst ([V.bl (decide (i = 0)), V.bl (decide (i = 1)), V.bl (decide (i = 2)), V.bl (decide (i = 3)), V.bl (decide (i = 4)), V.bl (decide (i = 5)), V.bl (decide (i = 6)), V.bl (decide (i = 7)), V.bl (decide (i = 8)), V.bl (decide (i = 9)), V.bl (decide (i = 10)), V.bl (decide (i = 11))] ++ [V.bl (decide (i = 12)), V.bl (decide (i = 13)), V.bl (decide (i = 14)), V.bl (decide (i = 15))])) f3 = some (.lst [V.bl (decide (i = 0)), V.bl (decide (i = 1)), V.bl (decide (i = 2)), V.bl (decide (i = 3)), V.bl (decide (i = 4)), V.bl (decide (i = 5)), V.bl (decide (i = 6)), V.bl (decide (i = 7)), V.bl (decide (i = 8)), V.bl (decide (i = 9)), V.bl (decide (i = 10)), V.bl (decide (i = 11)), V.bl (decide (i = 12)), V.bl (decide (i = 13)), V.bl (decide (i = 14)), V.bl (decide (i = 15))]) := upd_same
    generalize upd H3 f3 (.lst ([V.bl (decide (i = 0)), V.bl (decide (i = 1)), V.bl (decide (i = 2)), V.bl (decide (i = 3)), V.bl (decide (i = 4)), V.bl (decide (i = 5)), V.bl (decide (i = 6)), V.bl (decide (i = 7)), V.bl (decide (i = 8)), V.bl (decide (i = 9)), V.bl (decide (i = 10)), V.bl (decide (i = 11))] ++ [V.bl (decide (i = 12)), V.bl (decide (i = 13)), V.bl (decide (i = 14)), V.bl (decide (i = 15))])) = G3 at *
    have G3a := t3 _ _ H3a
    have G3d : ∀ dd, d = some dd → ∃ fs, G3 dd = some (exd dd fs) := fun dd z => ((H3d dd z).elim fun fs q => ⟨fs, t3 _ _ q⟩)
    have z3 := z2.trans (s3.trans t3)
    refine ⟨.ref f3, rfl, .ref a, rfl, C, a, d, .ref T.c_NotKept, _, _, rfl, ecC, G3a, G3d, .own _, T.kts.one i 16 C _ eC rfl, ?_⟩
    refine ⟨.ref a, rfl, C, a, d, .ref T.c_NothingDone, _, _, rfl, ecC, G3a, G3d, .own _, T.kts.one i 17 C _ eC rfl, ?_⟩
    refine ⟨.ref a, rfl, C, a, d, .ref T.c_NotLost, _, _, rfl, ecC, G3a, G3d, .own _, T.kts.one i 18 C _ eC rfl, ?_⟩
    refine ⟨.ref a, rfl, C, a, d, .ref T.c_Over, _, _, rfl, ecC, G3a, G3d, .own _, T.kts.one i 19 C _ eC rfl, ?_⟩
    refine ⟨by show 4 ≤ sizeLine; decide, fun p4 np4 => ?_⟩
    have s4 : Same G3 (upd G3 p4 (.lst [V.bl (decide (i = 16)), V.bl (decide (i = 17)), V.bl (decide (i = 18)), V.bl (decide (i = 19))])) := same_upd np4
    have e4 : upd G3 p4 (.lst [V.bl (decide (i = 16)), V.bl (decide (i = 17)), V.bl (decide (i = 18)), V.bl (decide (i = 19))]) p4 = some (.lst [V.bl (decide (i = 16)), V.bl (decide (i = 17)), V.bl (decide (i = 18)), V.bl (decide (i = 19))]) := upd_same
    generalize upd G3 p4 (.lst [V.bl (decide (i = 16)), V.bl (decide (i = 17)), V.bl (decide (i = 18)), V.bl (decide (i = 19))]) = H4 at *
    have H4a := s4 _ _ G3a
    have H4d : ∀ dd, d = some dd → ∃ fs, H4 dd = some (exd dd fs) := fun dd z => ((G3d dd z).elim fun fs q => ⟨fs, s4 _ _ q⟩)
    refine ⟨f3, p4, _, _, rfl, rfl, s4 _ _ c3, e4, by show 20 ≤ sizeLine; decide, fun f4 nf4 => ?_⟩
    have t4 : Same H4 (upd H4 f4 (.lst ([V.bl (decide (i = 0)), V.bl (decide (i = 1)), V.bl (decide (i = 2)), V.bl (decide (i = 3)), V.bl (decide (i = 4)), V.bl (decide (i = 5)), V.bl (decide (i = 6)), V.bl (decide (i = 7)), V.bl (decide (i = 8)), V.bl (decide (i = 9)), V.bl (decide (i = 10)), V.bl (decide (i = 11)), V.bl (decide (i = 12)), V.bl (decide (i = 13)), V.bl (decide (i = 14)), V.bl (decide (i = 15))] ++ [V.bl (decide (i = 16)), V.bl (decide (i = 17)), V.bl (decide (i = 18)), V.bl (decide (i = 19))]))) := same_upd nf4
    have c4 : upd H4 f4 (.lst ([V.bl (decide (i = 0)), V.bl (decide (i = 1)), V.bl (decide (i = 2)), V.bl (decide (i = 3)), V.bl (decide (i = 4)), V.bl (decide (i = 5)), V.bl (decide (i = 6)), V.bl (decide (i = 7)), V.bl (decide (i = 8)), V.bl (decide (i = 9)), V.bl (decide (i = 10)), V.bl (decide (i = 11)), V.bl (decide (i = 12)), V.bl (decide (i = 13)), V.bl (decide (i = 14)), V.bl (decide (i = 15))] ++ [V.bl (decide (i = 16)), V.bl (decide (i = 17)), V.bl (decide (i = 18)), V.bl (decide (i = 19))])) f4 = some (.lst [V.bl (decide (i = 0)), V.bl (decide (i = 1)), V.bl (decide (i = 2)), V.bl (decide (i = 3)), V.bl (decide (i = 4)), V.bl (decide (i = 5)), V.bl (decide (i = 6)), V.bl (decide (i = 7)), V.bl (decide (i = 8)), V.bl (decide (i = 9)), V.bl (decide (i = 10)), V.bl (decide (i = 11)), V.bl (decide (i = 12)), V.bl (decide (i = 13)), V.bl (decide (i = 14)), V.bl (decide (i = 15)), V.bl (decide (i = 16)), V.bl (decide (i = 17)), V.bl (decide (i = 18)), V.bl (decide (i = 19))]) := upd_same
    generalize upd H4 f4 (.lst ([V.bl (decide (i = 0)), V.bl (decide (i = 1)), V.bl (decide (i = 2)), V.bl (decide (i = 3)), V.bl (decide (i = 4)), V.bl (decide (i = 5)), V.bl (decide (i = 6)), V.bl (decide (i = 7)), V.bl (decide (i = 8)), V.bl (decide (i = 9)), V.bl (decide (i = 10)), V.bl (decide (i = 11)), V.bl (decide (i = 12)), V.bl (decide (i = 13)), V.bl (decide (i = 14)), V.bl (decide (i = 15))] ++ [V.bl (decide (i = 16)), V.bl (decide (i = 17)), V.bl (decide (i = 18)), V.bl (decide (i = 19))])) = G4 at *
    have G4a := t4 _ _ H4a
    have G4d : ∀ dd, d = some dd → ∃ fs, G4 dd = some (exd dd fs) := fun dd z => ((H4d dd z).elim fun fs q => ⟨fs, t4 _ _ q⟩)
    have z4 := z3.trans (s4.trans t4)
    refine ⟨.ref f4, rfl, .ref a, rfl, C, a, d, .ref T.c_NoLoop, _, _, rfl, ecC, G4a, G4d, .own _, T.kts.one i 20 C _ eC rfl, ?_⟩
    refine ⟨.ref a, rfl, C, a, d, .ref T.c_NoWeights, _, _, rfl, ecC, G4a, G4d, .own _, T.kts.one i 21 C _ eC rfl, ?_⟩
    refine ⟨.ref a, rfl, C, a, d, .ref T.c_NoFraction, _, _, rfl, ecC, G4a, G4d, .own _, T.kts.one i 22 C _ eC rfl, ?_⟩
    refine ⟨by show 3 ≤ sizeLine; decide, fun p5 np5 => ?_⟩
    have s5 : Same G4 (upd G4 p5 (.lst [V.bl (decide (i = 20)), V.bl (decide (i = 21)), V.bl (decide (i = 22))])) := same_upd np5
    have e5 : upd G4 p5 (.lst [V.bl (decide (i = 20)), V.bl (decide (i = 21)), V.bl (decide (i = 22))]) p5 = some (.lst [V.bl (decide (i = 20)), V.bl (decide (i = 21)), V.bl (decide (i = 22))]) := upd_same
    generalize upd G4 p5 (.lst [V.bl (decide (i = 20)), V.bl (decide (i = 21)), V.bl (decide (i = 22))]) = H5 at *
    have H5a := s5 _ _ G4a
    have H5d : ∀ dd, d = some dd → ∃ fs, H5 dd = some (exd dd fs) := fun dd z => ((G4d dd z).elim fun fs q => ⟨fs, s5 _ _ q⟩)
    refine ⟨f4, p5, _, _, rfl, rfl, s5 _ _ c4, e5, by show 23 ≤ sizeLine; decide, fun f5 nf5 => ?_⟩
    have t5 : Same H5 (upd H5 f5 (.lst ([V.bl (decide (i = 0)), V.bl (decide (i = 1)), V.bl (decide (i = 2)), V.bl (decide (i = 3)), V.bl (decide (i = 4)), V.bl (decide (i = 5)), V.bl (decide (i = 6)), V.bl (decide (i = 7)), V.bl (decide (i = 8)), V.bl (decide (i = 9)), V.bl (decide (i = 10)), V.bl (decide (i = 11)), V.bl (decide (i = 12)), V.bl (decide (i = 13)), V.bl (decide (i = 14)), V.bl (decide (i = 15)), V.bl (decide (i = 16)), V.bl (decide (i = 17)), V.bl (decide (i = 18)), V.bl (decide (i = 19))] ++ [V.bl (decide (i = 20)), V.bl (decide (i = 21)), V.bl (decide (i = 22))]))) := same_upd nf5
    have c5 : upd H5 f5 (.lst ([V.bl (decide (i = 0)), V.bl (decide (i = 1)), V.bl (decide (i = 2)), V.bl (decide (i = 3)), V.bl (decide (i = 4)), V.bl (decide (i = 5)), V.bl (decide (i = 6)), V.bl (decide (i = 7)), V.bl (decide (i = 8)), V.bl (decide (i = 9)), V.bl (decide (i = 10)), V.bl (decide (i = 11)), V.bl (decide (i = 12)), V.bl (decide (i = 13)), V.bl (decide (i = 14)), V.bl (decide (i = 15)), V.bl (decide (i = 16)), V.bl (decide (i = 17)), V.bl (decide (i = 18)), V.bl (decide (i = 19))] ++ [V.bl (decide (i = 20)), V.bl (decide (i = 21)), V.bl (decide (i = 22))])) f5 = some (.lst [V.bl (decide (i = 0)), V.bl (decide (i = 1)), V.bl (decide (i = 2)), V.bl (decide (i = 3)), V.bl (decide (i = 4)), V.bl (decide (i = 5)), V.bl (decide (i = 6)), V.bl (decide (i = 7)), V.bl (decide (i = 8)), V.bl (decide (i = 9)), V.bl (decide (i = 10)), V.bl (decide (i = 11)), V.bl (decide (i = 12)), V.bl (decide (i = 13)), V.bl (decide (i = 14)), V.bl (decide (i = 15)), V.bl (decide (i = 16)), V.bl (decide (i = 17)), V.bl (decide (i = 18)), V.bl (decide (i = 19)), V.bl (decide (i = 20)), V.bl (decide (i = 21)), V.bl (decide (i = 22))]) := upd_same
    generalize upd H5 f5 (.lst ([V.bl (decide (i = 0)), V.bl (decide (i = 1)), V.bl (decide (i = 2)), V.bl (decide (i = 3)), V.bl (decide (i = 4)), V.bl (decide (i = 5)), V.bl (decide (i = 6)), V.bl (decide (i = 7)), V.bl (decide (i = 8)), V.bl (decide (i = 9)), V.bl (decide (i = 10)), V.bl (decide (i = 11)), V.bl (decide (i = 12)), V.bl (decide (i = 13)), V.bl (decide (i = 14)), V.bl (decide (i = 15)), V.bl (decide (i = 16)), V.bl (decide (i = 17)), V.bl (decide (i = 18)), V.bl (decide (i = 19))] ++ [V.bl (decide (i = 20)), V.bl (decide (i = 21)), V.bl (decide (i = 22))])) = G5 at *
    have G5a := t5 _ _ H5a
    have G5d : ∀ dd, d = some dd → ∃ fs, G5 dd = some (exd dd fs) := fun dd z => ((H5d dd z).elim fun fs q => ⟨fs, t5 _ _ q⟩)
    have z5 := z4.trans (s5.trans t5)
    refine ⟨.ref f5, rfl, .ref a, rfl, C, a, d, .ref T.c_OtherBounds, _, _, rfl, ecC, G5a, G5d, .own _, T.kts.one i 23 C _ eC rfl, ?_⟩
    refine ⟨.ref a, rfl, C, a, d, .ref T.c_NoLetter, _, _, rfl, ecC, G5a, G5d, .own _, T.kts.one i 24 C _ eC rfl, ?_⟩
    refine ⟨.ref a, rfl, C, a, d, .ref T.c_NoDay, _, _, rfl, ecC, G5a, G5d, .own _, T.kts.one i 25 C _ eC rfl, ?_⟩
    refine ⟨.ref a, rfl, C, a, d, .ref T.c_NoLine, _, _, rfl, ecC, G5a, G5d, .own _, T.kts.one i 26 C _ eC rfl, ?_⟩
    refine ⟨by show 4 ≤ sizeLine; decide, fun p6 np6 => ?_⟩
    have s6 : Same G5 (upd G5 p6 (.lst [V.bl (decide (i = 23)), V.bl (decide (i = 24)), V.bl (decide (i = 25)), V.bl (decide (i = 26))])) := same_upd np6
    have e6 : upd G5 p6 (.lst [V.bl (decide (i = 23)), V.bl (decide (i = 24)), V.bl (decide (i = 25)), V.bl (decide (i = 26))]) p6 = some (.lst [V.bl (decide (i = 23)), V.bl (decide (i = 24)), V.bl (decide (i = 25)), V.bl (decide (i = 26))]) := upd_same
    generalize upd G5 p6 (.lst [V.bl (decide (i = 23)), V.bl (decide (i = 24)), V.bl (decide (i = 25)), V.bl (decide (i = 26))]) = H6 at *
    have H6a := s6 _ _ G5a
    have H6d : ∀ dd, d = some dd → ∃ fs, H6 dd = some (exd dd fs) := fun dd z => ((G5d dd z).elim fun fs q => ⟨fs, s6 _ _ q⟩)
    refine ⟨f5, p6, _, _, rfl, rfl, s6 _ _ c5, e6, by show 27 ≤ sizeLine; decide, fun f6 nf6 => ?_⟩
    have t6 : Same H6 (upd H6 f6 (.lst ([V.bl (decide (i = 0)), V.bl (decide (i = 1)), V.bl (decide (i = 2)), V.bl (decide (i = 3)), V.bl (decide (i = 4)), V.bl (decide (i = 5)), V.bl (decide (i = 6)), V.bl (decide (i = 7)), V.bl (decide (i = 8)), V.bl (decide (i = 9)), V.bl (decide (i = 10)), V.bl (decide (i = 11)), V.bl (decide (i = 12)), V.bl (decide (i = 13)), V.bl (decide (i = 14)), V.bl (decide (i = 15)), V.bl (decide (i = 16)), V.bl (decide (i = 17)), V.bl (decide (i = 18)), V.bl (decide (i = 19)), V.bl (decide (i = 20)), V.bl (decide (i = 21)), V.bl (decide (i = 22))] ++ [V.bl (decide (i = 23)), V.bl (decide (i = 24)), V.bl (decide (i = 25)), V.bl (decide (i = 26))]))) := same_upd nf6
    have c6 : upd H6 f6 (.lst ([V.bl (decide (i = 0)), V.bl (decide (i = 1)), V.bl (decide (i = 2)), V.bl (decide (i = 3)), V.bl (decide (i = 4)), V.bl (decide (i = 5)), V.bl (decide (i = 6)), V.bl (decide (i = 7)), V.bl (decide (i = 8)), V.bl (decide (i = 9)), V.bl (decide (i = 10)), V.bl (decide (i = 11)), V.bl (decide (i = 12)), V.bl (decide (i = 13)), V.bl (decide (i = 14)), V.bl (decide (i = 15)), V.bl (decide (i = 16)), V.bl (decide (i = 17)), V.bl (decide (i = 18)), V.bl (decide (i = 19)), V.bl (decide (i = 20)), V.bl (decide (i = 21)), V.bl (decide (i = 22))] ++ [V.bl (decide (i = 23)), V.bl (decide (i = 24)), V.bl (decide (i = 25)), V.bl (decide (i = 26))])) f6 = some (.lst [V.bl (decide (i = 0)), V.bl (decide (i = 1)), V.bl (decide (i = 2)), V.bl (decide (i = 3)), V.bl (decide (i = 4)), V.bl (decide (i = 5)), V.bl (decide (i = 6)), V.bl (decide (i = 7)), V.bl (decide (i = 8)), V.bl (decide (i = 9)), V.bl (decide (i = 10)), V.bl (decide (i = 11)), V.bl (decide (i = 12)), V.bl (decide (i = 13)), V.bl (decide (i = 14)), V.bl (decide (i = 15)), V.bl (decide (i = 16)), V.bl (decide (i = 17)), V.bl (decide (i = 18)), V.bl (decide (i = 19)), V.bl (decide (i = 20)), V.bl (decide (i = 21)), V.bl (decide (i = 22)), V.bl (decide (i = 23)), V.bl (decide (i = 24)), V.bl (decide (i = 25)), V.bl (decide (i = 26))]) := upd_same
    generalize upd H6 f6 (.lst ([V.bl (decide (i = 0)), V.bl (decide (i = 1)), V.bl (decide (i = 2)), V.bl (decide (i = 3)), V.bl (decide (i = 4)), V.bl (decide (i = 5)), V.bl (decide (i = 6)), V.bl (decide (i = 7)), V.bl (decide (i = 8)), V.bl (decide (i = 9)), V.bl (decide (i = 10)), V.bl (decide (i = 11)), V.bl (decide (i = 12)), V.bl (decide (i = 13)), V.bl (decide (i = 14)), V.bl (decide (i = 15)), V.bl (decide (i = 16)), V.bl (decide (i = 17)), V.bl (decide (i = 18)), V.bl (decide (i = 19)), V.bl (decide (i = 20)), V.bl (decide (i = 21)), V.bl (decide (i = 22))] ++ [V.bl (decide (i = 23)), V.bl (decide (i = 24)), V.bl (decide (i = 25)), V.bl (decide (i = 26))])) = G6 at *
    have G6a := t6 _ _ H6a
    have G6d : ∀ dd, d = some dd → ∃ fs, G6 dd = some (exd dd fs) := fun dd z => ((H6d dd z).elim fun fs q => ⟨fs, t6 _ _ q⟩)
    have z6 := z5.trans (s6.trans t6)
    refine ⟨.ref f6, rfl, .ref a, rfl, C, a, d, .ref T.c_BadTable, _, _, rfl, ecC, G6a, G6d, .own _, T.kts.one i 27 C _ eC rfl, ?_⟩
    refine ⟨.ref a, rfl, C, a, d, .ref T.c_Meet, _, _, rfl, ecC, G6a, G6d, .own _, T.kts.one i 28 C _ eC rfl, ?_⟩
    refine ⟨.ref a, rfl, C, a, d, .ref T.c_TooMany, _, _, rfl, ecC, G6a, G6d, .own _, T.kts.one i 29 C _ eC rfl, ?_⟩
    refine ⟨.ref a, rfl, C, a, d, .ref T.c_BadText, _, _, rfl, ecC, G6a, G6d, .own _, T.kts.one i 30 C _ eC rfl, ?_⟩
    refine ⟨by show 4 ≤ sizeLine; decide, fun p7 np7 => ?_⟩
    have s7 : Same G6 (upd G6 p7 (.lst [V.bl (decide (i = 27)), V.bl (decide (i = 28)), V.bl (decide (i = 29)), V.bl (decide (i = 30))])) := same_upd np7
    have e7 : upd G6 p7 (.lst [V.bl (decide (i = 27)), V.bl (decide (i = 28)), V.bl (decide (i = 29)), V.bl (decide (i = 30))]) p7 = some (.lst [V.bl (decide (i = 27)), V.bl (decide (i = 28)), V.bl (decide (i = 29)), V.bl (decide (i = 30))]) := upd_same
    generalize upd G6 p7 (.lst [V.bl (decide (i = 27)), V.bl (decide (i = 28)), V.bl (decide (i = 29)), V.bl (decide (i = 30))]) = H7 at *
    have H7a := s7 _ _ G6a
    have H7d : ∀ dd, d = some dd → ∃ fs, H7 dd = some (exd dd fs) := fun dd z => ((G6d dd z).elim fun fs q => ⟨fs, s7 _ _ q⟩)
    refine ⟨f6, p7, _, _, rfl, rfl, s7 _ _ c6, e7, by show 31 ≤ sizeLine; decide, fun f7 nf7 => ?_⟩
    have t7 : Same H7 (upd H7 f7 (.lst ([V.bl (decide (i = 0)), V.bl (decide (i = 1)), V.bl (decide (i = 2)), V.bl (decide (i = 3)), V.bl (decide (i = 4)), V.bl (decide (i = 5)), V.bl (decide (i = 6)), V.bl (decide (i = 7)), V.bl (decide (i = 8)), V.bl (decide (i = 9)), V.bl (decide (i = 10)), V.bl (decide (i = 11)), V.bl (decide (i = 12)), V.bl (decide (i = 13)), V.bl (decide (i = 14)), V.bl (decide (i = 15)), V.bl (decide (i = 16)), V.bl (decide (i = 17)), V.bl (decide (i = 18)), V.bl (decide (i = 19)), V.bl (decide (i = 20)), V.bl (decide (i = 21)), V.bl (decide (i = 22)), V.bl (decide (i = 23)), V.bl (decide (i = 24)), V.bl (decide (i = 25)), V.bl (decide (i = 26))] ++ [V.bl (decide (i = 27)), V.bl (decide (i = 28)), V.bl (decide (i = 29)), V.bl (decide (i = 30))]))) := same_upd nf7
    have c7 : upd H7 f7 (.lst ([V.bl (decide (i = 0)), V.bl (decide (i = 1)), V.bl (decide (i = 2)), V.bl (decide (i = 3)), V.bl (decide (i = 4)), V.bl (decide (i = 5)), V.bl (decide (i = 6)), V.bl (decide (i = 7)), V.bl (decide (i = 8)), V.bl (decide (i = 9)), V.bl (decide (i = 10)), V.bl (decide (i = 11)), V.bl (decide (i = 12)), V.bl (decide (i = 13)), V.bl (decide (i = 14)), V.bl (decide (i = 15)), V.bl (decide (i = 16)), V.bl (decide (i = 17)), V.bl (decide (i = 18)), V.bl (decide (i = 19)), V.bl (decide (i = 20)), V.bl (decide (i = 21)), V.bl (decide (i = 22)), V.bl (decide (i = 23)), V.bl (decide (i = 24)), V.bl (decide (i = 25)), V.bl (decide (i = 26))] ++ [V.bl (decide (i = 27)), V.bl (decide (i = 28)), V.bl (decide (i = 29)), V.bl (decide (i = 30))])) f7 = some (.lst [V.bl (decide (i = 0)), V.bl (decide (i = 1)), V.bl (decide (i = 2)), V.bl (decide (i = 3)), V.bl (decide (i = 4)), V.bl (decide (i = 5)), V.bl (decide (i = 6)), V.bl (decide (i = 7)), V.bl (decide (i = 8)), V.bl (decide (i = 9)), V.bl (decide (i = 10)), V.bl (decide (i = 11)), V.bl (decide (i = 12)), V.bl (decide (i = 13)), V.bl (decide (i = 14)), V.bl (decide (i = 15)), V.bl (decide (i = 16)), V.bl (decide (i = 17)), V.bl (decide (i = 18)), V.bl (decide (i = 19)), V.bl (decide (i = 20)), V.bl (decide (i = 21)), V.bl (decide (i = 22)), V.bl (decide (i = 23)), V.bl (decide (i = 24)), V.bl (decide (i = 25)), V.bl (decide (i = 26)), V.bl (decide (i = 27)), V.bl (decide (i = 28)), V.bl (decide (i = 29)), V.bl (decide (i = 30))]) := upd_same
    generalize upd H7 f7 (.lst ([V.bl (decide (i = 0)), V.bl (decide (i = 1)), V.bl (decide (i = 2)), V.bl (decide (i = 3)), V.bl (decide (i = 4)), V.bl (decide (i = 5)), V.bl (decide (i = 6)), V.bl (decide (i = 7)), V.bl (decide (i = 8)), V.bl (decide (i = 9)), V.bl (decide (i = 10)), V.bl (decide (i = 11)), V.bl (decide (i = 12)), V.bl (decide (i = 13)), V.bl (decide (i = 14)), V.bl (decide (i = 15)), V.bl (decide (i = 16)), V.bl (decide (i = 17)), V.bl (decide (i = 18)), V.bl (decide (i = 19)), V.bl (decide (i = 20)), V.bl (decide (i = 21)), V.bl (decide (i = 22)), V.bl (decide (i = 23)), V.bl (decide (i = 24)), V.bl (decide (i = 25)), V.bl (decide (i = 26))] ++ [V.bl (decide (i = 27)), V.bl (decide (i = 28)), V.bl (decide (i = 29)), V.bl (decide (i = 30))])) = G7 at *
    have G7a := t7 _ _ H7a
    have G7d : ∀ dd, d = some dd → ∃ fs, G7 dd = some (exd dd fs) := fun dd z => ((H7d dd z).elim fun fs q => ⟨fs, t7 _ _ q⟩)
    have z7 := z6.trans (s7.trans t7)
    refine ⟨.ref f7, rfl, .ref a, rfl, C, a, d, .ref T.c_NoName, _, _, rfl, ecC, G7a, G7d, .own _, T.kts.one i 31 C _ eC rfl, ?_⟩
    refine ⟨.ref a, rfl, C, a, d, .ref T.c_NoDoorings, _, _, rfl, ecC, G7a, G7d, .own _, T.kts.one i 32 C _ eC rfl, ?_⟩
    refine ⟨.ref a, rfl, C, a, d, .ref T.c_NoLong, _, _, rfl, ecC, G7a, G7d, .own _, T.kts.one i 33 C _ eC rfl, ?_⟩
    refine ⟨.ref a, rfl, C, a, d, .ref T.c_NoPrices, _, _, rfl, ecC, G7a, G7d, .own _, T.kts.one i 34 C _ eC rfl, ?_⟩
    refine ⟨by show 4 ≤ sizeLine; decide, fun p8 np8 => ?_⟩
    have s8 : Same G7 (upd G7 p8 (.lst [V.bl (decide (i = 31)), V.bl (decide (i = 32)), V.bl (decide (i = 33)), V.bl (decide (i = 34))])) := same_upd np8
    have e8 : upd G7 p8 (.lst [V.bl (decide (i = 31)), V.bl (decide (i = 32)), V.bl (decide (i = 33)), V.bl (decide (i = 34))]) p8 = some (.lst [V.bl (decide (i = 31)), V.bl (decide (i = 32)), V.bl (decide (i = 33)), V.bl (decide (i = 34))]) := upd_same
    generalize upd G7 p8 (.lst [V.bl (decide (i = 31)), V.bl (decide (i = 32)), V.bl (decide (i = 33)), V.bl (decide (i = 34))]) = H8 at *
    have H8a := s8 _ _ G7a
    have H8d : ∀ dd, d = some dd → ∃ fs, H8 dd = some (exd dd fs) := fun dd z => ((G7d dd z).elim fun fs q => ⟨fs, s8 _ _ q⟩)
    refine ⟨f7, p8, _, _, rfl, rfl, s8 _ _ c7, e8, by show 35 ≤ sizeLine; decide, fun f8 nf8 => ?_⟩
    have t8 : Same H8 (upd H8 f8 (.lst ([V.bl (decide (i = 0)), V.bl (decide (i = 1)), V.bl (decide (i = 2)), V.bl (decide (i = 3)), V.bl (decide (i = 4)), V.bl (decide (i = 5)), V.bl (decide (i = 6)), V.bl (decide (i = 7)), V.bl (decide (i = 8)), V.bl (decide (i = 9)), V.bl (decide (i = 10)), V.bl (decide (i = 11)), V.bl (decide (i = 12)), V.bl (decide (i = 13)), V.bl (decide (i = 14)), V.bl (decide (i = 15)), V.bl (decide (i = 16)), V.bl (decide (i = 17)), V.bl (decide (i = 18)), V.bl (decide (i = 19)), V.bl (decide (i = 20)), V.bl (decide (i = 21)), V.bl (decide (i = 22)), V.bl (decide (i = 23)), V.bl (decide (i = 24)), V.bl (decide (i = 25)), V.bl (decide (i = 26)), V.bl (decide (i = 27)), V.bl (decide (i = 28)), V.bl (decide (i = 29)), V.bl (decide (i = 30))] ++ [V.bl (decide (i = 31)), V.bl (decide (i = 32)), V.bl (decide (i = 33)), V.bl (decide (i = 34))]))) := same_upd nf8
    have c8 : upd H8 f8 (.lst ([V.bl (decide (i = 0)), V.bl (decide (i = 1)), V.bl (decide (i = 2)), V.bl (decide (i = 3)), V.bl (decide (i = 4)), V.bl (decide (i = 5)), V.bl (decide (i = 6)), V.bl (decide (i = 7)), V.bl (decide (i = 8)), V.bl (decide (i = 9)), V.bl (decide (i = 10)), V.bl (decide (i = 11)), V.bl (decide (i = 12)), V.bl (decide (i = 13)), V.bl (decide (i = 14)), V.bl (decide (i = 15)), V.bl (decide (i = 16)), V.bl (decide (i = 17)), V.bl (decide (i = 18)), V.bl (decide (i = 19)), V.bl (decide (i = 20)), V.bl (decide (i = 21)), V.bl (decide (i = 22)), V.bl (decide (i = 23)), V.bl (decide (i = 24)), V.bl (decide (i = 25)), V.bl (decide (i = 26)), V.bl (decide (i = 27)), V.bl (decide (i = 28)), V.bl (decide (i = 29)), V.bl (decide (i = 30))] ++ [V.bl (decide (i = 31)), V.bl (decide (i = 32)), V.bl (decide (i = 33)), V.bl (decide (i = 34))])) f8 = some (.lst [V.bl (decide (i = 0)), V.bl (decide (i = 1)), V.bl (decide (i = 2)), V.bl (decide (i = 3)), V.bl (decide (i = 4)), V.bl (decide (i = 5)), V.bl (decide (i = 6)), V.bl (decide (i = 7)), V.bl (decide (i = 8)), V.bl (decide (i = 9)), V.bl (decide (i = 10)), V.bl (decide (i = 11)), V.bl (decide (i = 12)), V.bl (decide (i = 13)), V.bl (decide (i = 14)), V.bl (decide (i = 15)), V.bl (decide (i = 16)), V.bl (decide (i = 17)), V.bl (decide (i = 18)), V.bl (decide (i = 19)), V.bl (decide (i = 20)), V.bl (decide (i = 21)), V.bl (decide (i = 22)), V.bl (decide (i = 23)), V.bl (decide (i = 24)), V.bl (decide (i = 25)), V.bl (decide (i = 26)), V.bl (decide (i = 27)), V.bl (decide (i = 28)), V.bl (decide (i = 29)), V.bl (decide (i = 30)), V.bl (decide (i = 31)), V.bl (decide (i = 32)), V.bl (decide (i = 33)), V.bl (decide (i = 34))]) := upd_same
    generalize upd H8 f8 (.lst ([V.bl (decide (i = 0)), V.bl (decide (i = 1)), V.bl (decide (i = 2)), V.bl (decide (i = 3)), V.bl (decide (i = 4)), V.bl (decide (i = 5)), V.bl (decide (i = 6)), V.bl (decide (i = 7)), V.bl (decide (i = 8)), V.bl (decide (i = 9)), V.bl (decide (i = 10)), V.bl (decide (i = 11)), V.bl (decide (i = 12)), V.bl (decide (i = 13)), V.bl (decide (i = 14)), V.bl (decide (i = 15)), V.bl (decide (i = 16)), V.bl (decide (i = 17)), V.bl (decide (i = 18)), V.bl (decide (i = 19)), V.bl (decide (i = 20)), V.bl (decide (i = 21)), V.bl (decide (i = 22)), V.bl (decide (i = 23)), V.bl (decide (i = 24)), V.bl (decide (i = 25)), V.bl (decide (i = 26)), V.bl (decide (i = 27)), V.bl (decide (i = 28)), V.bl (decide (i = 29)), V.bl (decide (i = 30))] ++ [V.bl (decide (i = 31)), V.bl (decide (i = 32)), V.bl (decide (i = 33)), V.bl (decide (i = 34))])) = G8 at *
    have G8a := t8 _ _ H8a
    have G8d : ∀ dd, d = some dd → ∃ fs, G8 dd = some (exd dd fs) := fun dd z => ((H8d dd z).elim fun fs q => ⟨fs, t8 _ _ q⟩)
    have z8 := z7.trans (s8.trans t8)
    refine ⟨.ref f8, rfl, .ref a, rfl, C, a, d, .ref T.c_OtherTables, _, _, rfl, ecC, G8a, G8d, .own _, T.kts.one i 35 C _ eC rfl, ?_⟩
    refine ⟨.ref a, rfl, C, a, d, .ref T.c_NoTables, _, _, rfl, ecC, G8a, G8d, .own _, T.kts.one i 36 C _ eC rfl, ?_⟩
    refine ⟨.ref a, rfl, C, a, d, .ref T.c_NoTable, _, _, rfl, ecC, G8a, G8d, .own _, T.kts.one i 37 C _ eC rfl, ?_⟩
    refine ⟨by show 3 ≤ sizeLine; decide, fun p9 np9 => ?_⟩
    have s9 : Same G8 (upd G8 p9 (.lst [V.bl (decide (i = 35)), V.bl (decide (i = 36)), V.bl (decide (i = 37))])) := same_upd np9
    have e9 : upd G8 p9 (.lst [V.bl (decide (i = 35)), V.bl (decide (i = 36)), V.bl (decide (i = 37))]) p9 = some (.lst [V.bl (decide (i = 35)), V.bl (decide (i = 36)), V.bl (decide (i = 37))]) := upd_same
    generalize upd G8 p9 (.lst [V.bl (decide (i = 35)), V.bl (decide (i = 36)), V.bl (decide (i = 37))]) = H9 at *
    have H9a := s9 _ _ G8a
    have H9d : ∀ dd, d = some dd → ∃ fs, H9 dd = some (exd dd fs) := fun dd z => ((G8d dd z).elim fun fs q => ⟨fs, s9 _ _ q⟩)
    refine ⟨f8, p9, _, _, rfl, rfl, s9 _ _ c8, e9, by show 38 ≤ sizeLine; decide, fun f9 nf9 => ?_⟩
    have t9 : Same H9 (upd H9 f9 (.lst ([V.bl (decide (i = 0)), V.bl (decide (i = 1)), V.bl (decide (i = 2)), V.bl (decide (i = 3)), V.bl (decide (i = 4)), V.bl (decide (i = 5)), V.bl (decide (i = 6)), V.bl (decide (i = 7)), V.bl (decide (i = 8)), V.bl (decide (i = 9)), V.bl (decide (i = 10)), V.bl (decide (i = 11)), V.bl (decide (i = 12)), V.bl (decide (i = 13)), V.bl (decide (i = 14)), V.bl (decide (i = 15)), V.bl (decide (i = 16)), V.bl (decide (i = 17)), V.bl (decide (i = 18)), V.bl (decide (i = 19)), V.bl (decide (i = 20)), V.bl (decide (i = 21)), V.bl (decide (i = 22)), V.bl (decide (i = 23)), V.bl (decide (i = 24)), V.bl (decide (i = 25)), V.bl (decide (i = 26)), V.bl (decide (i = 27)), V.bl (decide (i = 28)), V.bl (decide (i = 29)), V.bl (decide (i = 30)), V.bl (decide (i = 31)), V.bl (decide (i = 32)), V.bl (decide (i = 33)), V.bl (decide (i = 34))] ++ [V.bl (decide (i = 35)), V.bl (decide (i = 36)), V.bl (decide (i = 37))]))) := same_upd nf9
    have c9 : upd H9 f9 (.lst ([V.bl (decide (i = 0)), V.bl (decide (i = 1)), V.bl (decide (i = 2)), V.bl (decide (i = 3)), V.bl (decide (i = 4)), V.bl (decide (i = 5)), V.bl (decide (i = 6)), V.bl (decide (i = 7)), V.bl (decide (i = 8)), V.bl (decide (i = 9)), V.bl (decide (i = 10)), V.bl (decide (i = 11)), V.bl (decide (i = 12)), V.bl (decide (i = 13)), V.bl (decide (i = 14)), V.bl (decide (i = 15)), V.bl (decide (i = 16)), V.bl (decide (i = 17)), V.bl (decide (i = 18)), V.bl (decide (i = 19)), V.bl (decide (i = 20)), V.bl (decide (i = 21)), V.bl (decide (i = 22)), V.bl (decide (i = 23)), V.bl (decide (i = 24)), V.bl (decide (i = 25)), V.bl (decide (i = 26)), V.bl (decide (i = 27)), V.bl (decide (i = 28)), V.bl (decide (i = 29)), V.bl (decide (i = 30)), V.bl (decide (i = 31)), V.bl (decide (i = 32)), V.bl (decide (i = 33)), V.bl (decide (i = 34))] ++ [V.bl (decide (i = 35)), V.bl (decide (i = 36)), V.bl (decide (i = 37))])) f9 = some (.lst [V.bl (decide (i = 0)), V.bl (decide (i = 1)), V.bl (decide (i = 2)), V.bl (decide (i = 3)), V.bl (decide (i = 4)), V.bl (decide (i = 5)), V.bl (decide (i = 6)), V.bl (decide (i = 7)), V.bl (decide (i = 8)), V.bl (decide (i = 9)), V.bl (decide (i = 10)), V.bl (decide (i = 11)), V.bl (decide (i = 12)), V.bl (decide (i = 13)), V.bl (decide (i = 14)), V.bl (decide (i = 15)), V.bl (decide (i = 16)), V.bl (decide (i = 17)), V.bl (decide (i = 18)), V.bl (decide (i = 19)), V.bl (decide (i = 20)), V.bl (decide (i = 21)), V.bl (decide (i = 22)), V.bl (decide (i = 23)), V.bl (decide (i = 24)), V.bl (decide (i = 25)), V.bl (decide (i = 26)), V.bl (decide (i = 27)), V.bl (decide (i = 28)), V.bl (decide (i = 29)), V.bl (decide (i = 30)), V.bl (decide (i = 31)), V.bl (decide (i = 32)), V.bl (decide (i = 33)), V.bl (decide (i = 34)), V.bl (decide (i = 35)), V.bl (decide (i = 36)), V.bl (decide (i = 37))]) := upd_same
    generalize upd H9 f9 (.lst ([V.bl (decide (i = 0)), V.bl (decide (i = 1)), V.bl (decide (i = 2)), V.bl (decide (i = 3)), V.bl (decide (i = 4)), V.bl (decide (i = 5)), V.bl (decide (i = 6)), V.bl (decide (i = 7)), V.bl (decide (i = 8)), V.bl (decide (i = 9)), V.bl (decide (i = 10)), V.bl (decide (i = 11)), V.bl (decide (i = 12)), V.bl (decide (i = 13)), V.bl (decide (i = 14)), V.bl (decide (i = 15)), V.bl (decide (i = 16)), V.bl (decide (i = 17)), V.bl (decide (i = 18)), V.bl (decide (i = 19)), V.bl (decide (i = 20)), V.bl (decide (i = 21)), V.bl (decide (i = 22)), V.bl (decide (i = 23)), V.bl (decide (i = 24)), V.bl (decide (i = 25)), V.bl (decide (i = 26)), V.bl (decide (i = 27)), V.bl (decide (i = 28)), V.bl (decide (i = 29)), V.bl (decide (i = 30)), V.bl (decide (i = 31)), V.bl (decide (i = 32)), V.bl (decide (i = 33)), V.bl (decide (i = 34))] ++ [V.bl (decide (i = 35)), V.bl (decide (i = 36)), V.bl (decide (i = 37))])) = G9 at *
    have G9a := t9 _ _ H9a
    have G9d : ∀ dd, d = some dd → ∃ fs, G9 dd = some (exd dd fs) := fun dd z => ((H9d dd z).elim fun fs q => ⟨fs, t9 _ _ q⟩)
    have z9 := z8.trans (s9.trans t9)
    refine ⟨.ref f9, rfl, .ref a, rfl, C, a, d, .ref T.c_BadTree, _, _, rfl, ecC, G9a, G9d, .own _, T.kts.one i 38 C _ eC rfl, ?_⟩
    refine ⟨by show 1 ≤ sizeLine; decide, fun p10 np10 => ?_⟩
    have s10 : Same G9 (upd G9 p10 (.lst [V.bl (decide (i = 38))])) := same_upd np10
    have e10 : upd G9 p10 (.lst [V.bl (decide (i = 38))]) p10 = some (.lst [V.bl (decide (i = 38))]) := upd_same
    generalize upd G9 p10 (.lst [V.bl (decide (i = 38))]) = H10 at *
    have H10a := s10 _ _ G9a
    have H10d : ∀ dd, d = some dd → ∃ fs, H10 dd = some (exd dd fs) := fun dd z => ((G9d dd z).elim fun fs q => ⟨fs, s10 _ _ q⟩)
    refine ⟨f9, p10, _, _, rfl, rfl, s10 _ _ c9, e10, by show 39 ≤ sizeLine; decide, fun f10 nf10 => ?_⟩
    have t10 : Same H10 (upd H10 f10 (.lst ([V.bl (decide (i = 0)), V.bl (decide (i = 1)), V.bl (decide (i = 2)), V.bl (decide (i = 3)), V.bl (decide (i = 4)), V.bl (decide (i = 5)), V.bl (decide (i = 6)), V.bl (decide (i = 7)), V.bl (decide (i = 8)), V.bl (decide (i = 9)), V.bl (decide (i = 10)), V.bl (decide (i = 11)), V.bl (decide (i = 12)), V.bl (decide (i = 13)), V.bl (decide (i = 14)), V.bl (decide (i = 15)), V.bl (decide (i = 16)), V.bl (decide (i = 17)), V.bl (decide (i = 18)), V.bl (decide (i = 19)), V.bl (decide (i = 20)), V.bl (decide (i = 21)), V.bl (decide (i = 22)), V.bl (decide (i = 23)), V.bl (decide (i = 24)), V.bl (decide (i = 25)), V.bl (decide (i = 26)), V.bl (decide (i = 27)), V.bl (decide (i = 28)), V.bl (decide (i = 29)), V.bl (decide (i = 30)), V.bl (decide (i = 31)), V.bl (decide (i = 32)), V.bl (decide (i = 33)), V.bl (decide (i = 34)), V.bl (decide (i = 35)), V.bl (decide (i = 36)), V.bl (decide (i = 37))] ++ [V.bl (decide (i = 38))]))) := same_upd nf10
    have c10 : upd H10 f10 (.lst ([V.bl (decide (i = 0)), V.bl (decide (i = 1)), V.bl (decide (i = 2)), V.bl (decide (i = 3)), V.bl (decide (i = 4)), V.bl (decide (i = 5)), V.bl (decide (i = 6)), V.bl (decide (i = 7)), V.bl (decide (i = 8)), V.bl (decide (i = 9)), V.bl (decide (i = 10)), V.bl (decide (i = 11)), V.bl (decide (i = 12)), V.bl (decide (i = 13)), V.bl (decide (i = 14)), V.bl (decide (i = 15)), V.bl (decide (i = 16)), V.bl (decide (i = 17)), V.bl (decide (i = 18)), V.bl (decide (i = 19)), V.bl (decide (i = 20)), V.bl (decide (i = 21)), V.bl (decide (i = 22)), V.bl (decide (i = 23)), V.bl (decide (i = 24)), V.bl (decide (i = 25)), V.bl (decide (i = 26)), V.bl (decide (i = 27)), V.bl (decide (i = 28)), V.bl (decide (i = 29)), V.bl (decide (i = 30)), V.bl (decide (i = 31)), V.bl (decide (i = 32)), V.bl (decide (i = 33)), V.bl (decide (i = 34)), V.bl (decide (i = 35)), V.bl (decide (i = 36)), V.bl (decide (i = 37))] ++ [V.bl (decide (i = 38))])) f10 = some (.lst [V.bl (decide (i = 0)), V.bl (decide (i = 1)), V.bl (decide (i = 2)), V.bl (decide (i = 3)), V.bl (decide (i = 4)), V.bl (decide (i = 5)), V.bl (decide (i = 6)), V.bl (decide (i = 7)), V.bl (decide (i = 8)), V.bl (decide (i = 9)), V.bl (decide (i = 10)), V.bl (decide (i = 11)), V.bl (decide (i = 12)), V.bl (decide (i = 13)), V.bl (decide (i = 14)), V.bl (decide (i = 15)), V.bl (decide (i = 16)), V.bl (decide (i = 17)), V.bl (decide (i = 18)), V.bl (decide (i = 19)), V.bl (decide (i = 20)), V.bl (decide (i = 21)), V.bl (decide (i = 22)), V.bl (decide (i = 23)), V.bl (decide (i = 24)), V.bl (decide (i = 25)), V.bl (decide (i = 26)), V.bl (decide (i = 27)), V.bl (decide (i = 28)), V.bl (decide (i = 29)), V.bl (decide (i = 30)), V.bl (decide (i = 31)), V.bl (decide (i = 32)), V.bl (decide (i = 33)), V.bl (decide (i = 34)), V.bl (decide (i = 35)), V.bl (decide (i = 36)), V.bl (decide (i = 37)), V.bl (decide (i = 38))]) := upd_same
    have z10 := z9.trans (s10.trans t10)
    exact q _ _ (none_back (z9.trans s10) nf10) z10 c10
end

/-! ### the errors, made -/
section
variable {P : Program} {w : World} {K : PySem.W.Frag} {mg : Str → Option Value} {base : Heap}
def Fd (H : Hp) (as : List Addr) (k : Nat) (C : Addr) (fs : List (Str × V)) : Prop := ∃ a d, as[k]? = some a ∧ H a = some (exo a C (some d)) ∧ H d = some (exd d fs)
def AllE (T : Tx K mg) (H : Hp) : Nat → List Addr → Prop
  | _, [] => True
  | n, a :: r => Exc T H n a ∧ AllE T H (n + 1) r
theorem AllE.at {T : Tx K mg} {H : Hp} : ∀ {as : List Addr} {n i : Nat} {a : Addr}, AllE T H n as → as[i]? = some a → Exc T H (n + i) a
  | [], _, _, _, _, h => by cases h
  | b :: r, n, 0, a, ⟨x, _⟩, h => by
    cases Option.some.inj h
    exact x
  | b :: r, n, i + 1, a, ⟨_, y⟩, h => by
    have := AllE.at (i := i) y h
    rw [show n + (i + 1) = n + 1 + i by omega]
    exact this
structure Made (T : Tx K mg) (H : Hp) (as : List Addr) (one other : V) : Prop where
  len : as.length = 39
  all : AllE T H 0 as
  f27 : Fd H as 27 T.c_BadTable [("at", other), ("part", one)]
  f28 : Fd H as 28 T.c_Meet [("loop", other), ("tick", one)]
  f29 : Fd H as 29 T.c_TooMany [("most", one)]
  f30 : Fd H as 30 T.c_BadText [("line", one)]
  f31 : Fd H as 31 T.c_NoName [("name", one)]
  f38 : Fd H as 38 T.c_BadTree [("at", one)]
def spMade (T : Tx K mg) : Sp := fun vs H Q _ => ∃ one other : V, vs = [one, other] ∧ ∀ p as H', H p = none → Same H H' → H' p = some (.lst (as.map V.ref)) → Made T H' as one other → Q (.ref p) H'
theorem same_new1 {H : Hp} {a dx : Addr} {o1 o2 o3 : HO} (na : H a = none) (nd : upd H a o1 dx = none) : Same H (upd (upd (upd H a o1) dx o2) a o3) := fun b o e => by
  have nb : b ≠ a := ne_of_none e na
  have e1 : upd H a o1 b = some o := (upd_ne nb).trans e
  rw [upd_ne nb, upd_ne (ne_of_none e1 nd)]
  exact e1
theorem same_new2 {H : Hp} {a dx : Addr} {o1 o2 o3 o4 : HO} (na : H a = none) (nd : upd H a o1 dx = none) : Same H (upd (upd (upd (upd H a o1) dx o2) a o3) dx o4) := fun b o e => by
  have nb : b ≠ a := ne_of_none e na
  have e1 : upd H a o1 b = some o := (upd_ne nb).trans e
  rw [upd_ne (ne_of_none e1 nd)]
  exact same_new1 na nd b o e
theorem exc0 {T : Tx K mg} {H : Hp} {i : Nat} {a C : Addr} (h : (clsL T)[i]? = some C) (e : H a = some (exo a C none)) : Exc T H i a := ⟨C, none, h, e, fun _ z => nomatch z⟩
theorem exc1 {T : Tx K mg} {H : Hp} {i : Nat} {a d C : Addr} {fs : List (Str × V)} (h : (clsL T)[i]? = some C) (e : H a = some (exo a C (some d))) (e2 : H d = some (exd d fs)) : Exc T H i a := ⟨C, some d, h, e, fun _ z => by
  cases z
  exact ⟨_, e2⟩⟩
theorem ok__law_made (T : Tx K mg) : FnOk P w K mg base CX0 3 T.a__law_made T.d__law_made ["one", "other"] (spMade T) := by
  refine T.F__law_made.ok sc__law_made (fun vs H Q E h => ?_) (fun cdv A outer s H vs Q E hr h => ?_)
  · obtain ⟨one, other, rfl, _⟩ := h
    rfl
  · obtain ⟨one, other, rfl, q⟩ := h
    refine ⟨_, ((pss_cons (ps_set (i := 2) sc__law_made.nd rfl (.inl rfl) (pe_lst (pa_cons (EX15.pe_newE0 T.x_NoComers T.i_NoComers T.ti_NoComers (ok_NoComers___init__ T) (fun a H Q E h => ⟨a, rfl, h⟩) (hr.mono (by decide)) T.b_NoComers___init__ pass0 (by rfl) T.g_NoComers) (pa_cons (EX15.pe_newE0 T.x_NoBound T.i_NoBound T.ti_NoBound (ok_NoBound___init__ T) (fun a H Q E h => ⟨a, rfl, h⟩) (hr.mono (by decide)) T.b_NoBound___init__ pass0 (by rfl) T.g_NoBound) (pa_cons (EX15.pe_newE0 T.x_NoComings T.i_NoComings T.ti_NoComings (ok_NoComings___init__ T) (fun a H Q E h => ⟨a, rfl, h⟩) (hr.mono (by decide)) T.b_NoComings___init__ pass0 (by rfl) T.g_NoComings) (pa_cons (EX15.pe_newE0 T.x_NoSpot T.i_NoSpot T.ti_NoSpot (ok_NoSpot___init__ T) (fun a H Q E h => ⟨a, rfl, h⟩) (hr.mono (by decide)) T.b_NoSpot___init__ pass0 (by rfl) T.g_NoSpot) (pa_cons (EX15.pe_newE0 T.x_NoWalk T.i_NoWalk T.ti_NoWalk (ok_NoWalk___init__ T) (fun a H Q E h => ⟨a, rfl, h⟩) (hr.mono (by decide)) T.b_NoWalk___init__ pass0 (by rfl) T.g_NoWalk) (pa_cons (EX15.pe_newE0 T.x_NoTick T.i_NoTick T.ti_NoTick (ok_NoTick___init__ T) (fun a H Q E h => ⟨a, rfl, h⟩) (hr.mono (by decide)) T.b_NoTick___init__ pass0 (by rfl) T.g_NoTick) (pa_cons (EX15.pe_newE0 T.x_NoLoops T.i_NoLoops T.ti_NoLoops (ok_NoLoops___init__ T) (fun a H Q E h => ⟨a, rfl, h⟩) (hr.mono (by decide)) T.b_NoLoops___init__ pass0 (by rfl) T.g_NoLoops) (pa_cons (EX15.pe_newE0 T.x_NotDoubling T.i_NotDoubling T.ti_NotDoubling (ok_NotDoubling___init__ T) (fun a H Q E h => ⟨a, rfl, h⟩) (hr.mono (by decide)) T.b_NotDoubling___init__ pass0 (by rfl) T.g_NotDoubling) (pa_cons (EX15.pe_newE0 T.x_NoWait T.i_NoWait T.ti_NoWait (ok_NoWait___init__ T) (fun a H Q E h => ⟨a, rfl, h⟩) (hr.mono (by decide)) T.b_NoWait___init__ pass0 (by rfl) T.g_NoWait) pa_nil)))))))))))
  (pss_cons (ps_set (i := 2) sc__law_made.nd rfl (.inl rfl) (pe_op op_cat (pv 2) (pe_lst (pa_cons (EX15.pe_newE0 T.x_NoTotal T.i_NoTotal T.ti_NoTotal (ok_NoTotal___init__ T) (fun a H Q E h => ⟨a, rfl, h⟩) (hr.mono (by decide)) T.b_NoTotal___init__ pass0 (by rfl) T.g_NoTotal) (pa_cons (EX15.pe_newE0 T.x_NoRow T.i_NoRow T.ti_NoRow (ok_NoRow___init__ T) (fun a H Q E h => ⟨a, rfl, h⟩) (hr.mono (by decide)) T.b_NoRow___init__ pass0 (by rfl) T.g_NoRow) (pa_cons (EX15.pe_newE0 T.x_NoTold T.i_NoTold T.ti_NoTold (ok_NoTold___init__ T) (fun a H Q E h => ⟨a, rfl, h⟩) (hr.mono (by decide)) T.b_NoTold___init__ pass0 (by rfl) T.g_NoTold) (pa_cons (EX15.pe_newE0 T.x_NoStand T.i_NoStand T.ti_NoStand (ok_NoStand___init__ T) (fun a H Q E h => ⟨a, rfl, h⟩) (hr.mono (by decide)) T.b_NoStand___init__ pass0 (by rfl) T.g_NoStand) (pa_cons (EX15.pe_newE0 T.x_NoNumber T.i_NoNumber T.ti_NoNumber (ok_NoNumber___init__ T) (fun a H Q E h => ⟨a, rfl, h⟩) (hr.mono (by decide)) T.b_NoNumber___init__ pass0 (by rfl) T.g_NoNumber) (pa_cons (EX15.pe_newE0 T.x_NoLaying T.i_NoLaying T.ti_NoLaying (ok_NoLaying___init__ T) (fun a H Q E h => ⟨a, rfl, h⟩) (hr.mono (by decide)) T.b_NoLaying___init__ pass0 (by rfl) T.g_NoLaying) (pa_cons (EX15.pe_newE0 T.x_NoPlan T.i_NoPlan T.ti_NoPlan (ok_NoPlan___init__ T) (fun a H Q E h => ⟨a, rfl, h⟩) (hr.mono (by decide)) T.b_NoPlan___init__ pass0 (by rfl) T.g_NoPlan) (pa_cons (EX15.pe_newE0 T.x_NotKept T.i_NotKept T.ti_NotKept (ok_NotKept___init__ T) (fun a H Q E h => ⟨a, rfl, h⟩) (hr.mono (by decide)) T.b_NotKept___init__ pass0 (by rfl) T.g_NotKept) (pa_cons (EX15.pe_newE0 T.x_NothingDone T.i_NothingDone T.ti_NothingDone (ok_NothingDone___init__ T) (fun a H Q E h => ⟨a, rfl, h⟩) (hr.mono (by decide)) T.b_NothingDone___init__ pass0 (by rfl) T.g_NothingDone) pa_nil))))))))))))
  (pss_cons (ps_set (i := 2) sc__law_made.nd rfl (.inl rfl) (pe_op op_cat (pv 2) (pe_lst (pa_cons (EX15.pe_newE0 T.x_NotLost T.i_NotLost T.ti_NotLost (ok_NotLost___init__ T) (fun a H Q E h => ⟨a, rfl, h⟩) (hr.mono (by decide)) T.b_NotLost___init__ pass0 (by rfl) T.g_NotLost) (pa_cons (EX15.pe_newE0 T.x_Over T.i_Over T.ti_Over (ok_Over___init__ T) (fun a H Q E h => ⟨a, rfl, h⟩) (hr.mono (by decide)) T.b_Over___init__ pass0 (by rfl) T.g_Over) (pa_cons (EX15.pe_newE0 T.x_NoLoop T.i_NoLoop T.ti_NoLoop (ok_NoLoop___init__ T) (fun a H Q E h => ⟨a, rfl, h⟩) (hr.mono (by decide)) T.b_NoLoop___init__ pass0 (by rfl) T.g_NoLoop) (pa_cons (EX15.pe_newE0 T.x_NoWeights T.i_NoWeights T.ti_NoWeights (ok_NoWeights___init__ T) (fun a H Q E h => ⟨a, rfl, h⟩) (hr.mono (by decide)) T.b_NoWeights___init__ pass0 (by rfl) T.g_NoWeights) (pa_cons (EX15.pe_newE0 T.x_NoFraction T.i_NoFraction T.ti_NoFraction (ok_NoFraction___init__ T) (fun a H Q E h => ⟨a, rfl, h⟩) (hr.mono (by decide)) T.b_NoFraction___init__ pass0 (by rfl) T.g_NoFraction) (pa_cons (EX15.pe_newE0 T.x_OtherBounds T.i_OtherBounds T.ti_OtherBounds (ok_OtherBounds___init__ T) (fun a H Q E h => ⟨a, rfl, h⟩) (hr.mono (by decide)) T.b_OtherBounds___init__ pass0 (by rfl) T.g_OtherBounds) (pa_cons (EX15.pe_newE0 T.x_NoLetter T.i_NoLetter T.ti_NoLetter (ok_NoLetter___init__ T) (fun a H Q E h => ⟨a, rfl, h⟩) (hr.mono (by decide)) T.b_NoLetter___init__ pass0 (by rfl) T.g_NoLetter) (pa_cons (EX15.pe_newE0 T.x_NoDay T.i_NoDay T.ti_NoDay (ok_NoDay___init__ T) (fun a H Q E h => ⟨a, rfl, h⟩) (hr.mono (by decide)) T.b_NoDay___init__ pass0 (by rfl) T.g_NoDay) (pa_cons (EX15.pe_newE0 T.x_NoLine T.i_NoLine T.ti_NoLine (ok_NoLine___init__ T) (fun a H Q E h => ⟨a, rfl, h⟩) (hr.mono (by decide)) T.b_NoLine___init__ pass0 (by rfl) T.g_NoLine) pa_nil))))))))))))
  (pss_cons (ps_set (i := 2) sc__law_made.nd rfl (.inl rfl) (pe_op op_cat (pv 2) (pe_lst (pa_cons (EX6.pe_newE T.x_BadTable T.i_BadTable T.ti_BadTable (ok_BadTable___init__ T) (hr.mono (by decide)) T.b_BadTable___init__ .nil pass0 (by rfl) T.g_BadTable (pa_cons (pv 0) (pa_cons (pv 1) pa_nil))) (pa_cons (EX6.pe_newE T.x_Meet T.i_Meet T.ti_Meet (ok_Meet___init__ T) (hr.mono (by decide)) T.b_Meet___init__ .nil pass0 (by rfl) T.g_Meet (pa_cons (pv 0) (pa_cons (pv 1) pa_nil))) (pa_cons (EX6.pe_newE T.x_TooMany T.i_TooMany T.ti_TooMany (ok_TooMany___init__ T) (hr.mono (by decide)) T.b_TooMany___init__ .nil pass0 (by rfl) T.g_TooMany (pa_cons (pv 0) pa_nil)) (pa_cons (EX6.pe_newE T.x_BadText T.i_BadText T.ti_BadText (ok_BadText___init__ T) (hr.mono (by decide)) T.b_BadText___init__ .nil pass0 (by rfl) T.g_BadText (pa_cons (pv 0) pa_nil)) (pa_cons (EX6.pe_newE T.x_NoName T.i_NoName T.ti_NoName (ok_NoName___init__ T) (hr.mono (by decide)) T.b_NoName___init__ .nil pass0 (by rfl) T.g_NoName (pa_cons (pv 0) pa_nil)) pa_nil))))))))
  (pss_one (ps_ret (pe_op op_cat (pv 2) (pe_lst (pa_cons (EX15.pe_newE0 T.x_NoDoorings T.i_NoDoorings T.ti_NoDoorings (ok_NoDoorings___init__ T) (fun a H Q E h => ⟨a, rfl, h⟩) (hr.mono (by decide)) T.b_NoDoorings___init__ pass0 (by rfl) T.g_NoDoorings) (pa_cons (EX15.pe_newE0 T.x_NoLong T.i_NoLong T.ti_NoLong (ok_NoLong___init__ T) (fun a H Q E h => ⟨a, rfl, h⟩) (hr.mono (by decide)) T.b_NoLong___init__ pass0 (by rfl) T.g_NoLong) (pa_cons (EX15.pe_newE0 T.x_NoPrices T.i_NoPrices T.ti_NoPrices (ok_NoPrices___init__ T) (fun a H Q E h => ⟨a, rfl, h⟩) (hr.mono (by decide)) T.b_NoPrices___init__ pass0 (by rfl) T.g_NoPrices) (pa_cons (EX15.pe_newE0 T.x_OtherTables T.i_OtherTables T.ti_OtherTables (ok_OtherTables___init__ T) (fun a H Q E h => ⟨a, rfl, h⟩) (hr.mono (by decide)) T.b_OtherTables___init__ pass0 (by rfl) T.g_OtherTables) (pa_cons (EX15.pe_newE0 T.x_NoTables T.i_NoTables T.ti_NoTables (ok_NoTables___init__ T) (fun a H Q E h => ⟨a, rfl, h⟩) (hr.mono (by decide)) T.b_NoTables___init__ pass0 (by rfl) T.g_NoTables) (pa_cons (EX15.pe_newE0 T.x_NoTable T.i_NoTable T.ti_NoTable (ok_NoTable___init__ T) (fun a H Q E h => ⟨a, rfl, h⟩) (hr.mono (by decide)) T.b_NoTable___init__ pass0 (by rfl) T.g_NoTable) (pa_cons (EX6.pe_newE T.x_BadTree T.i_BadTree T.ti_BadTree (ok_BadTree___init__ T) (hr.mono (by decide)) T.b_BadTree___init__ .nil pass0 (by rfl) T.g_BadTree (pa_cons (pv 0) pa_nil)) pa_nil)))))))))))))))), ?_⟩
    refine fun a0 na0 => ?_
    have s_H0 : Same H (upd H a0 (exo a0 T.c_NoComers none)) := same_upd na0
    have x0 : (upd H a0 (exo a0 T.c_NoComers none)) a0 = some (exo a0 T.c_NoComers none) := upd_same
    generalize upd H a0 (exo a0 T.c_NoComers none) = H0 at *
    refine fun a1 na1 => ?_
    have s_H1 : Same H0 (upd H0 a1 (exo a1 T.c_NoBound none)) := same_upd na1
    have x1 : (upd H0 a1 (exo a1 T.c_NoBound none)) a1 = some (exo a1 T.c_NoBound none) := upd_same
    generalize upd H0 a1 (exo a1 T.c_NoBound none) = H1 at *
    refine fun a2 na2 => ?_
    have s_H2 : Same H1 (upd H1 a2 (exo a2 T.c_NoComings none)) := same_upd na2
    have x2 : (upd H1 a2 (exo a2 T.c_NoComings none)) a2 = some (exo a2 T.c_NoComings none) := upd_same
    generalize upd H1 a2 (exo a2 T.c_NoComings none) = H2 at *
    refine fun a3 na3 => ?_
    have s_H3 : Same H2 (upd H2 a3 (exo a3 T.c_NoSpot none)) := same_upd na3
    have x3 : (upd H2 a3 (exo a3 T.c_NoSpot none)) a3 = some (exo a3 T.c_NoSpot none) := upd_same
    generalize upd H2 a3 (exo a3 T.c_NoSpot none) = H3 at *
    refine fun a4 na4 => ?_
    have s_H4 : Same H3 (upd H3 a4 (exo a4 T.c_NoWalk none)) := same_upd na4
    have x4 : (upd H3 a4 (exo a4 T.c_NoWalk none)) a4 = some (exo a4 T.c_NoWalk none) := upd_same
    generalize upd H3 a4 (exo a4 T.c_NoWalk none) = H4 at *
    refine fun a5 na5 => ?_
    have s_H5 : Same H4 (upd H4 a5 (exo a5 T.c_NoTick none)) := same_upd na5
    have x5 : (upd H4 a5 (exo a5 T.c_NoTick none)) a5 = some (exo a5 T.c_NoTick none) := upd_same
    generalize upd H4 a5 (exo a5 T.c_NoTick none) = H5 at *
    refine fun a6 na6 => ?_
    have s_H6 : Same H5 (upd H5 a6 (exo a6 T.c_NoLoops none)) := same_upd na6
    have x6 : (upd H5 a6 (exo a6 T.c_NoLoops none)) a6 = some (exo a6 T.c_NoLoops none) := upd_same
    generalize upd H5 a6 (exo a6 T.c_NoLoops none) = H6 at *
    refine fun a7 na7 => ?_
    have s_H7 : Same H6 (upd H6 a7 (exo a7 T.c_NotDoubling none)) := same_upd na7
    have x7 : (upd H6 a7 (exo a7 T.c_NotDoubling none)) a7 = some (exo a7 T.c_NotDoubling none) := upd_same
    generalize upd H6 a7 (exo a7 T.c_NotDoubling none) = H7 at *
    refine fun a8 na8 => ?_
    have s_H8 : Same H7 (upd H7 a8 (exo a8 T.c_NoWait none)) := same_upd na8
    have x8 : (upd H7 a8 (exo a8 T.c_NoWait none)) a8 = some (exo a8 T.c_NoWait none) := upd_same
    generalize upd H7 a8 (exo a8 T.c_NoWait none) = H8 at *
    refine ⟨by show 9 ≤ sizeLine; decide, fun f0 nf0 => ?_⟩
    have s_L0 : Same H8 (upd H8 f0 (.lst [V.ref a0, V.ref a1, V.ref a2, V.ref a3, V.ref a4, V.ref a5, V.ref a6, V.ref a7, V.ref a8])) := same_upd nf0
    have e0 : (upd H8 f0 (.lst [V.ref a0, V.ref a1, V.ref a2, V.ref a3, V.ref a4, V.ref a5, V.ref a6, V.ref a7, V.ref a8])) f0 = some (.lst [V.ref a0, V.ref a1, V.ref a2, V.ref a3, V.ref a4, V.ref a5, V.ref a6, V.ref a7, V.ref a8]) := upd_same
    generalize upd H8 f0 (.lst [V.ref a0, V.ref a1, V.ref a2, V.ref a3, V.ref a4, V.ref a5, V.ref a6, V.ref a7, V.ref a8]) = L0 at *
    have c0 := e0
    refine ⟨.ref f0, rfl, ?_⟩
    refine fun a9 na9 => ?_
    have s_H9 : Same L0 (upd L0 a9 (exo a9 T.c_NoTotal none)) := same_upd na9
    have x9 : (upd L0 a9 (exo a9 T.c_NoTotal none)) a9 = some (exo a9 T.c_NoTotal none) := upd_same
    generalize upd L0 a9 (exo a9 T.c_NoTotal none) = H9 at *
    refine fun a10 na10 => ?_
    have s_H10 : Same H9 (upd H9 a10 (exo a10 T.c_NoRow none)) := same_upd na10
    have x10 : (upd H9 a10 (exo a10 T.c_NoRow none)) a10 = some (exo a10 T.c_NoRow none) := upd_same
    generalize upd H9 a10 (exo a10 T.c_NoRow none) = H10 at *
    refine fun a11 na11 => ?_
    have s_H11 : Same H10 (upd H10 a11 (exo a11 T.c_NoTold none)) := same_upd na11
    have x11 : (upd H10 a11 (exo a11 T.c_NoTold none)) a11 = some (exo a11 T.c_NoTold none) := upd_same
    generalize upd H10 a11 (exo a11 T.c_NoTold none) = H11 at *
    refine fun a12 na12 => ?_
    have s_H12 : Same H11 (upd H11 a12 (exo a12 T.c_NoStand none)) := same_upd na12
    have x12 : (upd H11 a12 (exo a12 T.c_NoStand none)) a12 = some (exo a12 T.c_NoStand none) := upd_same
    generalize upd H11 a12 (exo a12 T.c_NoStand none) = H12 at *
    refine fun a13 na13 => ?_
    have s_H13 : Same H12 (upd H12 a13 (exo a13 T.c_NoNumber none)) := same_upd na13
    have x13 : (upd H12 a13 (exo a13 T.c_NoNumber none)) a13 = some (exo a13 T.c_NoNumber none) := upd_same
    generalize upd H12 a13 (exo a13 T.c_NoNumber none) = H13 at *
    refine fun a14 na14 => ?_
    have s_H14 : Same H13 (upd H13 a14 (exo a14 T.c_NoLaying none)) := same_upd na14
    have x14 : (upd H13 a14 (exo a14 T.c_NoLaying none)) a14 = some (exo a14 T.c_NoLaying none) := upd_same
    generalize upd H13 a14 (exo a14 T.c_NoLaying none) = H14 at *
    refine fun a15 na15 => ?_
    have s_H15 : Same H14 (upd H14 a15 (exo a15 T.c_NoPlan none)) := same_upd na15
    have x15 : (upd H14 a15 (exo a15 T.c_NoPlan none)) a15 = some (exo a15 T.c_NoPlan none) := upd_same
    generalize upd H14 a15 (exo a15 T.c_NoPlan none) = H15 at *
    refine fun a16 na16 => ?_
    have s_H16 : Same H15 (upd H15 a16 (exo a16 T.c_NotKept none)) := same_upd na16
    have x16 : (upd H15 a16 (exo a16 T.c_NotKept none)) a16 = some (exo a16 T.c_NotKept none) := upd_same
    generalize upd H15 a16 (exo a16 T.c_NotKept none) = H16 at *
    refine fun a17 na17 => ?_
    have s_H17 : Same H16 (upd H16 a17 (exo a17 T.c_NothingDone none)) := same_upd na17
    have x17 : (upd H16 a17 (exo a17 T.c_NothingDone none)) a17 = some (exo a17 T.c_NothingDone none) := upd_same
    generalize upd H16 a17 (exo a17 T.c_NothingDone none) = H17 at *
    refine ⟨by show 9 ≤ sizeLine; decide, fun p1 np1 => ?_⟩
    have s_L1 : Same H17 (upd H17 p1 (.lst [V.ref a9, V.ref a10, V.ref a11, V.ref a12, V.ref a13, V.ref a14, V.ref a15, V.ref a16, V.ref a17])) := same_upd np1
    have e1 : (upd H17 p1 (.lst [V.ref a9, V.ref a10, V.ref a11, V.ref a12, V.ref a13, V.ref a14, V.ref a15, V.ref a16, V.ref a17])) p1 = some (.lst [V.ref a9, V.ref a10, V.ref a11, V.ref a12, V.ref a13, V.ref a14, V.ref a15, V.ref a16, V.ref a17]) := upd_same
    generalize upd H17 p1 (.lst [V.ref a9, V.ref a10, V.ref a11, V.ref a12, V.ref a13, V.ref a14, V.ref a15, V.ref a16, V.ref a17]) = L1 at *
    refine ⟨f0, p1, _, _, rfl, rfl, s_L1 _ _ (s_H17 _ _ (s_H16 _ _ (s_H15 _ _ (s_H14 _ _ (s_H13 _ _ (s_H12 _ _ (s_H11 _ _ (s_H10 _ _ (s_H9 _ _ (c0)))))))))), e1, by show 18 ≤ sizeLine; decide, fun f1 nf1 => ?_⟩
    have s_M1 : Same L1 (upd L1 f1 (.lst ([V.ref a0, V.ref a1, V.ref a2, V.ref a3, V.ref a4, V.ref a5, V.ref a6, V.ref a7, V.ref a8] ++ [V.ref a9, V.ref a10, V.ref a11, V.ref a12, V.ref a13, V.ref a14, V.ref a15, V.ref a16, V.ref a17]))) := same_upd nf1
    have c1 : (upd L1 f1 (.lst ([V.ref a0, V.ref a1, V.ref a2, V.ref a3, V.ref a4, V.ref a5, V.ref a6, V.ref a7, V.ref a8] ++ [V.ref a9, V.ref a10, V.ref a11, V.ref a12, V.ref a13, V.ref a14, V.ref a15, V.ref a16, V.ref a17]))) f1 = some (.lst [V.ref a0, V.ref a1, V.ref a2, V.ref a3, V.ref a4, V.ref a5, V.ref a6, V.ref a7, V.ref a8, V.ref a9, V.ref a10, V.ref a11, V.ref a12, V.ref a13, V.ref a14, V.ref a15, V.ref a16, V.ref a17]) := upd_same
    generalize upd L1 f1 (.lst ([V.ref a0, V.ref a1, V.ref a2, V.ref a3, V.ref a4, V.ref a5, V.ref a6, V.ref a7, V.ref a8] ++ [V.ref a9, V.ref a10, V.ref a11, V.ref a12, V.ref a13, V.ref a14, V.ref a15, V.ref a16, V.ref a17])) = M1 at *
    refine ⟨.ref f1, rfl, ?_⟩
    refine fun a18 na18 => ?_
    have s_H18 : Same M1 (upd M1 a18 (exo a18 T.c_NotLost none)) := same_upd na18
    have x18 : (upd M1 a18 (exo a18 T.c_NotLost none)) a18 = some (exo a18 T.c_NotLost none) := upd_same
    generalize upd M1 a18 (exo a18 T.c_NotLost none) = H18 at *
    refine fun a19 na19 => ?_
    have s_H19 : Same H18 (upd H18 a19 (exo a19 T.c_Over none)) := same_upd na19
    have x19 : (upd H18 a19 (exo a19 T.c_Over none)) a19 = some (exo a19 T.c_Over none) := upd_same
    generalize upd H18 a19 (exo a19 T.c_Over none) = H19 at *
    refine fun a20 na20 => ?_
    have s_H20 : Same H19 (upd H19 a20 (exo a20 T.c_NoLoop none)) := same_upd na20
    have x20 : (upd H19 a20 (exo a20 T.c_NoLoop none)) a20 = some (exo a20 T.c_NoLoop none) := upd_same
    generalize upd H19 a20 (exo a20 T.c_NoLoop none) = H20 at *
    refine fun a21 na21 => ?_
    have s_H21 : Same H20 (upd H20 a21 (exo a21 T.c_NoWeights none)) := same_upd na21
    have x21 : (upd H20 a21 (exo a21 T.c_NoWeights none)) a21 = some (exo a21 T.c_NoWeights none) := upd_same
    generalize upd H20 a21 (exo a21 T.c_NoWeights none) = H21 at *
    refine fun a22 na22 => ?_
    have s_H22 : Same H21 (upd H21 a22 (exo a22 T.c_NoFraction none)) := same_upd na22
    have x22 : (upd H21 a22 (exo a22 T.c_NoFraction none)) a22 = some (exo a22 T.c_NoFraction none) := upd_same
    generalize upd H21 a22 (exo a22 T.c_NoFraction none) = H22 at *
    refine fun a23 na23 => ?_
    have s_H23 : Same H22 (upd H22 a23 (exo a23 T.c_OtherBounds none)) := same_upd na23
    have x23 : (upd H22 a23 (exo a23 T.c_OtherBounds none)) a23 = some (exo a23 T.c_OtherBounds none) := upd_same
    generalize upd H22 a23 (exo a23 T.c_OtherBounds none) = H23 at *
    refine fun a24 na24 => ?_
    have s_H24 : Same H23 (upd H23 a24 (exo a24 T.c_NoLetter none)) := same_upd na24
    have x24 : (upd H23 a24 (exo a24 T.c_NoLetter none)) a24 = some (exo a24 T.c_NoLetter none) := upd_same
    generalize upd H23 a24 (exo a24 T.c_NoLetter none) = H24 at *
    refine fun a25 na25 => ?_
    have s_H25 : Same H24 (upd H24 a25 (exo a25 T.c_NoDay none)) := same_upd na25
    have x25 : (upd H24 a25 (exo a25 T.c_NoDay none)) a25 = some (exo a25 T.c_NoDay none) := upd_same
    generalize upd H24 a25 (exo a25 T.c_NoDay none) = H25 at *
    refine fun a26 na26 => ?_
    have s_H26 : Same H25 (upd H25 a26 (exo a26 T.c_NoLine none)) := same_upd na26
    have x26 : (upd H25 a26 (exo a26 T.c_NoLine none)) a26 = some (exo a26 T.c_NoLine none) := upd_same
    generalize upd H25 a26 (exo a26 T.c_NoLine none) = H26 at *
    refine ⟨by show 9 ≤ sizeLine; decide, fun p2 np2 => ?_⟩
    have s_L2 : Same H26 (upd H26 p2 (.lst [V.ref a18, V.ref a19, V.ref a20, V.ref a21, V.ref a22, V.ref a23, V.ref a24, V.ref a25, V.ref a26])) := same_upd np2
    have e2 : (upd H26 p2 (.lst [V.ref a18, V.ref a19, V.ref a20, V.ref a21, V.ref a22, V.ref a23, V.ref a24, V.ref a25, V.ref a26])) p2 = some (.lst [V.ref a18, V.ref a19, V.ref a20, V.ref a21, V.ref a22, V.ref a23, V.ref a24, V.ref a25, V.ref a26]) := upd_same
    generalize upd H26 p2 (.lst [V.ref a18, V.ref a19, V.ref a20, V.ref a21, V.ref a22, V.ref a23, V.ref a24, V.ref a25, V.ref a26]) = L2 at *
    refine ⟨f1, p2, _, _, rfl, rfl, s_L2 _ _ (s_H26 _ _ (s_H25 _ _ (s_H24 _ _ (s_H23 _ _ (s_H22 _ _ (s_H21 _ _ (s_H20 _ _ (s_H19 _ _ (s_H18 _ _ (c1)))))))))), e2, by show 27 ≤ sizeLine; decide, fun f2 nf2 => ?_⟩
    have s_M2 : Same L2 (upd L2 f2 (.lst ([V.ref a0, V.ref a1, V.ref a2, V.ref a3, V.ref a4, V.ref a5, V.ref a6, V.ref a7, V.ref a8, V.ref a9, V.ref a10, V.ref a11, V.ref a12, V.ref a13, V.ref a14, V.ref a15, V.ref a16, V.ref a17] ++ [V.ref a18, V.ref a19, V.ref a20, V.ref a21, V.ref a22, V.ref a23, V.ref a24, V.ref a25, V.ref a26]))) := same_upd nf2
    have c2 : (upd L2 f2 (.lst ([V.ref a0, V.ref a1, V.ref a2, V.ref a3, V.ref a4, V.ref a5, V.ref a6, V.ref a7, V.ref a8, V.ref a9, V.ref a10, V.ref a11, V.ref a12, V.ref a13, V.ref a14, V.ref a15, V.ref a16, V.ref a17] ++ [V.ref a18, V.ref a19, V.ref a20, V.ref a21, V.ref a22, V.ref a23, V.ref a24, V.ref a25, V.ref a26]))) f2 = some (.lst [V.ref a0, V.ref a1, V.ref a2, V.ref a3, V.ref a4, V.ref a5, V.ref a6, V.ref a7, V.ref a8, V.ref a9, V.ref a10, V.ref a11, V.ref a12, V.ref a13, V.ref a14, V.ref a15, V.ref a16, V.ref a17, V.ref a18, V.ref a19, V.ref a20, V.ref a21, V.ref a22, V.ref a23, V.ref a24, V.ref a25, V.ref a26]) := upd_same
    generalize upd L2 f2 (.lst ([V.ref a0, V.ref a1, V.ref a2, V.ref a3, V.ref a4, V.ref a5, V.ref a6, V.ref a7, V.ref a8, V.ref a9, V.ref a10, V.ref a11, V.ref a12, V.ref a13, V.ref a14, V.ref a15, V.ref a16, V.ref a17] ++ [V.ref a18, V.ref a19, V.ref a20, V.ref a21, V.ref a22, V.ref a23, V.ref a24, V.ref a25, V.ref a26])) = M2 at *
    refine ⟨.ref f2, rfl, ?_⟩
    refine ⟨one, rfl, other, rfl, by show 2 ≤ 1000; decide, fun a27 na27 => ⟨a27, one, other, rfl, upd_same, fun d27 nd27 ne27 => ⟨rfl, ?_⟩⟩⟩
    have s_H27 : Same M2 (upd (upd (upd (upd M2 a27 (exo a27 T.c_BadTable none)) d27 (exd d27 [("part", one)])) a27 (exo a27 T.c_BadTable (some d27))) d27 (exd d27 [("at", other), ("part", one)])) := same_new2 na27 nd27
    have x27 : (upd (upd (upd (upd M2 a27 (exo a27 T.c_BadTable none)) d27 (exd d27 [("part", one)])) a27 (exo a27 T.c_BadTable (some d27))) d27 (exd d27 [("at", other), ("part", one)])) a27 = some (exo a27 T.c_BadTable (some d27)) := (upd_ne (Ne.symm ne27)).trans upd_same
    have y27 : (upd (upd (upd (upd M2 a27 (exo a27 T.c_BadTable none)) d27 (exd d27 [("part", one)])) a27 (exo a27 T.c_BadTable (some d27))) d27 (exd d27 [("at", other), ("part", one)])) d27 = some (exd d27 [("at", other), ("part", one)]) := upd_same
    generalize upd (upd (upd (upd M2 a27 (exo a27 T.c_BadTable none)) d27 (exd d27 [("part", one)])) a27 (exo a27 T.c_BadTable (some d27))) d27 (exd d27 [("at", other), ("part", one)]) = H27 at *
    refine ⟨one, rfl, other, rfl, by show 2 ≤ 1000; decide, fun a28 na28 => ⟨a28, one, other, rfl, upd_same, fun d28 nd28 ne28 => ⟨rfl, ?_⟩⟩⟩
    have s_H28 : Same H27 (upd (upd (upd (upd H27 a28 (exo a28 T.c_Meet none)) d28 (exd d28 [("tick", one)])) a28 (exo a28 T.c_Meet (some d28))) d28 (exd d28 [("loop", other), ("tick", one)])) := same_new2 na28 nd28
    have x28 : (upd (upd (upd (upd H27 a28 (exo a28 T.c_Meet none)) d28 (exd d28 [("tick", one)])) a28 (exo a28 T.c_Meet (some d28))) d28 (exd d28 [("loop", other), ("tick", one)])) a28 = some (exo a28 T.c_Meet (some d28)) := (upd_ne (Ne.symm ne28)).trans upd_same
    have y28 : (upd (upd (upd (upd H27 a28 (exo a28 T.c_Meet none)) d28 (exd d28 [("tick", one)])) a28 (exo a28 T.c_Meet (some d28))) d28 (exd d28 [("loop", other), ("tick", one)])) d28 = some (exd d28 [("loop", other), ("tick", one)]) := upd_same
    generalize upd (upd (upd (upd H27 a28 (exo a28 T.c_Meet none)) d28 (exd d28 [("tick", one)])) a28 (exo a28 T.c_Meet (some d28))) d28 (exd d28 [("loop", other), ("tick", one)]) = H28 at *
    refine ⟨one, rfl, by show 1 ≤ 1000; decide, fun a29 na29 => ⟨a29, one, rfl, upd_same, fun d29 nd29 ne29 => ⟨rfl, ?_⟩⟩⟩
    have s_H29 : Same H28 (upd (upd (upd H28 a29 (exo a29 T.c_TooMany none)) d29 (exd d29 [("most", one)])) a29 (exo a29 T.c_TooMany (some d29))) := same_new1 na29 nd29
    have x29 : (upd (upd (upd H28 a29 (exo a29 T.c_TooMany none)) d29 (exd d29 [("most", one)])) a29 (exo a29 T.c_TooMany (some d29))) a29 = some (exo a29 T.c_TooMany (some d29)) := upd_same
    have y29 : (upd (upd (upd H28 a29 (exo a29 T.c_TooMany none)) d29 (exd d29 [("most", one)])) a29 (exo a29 T.c_TooMany (some d29))) d29 = some (exd d29 [("most", one)]) := (upd_ne ne29).trans upd_same
    generalize upd (upd (upd H28 a29 (exo a29 T.c_TooMany none)) d29 (exd d29 [("most", one)])) a29 (exo a29 T.c_TooMany (some d29)) = H29 at *
    refine ⟨one, rfl, by show 1 ≤ 1000; decide, fun a30 na30 => ⟨a30, one, rfl, upd_same, fun d30 nd30 ne30 => ⟨rfl, ?_⟩⟩⟩
    have s_H30 : Same H29 (upd (upd (upd H29 a30 (exo a30 T.c_BadText none)) d30 (exd d30 [("line", one)])) a30 (exo a30 T.c_BadText (some d30))) := same_new1 na30 nd30
    have x30 : (upd (upd (upd H29 a30 (exo a30 T.c_BadText none)) d30 (exd d30 [("line", one)])) a30 (exo a30 T.c_BadText (some d30))) a30 = some (exo a30 T.c_BadText (some d30)) := upd_same
    have y30 : (upd (upd (upd H29 a30 (exo a30 T.c_BadText none)) d30 (exd d30 [("line", one)])) a30 (exo a30 T.c_BadText (some d30))) d30 = some (exd d30 [("line", one)]) := (upd_ne ne30).trans upd_same
    generalize upd (upd (upd H29 a30 (exo a30 T.c_BadText none)) d30 (exd d30 [("line", one)])) a30 (exo a30 T.c_BadText (some d30)) = H30 at *
    refine ⟨one, rfl, by show 1 ≤ 1000; decide, fun a31 na31 => ⟨a31, one, rfl, upd_same, fun d31 nd31 ne31 => ⟨rfl, ?_⟩⟩⟩
    have s_H31 : Same H30 (upd (upd (upd H30 a31 (exo a31 T.c_NoName none)) d31 (exd d31 [("name", one)])) a31 (exo a31 T.c_NoName (some d31))) := same_new1 na31 nd31
    have x31 : (upd (upd (upd H30 a31 (exo a31 T.c_NoName none)) d31 (exd d31 [("name", one)])) a31 (exo a31 T.c_NoName (some d31))) a31 = some (exo a31 T.c_NoName (some d31)) := upd_same
    have y31 : (upd (upd (upd H30 a31 (exo a31 T.c_NoName none)) d31 (exd d31 [("name", one)])) a31 (exo a31 T.c_NoName (some d31))) d31 = some (exd d31 [("name", one)]) := (upd_ne ne31).trans upd_same
    generalize upd (upd (upd H30 a31 (exo a31 T.c_NoName none)) d31 (exd d31 [("name", one)])) a31 (exo a31 T.c_NoName (some d31)) = H31 at *
    refine ⟨by show 5 ≤ sizeLine; decide, fun p3 np3 => ?_⟩
    have s_L3 : Same H31 (upd H31 p3 (.lst [V.ref a27, V.ref a28, V.ref a29, V.ref a30, V.ref a31])) := same_upd np3
    have e3 : (upd H31 p3 (.lst [V.ref a27, V.ref a28, V.ref a29, V.ref a30, V.ref a31])) p3 = some (.lst [V.ref a27, V.ref a28, V.ref a29, V.ref a30, V.ref a31]) := upd_same
    generalize upd H31 p3 (.lst [V.ref a27, V.ref a28, V.ref a29, V.ref a30, V.ref a31]) = L3 at *
    refine ⟨f2, p3, _, _, rfl, rfl, s_L3 _ _ (s_H31 _ _ (s_H30 _ _ (s_H29 _ _ (s_H28 _ _ (s_H27 _ _ (c2)))))), e3, by show 32 ≤ sizeLine; decide, fun f3 nf3 => ?_⟩
    have s_M3 : Same L3 (upd L3 f3 (.lst ([V.ref a0, V.ref a1, V.ref a2, V.ref a3, V.ref a4, V.ref a5, V.ref a6, V.ref a7, V.ref a8, V.ref a9, V.ref a10, V.ref a11, V.ref a12, V.ref a13, V.ref a14, V.ref a15, V.ref a16, V.ref a17, V.ref a18, V.ref a19, V.ref a20, V.ref a21, V.ref a22, V.ref a23, V.ref a24, V.ref a25, V.ref a26] ++ [V.ref a27, V.ref a28, V.ref a29, V.ref a30, V.ref a31]))) := same_upd nf3
    have c3 : (upd L3 f3 (.lst ([V.ref a0, V.ref a1, V.ref a2, V.ref a3, V.ref a4, V.ref a5, V.ref a6, V.ref a7, V.ref a8, V.ref a9, V.ref a10, V.ref a11, V.ref a12, V.ref a13, V.ref a14, V.ref a15, V.ref a16, V.ref a17, V.ref a18, V.ref a19, V.ref a20, V.ref a21, V.ref a22, V.ref a23, V.ref a24, V.ref a25, V.ref a26] ++ [V.ref a27, V.ref a28, V.ref a29, V.ref a30, V.ref a31]))) f3 = some (.lst [V.ref a0, V.ref a1, V.ref a2, V.ref a3, V.ref a4, V.ref a5, V.ref a6, V.ref a7, V.ref a8, V.ref a9, V.ref a10, V.ref a11, V.ref a12, V.ref a13, V.ref a14, V.ref a15, V.ref a16, V.ref a17, V.ref a18, V.ref a19, V.ref a20, V.ref a21, V.ref a22, V.ref a23, V.ref a24, V.ref a25, V.ref a26, V.ref a27, V.ref a28, V.ref a29, V.ref a30, V.ref a31]) := upd_same
    generalize upd L3 f3 (.lst ([V.ref a0, V.ref a1, V.ref a2, V.ref a3, V.ref a4, V.ref a5, V.ref a6, V.ref a7, V.ref a8, V.ref a9, V.ref a10, V.ref a11, V.ref a12, V.ref a13, V.ref a14, V.ref a15, V.ref a16, V.ref a17, V.ref a18, V.ref a19, V.ref a20, V.ref a21, V.ref a22, V.ref a23, V.ref a24, V.ref a25, V.ref a26] ++ [V.ref a27, V.ref a28, V.ref a29, V.ref a30, V.ref a31])) = M3 at *
    refine ⟨.ref f3, rfl, ?_⟩
    refine fun a32 na32 => ?_
    have s_H32 : Same M3 (upd M3 a32 (exo a32 T.c_NoDoorings none)) := same_upd na32
    have x32 : (upd M3 a32 (exo a32 T.c_NoDoorings none)) a32 = some (exo a32 T.c_NoDoorings none) := upd_same
    generalize upd M3 a32 (exo a32 T.c_NoDoorings none) = H32 at *
    refine fun a33 na33 => ?_
    have s_H33 : Same H32 (upd H32 a33 (exo a33 T.c_NoLong none)) := same_upd na33
    have x33 : (upd H32 a33 (exo a33 T.c_NoLong none)) a33 = some (exo a33 T.c_NoLong none) := upd_same
    generalize upd H32 a33 (exo a33 T.c_NoLong none) = H33 at *
    refine fun a34 na34 => ?_
    have s_H34 : Same H33 (upd H33 a34 (exo a34 T.c_NoPrices none)) := same_upd na34
    have x34 : (upd H33 a34 (exo a34 T.c_NoPrices none)) a34 = some (exo a34 T.c_NoPrices none) := upd_same
    generalize upd H33 a34 (exo a34 T.c_NoPrices none) = H34 at *
    refine fun a35 na35 => ?_
    have s_H35 : Same H34 (upd H34 a35 (exo a35 T.c_OtherTables none)) := same_upd na35
    have x35 : (upd H34 a35 (exo a35 T.c_OtherTables none)) a35 = some (exo a35 T.c_OtherTables none) := upd_same
    generalize upd H34 a35 (exo a35 T.c_OtherTables none) = H35 at *
    refine fun a36 na36 => ?_
    have s_H36 : Same H35 (upd H35 a36 (exo a36 T.c_NoTables none)) := same_upd na36
    have x36 : (upd H35 a36 (exo a36 T.c_NoTables none)) a36 = some (exo a36 T.c_NoTables none) := upd_same
    generalize upd H35 a36 (exo a36 T.c_NoTables none) = H36 at *
    refine fun a37 na37 => ?_
    have s_H37 : Same H36 (upd H36 a37 (exo a37 T.c_NoTable none)) := same_upd na37
    have x37 : (upd H36 a37 (exo a37 T.c_NoTable none)) a37 = some (exo a37 T.c_NoTable none) := upd_same
    generalize upd H36 a37 (exo a37 T.c_NoTable none) = H37 at *
    refine ⟨one, rfl, by show 1 ≤ 1000; decide, fun a38 na38 => ⟨a38, one, rfl, upd_same, fun d38 nd38 ne38 => ⟨rfl, ?_⟩⟩⟩
    have s_H38 : Same H37 (upd (upd (upd H37 a38 (exo a38 T.c_BadTree none)) d38 (exd d38 [("at", one)])) a38 (exo a38 T.c_BadTree (some d38))) := same_new1 na38 nd38
    have x38 : (upd (upd (upd H37 a38 (exo a38 T.c_BadTree none)) d38 (exd d38 [("at", one)])) a38 (exo a38 T.c_BadTree (some d38))) a38 = some (exo a38 T.c_BadTree (some d38)) := upd_same
    have y38 : (upd (upd (upd H37 a38 (exo a38 T.c_BadTree none)) d38 (exd d38 [("at", one)])) a38 (exo a38 T.c_BadTree (some d38))) d38 = some (exd d38 [("at", one)]) := (upd_ne ne38).trans upd_same
    generalize upd (upd (upd H37 a38 (exo a38 T.c_BadTree none)) d38 (exd d38 [("at", one)])) a38 (exo a38 T.c_BadTree (some d38)) = H38 at *
    refine ⟨by show 7 ≤ sizeLine; decide, fun p4 np4 => ?_⟩
    have s_L4 : Same H38 (upd H38 p4 (.lst [V.ref a32, V.ref a33, V.ref a34, V.ref a35, V.ref a36, V.ref a37, V.ref a38])) := same_upd np4
    have e4 : (upd H38 p4 (.lst [V.ref a32, V.ref a33, V.ref a34, V.ref a35, V.ref a36, V.ref a37, V.ref a38])) p4 = some (.lst [V.ref a32, V.ref a33, V.ref a34, V.ref a35, V.ref a36, V.ref a37, V.ref a38]) := upd_same
    generalize upd H38 p4 (.lst [V.ref a32, V.ref a33, V.ref a34, V.ref a35, V.ref a36, V.ref a37, V.ref a38]) = L4 at *
    refine ⟨f3, p4, _, _, rfl, rfl, s_L4 _ _ (s_H38 _ _ (s_H37 _ _ (s_H36 _ _ (s_H35 _ _ (s_H34 _ _ (s_H33 _ _ (s_H32 _ _ (c3)))))))), e4, by show 39 ≤ sizeLine; decide, fun f4 nf4 => ?_⟩
    have s_M4 : Same L4 (upd L4 f4 (.lst ([V.ref a0, V.ref a1, V.ref a2, V.ref a3, V.ref a4, V.ref a5, V.ref a6, V.ref a7, V.ref a8, V.ref a9, V.ref a10, V.ref a11, V.ref a12, V.ref a13, V.ref a14, V.ref a15, V.ref a16, V.ref a17, V.ref a18, V.ref a19, V.ref a20, V.ref a21, V.ref a22, V.ref a23, V.ref a24, V.ref a25, V.ref a26, V.ref a27, V.ref a28, V.ref a29, V.ref a30, V.ref a31] ++ [V.ref a32, V.ref a33, V.ref a34, V.ref a35, V.ref a36, V.ref a37, V.ref a38]))) := same_upd nf4
    have c4 : (upd L4 f4 (.lst ([V.ref a0, V.ref a1, V.ref a2, V.ref a3, V.ref a4, V.ref a5, V.ref a6, V.ref a7, V.ref a8, V.ref a9, V.ref a10, V.ref a11, V.ref a12, V.ref a13, V.ref a14, V.ref a15, V.ref a16, V.ref a17, V.ref a18, V.ref a19, V.ref a20, V.ref a21, V.ref a22, V.ref a23, V.ref a24, V.ref a25, V.ref a26, V.ref a27, V.ref a28, V.ref a29, V.ref a30, V.ref a31] ++ [V.ref a32, V.ref a33, V.ref a34, V.ref a35, V.ref a36, V.ref a37, V.ref a38]))) f4 = some (.lst [V.ref a0, V.ref a1, V.ref a2, V.ref a3, V.ref a4, V.ref a5, V.ref a6, V.ref a7, V.ref a8, V.ref a9, V.ref a10, V.ref a11, V.ref a12, V.ref a13, V.ref a14, V.ref a15, V.ref a16, V.ref a17, V.ref a18, V.ref a19, V.ref a20, V.ref a21, V.ref a22, V.ref a23, V.ref a24, V.ref a25, V.ref a26, V.ref a27, V.ref a28, V.ref a29, V.ref a30, V.ref a31, V.ref a32, V.ref a33, V.ref a34, V.ref a35, V.ref a36, V.ref a37, V.ref a38]) := upd_same
    generalize upd L4 f4 (.lst ([V.ref a0, V.ref a1, V.ref a2, V.ref a3, V.ref a4, V.ref a5, V.ref a6, V.ref a7, V.ref a8, V.ref a9, V.ref a10, V.ref a11, V.ref a12, V.ref a13, V.ref a14, V.ref a15, V.ref a16, V.ref a17, V.ref a18, V.ref a19, V.ref a20, V.ref a21, V.ref a22, V.ref a23, V.ref a24, V.ref a25, V.ref a26, V.ref a27, V.ref a28, V.ref a29, V.ref a30, V.ref a31] ++ [V.ref a32, V.ref a33, V.ref a34, V.ref a35, V.ref a36, V.ref a37, V.ref a38])) = M4 at *
    have u_M4 : Same M4 M4 := Same.refl _
    have u_L4 := s_M4.trans u_M4
    have u_H38 := s_L4.trans u_L4
    have u_H37 := s_H38.trans u_H38
    have u_H36 := s_H37.trans u_H37
    have u_H35 := s_H36.trans u_H36
    have u_H34 := s_H35.trans u_H35
    have u_H33 := s_H34.trans u_H34
    have u_H32 := s_H33.trans u_H33
    have u_M3 := s_H32.trans u_H32
    have u_L3 := s_M3.trans u_M3
    have u_H31 := s_L3.trans u_L3
    have u_H30 := s_H31.trans u_H31
    have u_H29 := s_H30.trans u_H30
    have u_H28 := s_H29.trans u_H29
    have u_H27 := s_H28.trans u_H28
    have u_M2 := s_H27.trans u_H27
    have u_L2 := s_M2.trans u_M2
    have u_H26 := s_L2.trans u_L2
    have u_H25 := s_H26.trans u_H26
    have u_H24 := s_H25.trans u_H25
    have u_H23 := s_H24.trans u_H24
    have u_H22 := s_H23.trans u_H23
    have u_H21 := s_H22.trans u_H22
    have u_H20 := s_H21.trans u_H21
    have u_H19 := s_H20.trans u_H20
    have u_H18 := s_H19.trans u_H19
    have u_M1 := s_H18.trans u_H18
    have u_L1 := s_M1.trans u_M1
    have u_H17 := s_L1.trans u_L1
    have u_H16 := s_H17.trans u_H17
    have u_H15 := s_H16.trans u_H16
    have u_H14 := s_H15.trans u_H15
    have u_H13 := s_H14.trans u_H14
    have u_H12 := s_H13.trans u_H13
    have u_H11 := s_H12.trans u_H12
    have u_H10 := s_H11.trans u_H11
    have u_H9 := s_H10.trans u_H10
    have u_L0 := s_H9.trans u_H9
    have u_H8 := s_L0.trans u_L0
    have u_H7 := s_H8.trans u_H8
    have u_H6 := s_H7.trans u_H7
    have u_H5 := s_H6.trans u_H6
    have u_H4 := s_H5.trans u_H5
    have u_H3 := s_H4.trans u_H4
    have u_H2 := s_H3.trans u_H3
    have u_H1 := s_H2.trans u_H2
    have u_H0 := s_H1.trans u_H1
    have u_H := s_H0.trans u_H0
    have al : AllE T M4 0 [a0, a1, a2, a3, a4, a5, a6, a7, a8, a9, a10, a11, a12, a13, a14, a15, a16, a17, a18, a19, a20, a21, a22, a23, a24, a25, a26, a27, a28, a29, a30, a31, a32, a33, a34, a35, a36, a37, a38] := ⟨exc0 (C := T.c_NoComers) rfl (u_H0 _ _ x0), exc0 (C := T.c_NoBound) rfl (u_H1 _ _ x1), exc0 (C := T.c_NoComings) rfl (u_H2 _ _ x2), exc0 (C := T.c_NoSpot) rfl (u_H3 _ _ x3), exc0 (C := T.c_NoWalk) rfl (u_H4 _ _ x4), exc0 (C := T.c_NoTick) rfl (u_H5 _ _ x5), exc0 (C := T.c_NoLoops) rfl (u_H6 _ _ x6), exc0 (C := T.c_NotDoubling) rfl (u_H7 _ _ x7), exc0 (C := T.c_NoWait) rfl (u_H8 _ _ x8), exc0 (C := T.c_NoTotal) rfl (u_H9 _ _ x9), exc0 (C := T.c_NoRow) rfl (u_H10 _ _ x10), exc0 (C := T.c_NoTold) rfl (u_H11 _ _ x11), exc0 (C := T.c_NoStand) rfl (u_H12 _ _ x12), exc0 (C := T.c_NoNumber) rfl (u_H13 _ _ x13), exc0 (C := T.c_NoLaying) rfl (u_H14 _ _ x14), exc0 (C := T.c_NoPlan) rfl (u_H15 _ _ x15), exc0 (C := T.c_NotKept) rfl (u_H16 _ _ x16), exc0 (C := T.c_NothingDone) rfl (u_H17 _ _ x17), exc0 (C := T.c_NotLost) rfl (u_H18 _ _ x18), exc0 (C := T.c_Over) rfl (u_H19 _ _ x19), exc0 (C := T.c_NoLoop) rfl (u_H20 _ _ x20), exc0 (C := T.c_NoWeights) rfl (u_H21 _ _ x21), exc0 (C := T.c_NoFraction) rfl (u_H22 _ _ x22), exc0 (C := T.c_OtherBounds) rfl (u_H23 _ _ x23), exc0 (C := T.c_NoLetter) rfl (u_H24 _ _ x24), exc0 (C := T.c_NoDay) rfl (u_H25 _ _ x25), exc0 (C := T.c_NoLine) rfl (u_H26 _ _ x26), exc1 (C := T.c_BadTable) rfl (u_H27 _ _ x27) (u_H27 _ _ y27), exc1 (C := T.c_Meet) rfl (u_H28 _ _ x28) (u_H28 _ _ y28), exc1 (C := T.c_TooMany) rfl (u_H29 _ _ x29) (u_H29 _ _ y29), exc1 (C := T.c_BadText) rfl (u_H30 _ _ x30) (u_H30 _ _ y30), exc1 (C := T.c_NoName) rfl (u_H31 _ _ x31) (u_H31 _ _ y31), exc0 (C := T.c_NoDoorings) rfl (u_H32 _ _ x32), exc0 (C := T.c_NoLong) rfl (u_H33 _ _ x33), exc0 (C := T.c_NoPrices) rfl (u_H34 _ _ x34), exc0 (C := T.c_OtherTables) rfl (u_H35 _ _ x35), exc0 (C := T.c_NoTables) rfl (u_H36 _ _ x36), exc0 (C := T.c_NoTable) rfl (u_H37 _ _ x37), exc1 (C := T.c_BadTree) rfl (u_H38 _ _ x38) (u_H38 _ _ y38), trivial⟩
    have v_H : Same H H := Same.refl _
    have v_H0 := v_H.trans s_H0
    have v_H1 := v_H0.trans s_H1
    have v_H2 := v_H1.trans s_H2
    have v_H3 := v_H2.trans s_H3
    have v_H4 := v_H3.trans s_H4
    have v_H5 := v_H4.trans s_H5
    have v_H6 := v_H5.trans s_H6
    have v_H7 := v_H6.trans s_H7
    have v_H8 := v_H7.trans s_H8
    have v_L0 := v_H8.trans s_L0
    have v_H9 := v_L0.trans s_H9
    have v_H10 := v_H9.trans s_H10
    have v_H11 := v_H10.trans s_H11
    have v_H12 := v_H11.trans s_H12
    have v_H13 := v_H12.trans s_H13
    have v_H14 := v_H13.trans s_H14
    have v_H15 := v_H14.trans s_H15
    have v_H16 := v_H15.trans s_H16
    have v_H17 := v_H16.trans s_H17
    have v_L1 := v_H17.trans s_L1
    have v_M1 := v_L1.trans s_M1
    have v_H18 := v_M1.trans s_H18
    have v_H19 := v_H18.trans s_H19
    have v_H20 := v_H19.trans s_H20
    have v_H21 := v_H20.trans s_H21
    have v_H22 := v_H21.trans s_H22
    have v_H23 := v_H22.trans s_H23
    have v_H24 := v_H23.trans s_H24
    have v_H25 := v_H24.trans s_H25
    have v_H26 := v_H25.trans s_H26
    have v_L2 := v_H26.trans s_L2
    have v_M2 := v_L2.trans s_M2
    have v_H27 := v_M2.trans s_H27
    have v_H28 := v_H27.trans s_H28
    have v_H29 := v_H28.trans s_H29
    have v_H30 := v_H29.trans s_H30
    have v_H31 := v_H30.trans s_H31
    have v_L3 := v_H31.trans s_L3
    have v_M3 := v_L3.trans s_M3
    have v_H32 := v_M3.trans s_H32
    have v_H33 := v_H32.trans s_H33
    have v_H34 := v_H33.trans s_H34
    have v_H35 := v_H34.trans s_H35
    have v_H36 := v_H35.trans s_H36
    have v_H37 := v_H36.trans s_H37
    have v_H38 := v_H37.trans s_H38
    have v_L4 := v_H38.trans s_L4
    exact q f4 [a0, a1, a2, a3, a4, a5, a6, a7, a8, a9, a10, a11, a12, a13, a14, a15, a16, a17, a18, a19, a20, a21, a22, a23, a24, a25, a26, a27, a28, a29, a30, a31, a32, a33, a34, a35, a36, a37, a38] M4 (none_back v_L4 nf4) u_H c4 ⟨rfl, al, ⟨a27, d27, rfl, u_H27 _ _ x27, u_H27 _ _ y27⟩, ⟨a28, d28, rfl, u_H28 _ _ x28, u_H28 _ _ y28⟩, ⟨a29, d29, rfl, u_H29 _ _ x29, u_H29 _ _ y29⟩, ⟨a30, d30, rfl, u_H30 _ _ x30, u_H30 _ _ y30⟩, ⟨a31, d31, rfl, u_H31 _ _ x31, u_H31 _ _ y31⟩, ⟨a38, d38, rfl, u_H38 _ _ x38, u_H38 _ _ y38⟩⟩
end

/-! ### what is caught -/
section
variable {P : Program} {w : World} {K : PySem.W.Frag} {mg : Str → Option Value} {base : Heap}
def spCaught : Sp := fun vs H Q _ => ∃ (k : Int) (one : V), vs = [.int k, one] ∧ (0 ≤ k ∧ k ≤ 2) ∧
  (k = 0 → ∀ p H', H p = none → Same H H' → H' p = some (.tup [V.str "many", one]) → Q (.ref p) H') ∧
  (k = 1 → ∀ p H', H p = none → Same H H' → H' p = some (.tup [V.str "meet", one, .int 3]) → Q (.ref p) H') ∧
  (k = 2 → ∀ H', Same H H' → Q (.str "base") H')
theorem same_flown {H : Hp} {a dx : Addr} {o1 o2 o3 : HO} {o4 : HO} (na : H a = none) (nd : upd H a o1 dx = none) : Same H (upd (del (upd (upd (upd H a o1) dx o2) a o3) a) dx o4) := fun b o e => by
  have nb : b ≠ a := ne_of_none e na
  have e1 : upd H a o1 b = some o := (upd_ne nb).trans e
  have nd' : b ≠ dx := ne_of_none e1 nd
  rw [upd_ne nd', del_ne nb, upd_ne nb, upd_ne nd']
  exact e1
theorem same_flown2 {H : Hp} {a dx : Addr} {o1 o2 o3 o4 o5 : HO} (na : H a = none) (nd : upd H a o1 dx = none) : Same H (upd (del (upd (upd (upd (upd H a o1) dx o2) a o3) dx o4) a) dx o5) := fun b o e => by
  have nb : b ≠ a := ne_of_none e na
  have e1 : upd H a o1 b = some o := (upd_ne nb).trans e
  have nd' : b ≠ dx := ne_of_none e1 nd
  rw [upd_ne nd', del_ne nb, upd_ne nd', upd_ne nb, upd_ne nd']
  exact e1
theorem none_of_new {H : Hp} {a dx : Addr} {o1 : HO} (nd : upd H a o1 dx = none) : H dx = none := by
  by_cases e : dx = a
  · subst e
    rw [upd_same] at nd
    cases nd
  · rwa [upd_ne e] at nd
theorem ok__law_caught (T : Tx K mg) : FnOk P w K mg base CX0 3 T.a__law_caught T.d__law_caught ["kind", "thing"] spCaught := by
  refine T.F__law_caught.ok sc__law_caught (fun vs H Q E h => ?_) (fun cdv A outer s H vs Q E hr h => ?_)
  · obtain ⟨k, one, rfl, _⟩ := h
    rfl
  · obtain ⟨k, one, rfl, hk, q0, q1, q2⟩ := h
    refine ⟨_, ((pss_cons (ps_set (i := 2) sc__law_caught.nd rfl (.inl rfl) pe_str)
  (pss_cons (TM15.ps_try_mix (Wout := fun _ _ _ _ => False) rfl rfl sc__law_caught.nd L2.takes0 (fun W pn xe tk _ => (pss_cons (ps_if (pt_cmpR op_eq (pv 0) pe_int (nomark _)) (pss_one (ps_raise rfl tk (pmk_oex T.x_TooMany T.i_TooMany T.ti_TooMany (ok_TooMany___init__ T) (hr.mono (by decide)) T.b_TooMany___init__ .nil pass0 (by rfl) T.g_TooMany (pa_cons (pv 1) pa_nil)))) pss_nil)
  (pss_cons (ps_if (pt_cmpR op_eq (pv 0) pe_int (nomark _)) (pss_one (ps_raise rfl tk (pmk_oex T.x_Meet T.i_Meet T.ti_Meet (ok_Meet___init__ T) (hr.mono (by decide)) T.b_Meet___init__ .nil pass0 (by rfl) T.g_Meet (pa_cons (pv 1) (pa_cons pe_int pa_nil))))) pss_nil)
  (pss_one (ps_raise rfl tk (EXN.pmk_oex0 T.x_NoLoops T.i_NoLoops T.ti_NoLoops (ok_NoLoops___init__ T) (fun a H Q E h => ⟨a, rfl, h⟩) (hr.mono (by decide)) T.b_NoLoops___init__ pass0 (by rfl) T.g_NoLoops)))))) (.cons (i := 3) rfl rfl ⟨by rfl, by decide, .inl T.g_TooMany⟩ (fun a oe cls d pn hz hf => (pss_one (ps_set (i := 2) sc__law_caught.nd rfl (.inl rfl) (pe_tup (pa_cons pe_str (pa_cons (pe_xf ⟨T.ec_TooMany.hg, T.ec_TooMany.hk, T.ec_TooMany.hs, T.ec_TooMany.hd⟩ T.n_TooMany_most hz hf (pv 3)) pa_nil)))))) (.cons (i := 3) rfl rfl ⟨by rfl, by decide, .inl T.g_Meet⟩ (fun a oe cls d pn hz hf => (pss_one (ps_set (i := 2) sc__law_caught.nd rfl (.inl rfl) (pe_tup (pa_cons pe_str (pa_cons (pe_xf ⟨T.ec_Meet.hg, T.ec_Meet.hk, T.ec_Meet.hs, T.ec_Meet.hd⟩ T.n_Meet_tick hz hf (pv 3)) (pa_cons (pe_xf ⟨T.ec_Meet.hg, T.ec_Meet.hk, T.ec_Meet.hs, T.ec_Meet.hd⟩ T.n_Meet_loop hz hf (pv 3)) pa_nil))))))) (.plain ⟨by rfl, by decide, .inl T.g_LoopError⟩ (fun a oe cls d pn hz hf => (pss_one (ps_set (i := 2) sc__law_caught.nd rfl (.inl rfl) pe_str))) .nil))))
  (pss_one (ps_ret (pv 2)))))), ?_⟩
    refine ⟨.int k, rfl, rfl, _, rfl, ite2 (fun c => ?_) (fun c => ?_)⟩
    · have c' : k = 0 := V.int.inj (of_decide_eq_true c)
      refine ⟨one, rfl, by show 1 ≤ 1000; decide, fun a na => ⟨a, one, rfl, upd_same, fun dx nd ne => ⟨rfl, dx, _, upd_same, (upd_ne ne).trans upd_same, none_of_new nd, ?_⟩⟩⟩
      have sF := same_flown (o2 := exd dx [("most", one)]) (o3 := exo a T.c_TooMany (some dx)) (o4 := .xd [("most", one)]) na nd
      refine ⟨true, T.e_TooMany, fun _ e0 ne0 => ?_, fun z => (nomatch z)⟩
      have eF : upd (del (upd (upd (upd H a (exo a T.c_TooMany none)) dx (exd dx [("most", one)])) a (exo a T.c_TooMany (some dx))) a) dx (.xd [("most", one)]) dx = some (.xd [("most", one)]) := upd_same
      generalize upd (del (upd (upd (upd H a (exo a T.c_TooMany none)) dx (exd dx [("most", one)])) a (exo a T.c_TooMany (some dx))) a) dx (.xd [("most", one)]) = Hf at *
      refine ⟨.ref e0, rfl, rfl, rfl, dx, _, one, rfl, eF, rfl, by show 2 ≤ sizeLine; decide, fun p np => ?_⟩
      exact ⟨_, rfl, q0 c' p _ (none_back sF np) (sF.trans (same_upd np)) upd_same⟩
    · refine ⟨.int k, rfl, rfl, _, rfl, ite2 (fun c1 => ?_) (fun c1 => ?_)⟩
      · have c' : k = 1 := V.int.inj (of_decide_eq_true c1)
        refine ⟨one, rfl, by show 2 ≤ 1000; decide, fun a na => ⟨a, one, .int 3, rfl, upd_same, fun dx nd ne => ⟨rfl, dx, _, (upd_ne (Ne.symm ne)).trans upd_same, upd_same, none_of_new nd, ?_⟩⟩⟩
        have sF := same_flown2 (o2 := exd dx [("tick", one)]) (o3 := exo a T.c_Meet (some dx)) (o4 := exd dx [("loop", .int 3), ("tick", one)]) (o5 := .xd [("loop", .int 3), ("tick", one)]) na nd
        refine ⟨false, T.xm_Meet_TooMany, fun z => (nomatch z), fun _ => ?_⟩
        refine ⟨true, T.e_Meet, fun _ e0 ne0 => ?_, fun z => (nomatch z)⟩
        have eF : upd (del (upd (upd (upd (upd H a (exo a T.c_Meet none)) dx (exd dx [("tick", one)])) a (exo a T.c_Meet (some dx))) dx (exd dx [("loop", .int 3), ("tick", one)])) a) dx (.xd [("loop", .int 3), ("tick", one)]) dx = some (.xd [("loop", .int 3), ("tick", one)]) := upd_same
        generalize upd (del (upd (upd (upd (upd H a (exo a T.c_Meet none)) dx (exd dx [("tick", one)])) a (exo a T.c_Meet (some dx))) dx (exd dx [("loop", .int 3), ("tick", one)])) a) dx (.xd [("loop", .int 3), ("tick", one)]) = Hf at *
        refine ⟨.ref e0, rfl, rfl, rfl, dx, _, one, rfl, eF, rfl, .ref e0, rfl, rfl, rfl, dx, _, .int 3, rfl, eF, rfl, by show 3 ≤ sizeLine; decide, fun p np => ?_⟩
        exact ⟨_, rfl, q1 c' p _ (none_back sF np) (sF.trans (same_upd np)) upd_same⟩
      · have c0 : ¬ k = 0 := fun z => c (decide_eq_true (congrArg V.int z))
        have c1' : ¬ k = 1 := fun z => c1 (decide_eq_true (congrArg V.int z))
        refine ⟨false, T.xm_NoLoops_TooMany, fun z => (nomatch z), fun _ => ?_⟩
        refine ⟨false, T.xm_NoLoops_Meet, fun z => (nomatch z), fun _ => ?_⟩
        refine ⟨true, T.xm_NoLoops_LoopError, fun _ e0 ne0 => ?_, fun z => (nomatch z)⟩
        exact ⟨_, rfl, q2 (by omega) _ (Same.refl _)⟩
end

/-! ### the law of errors -/
section
variable {P : Program} {w : World} {K : PySem.W.Frag} {mg : Str → Option Value} {base : Heap}
open RO9
def lawLevel : Nat := 5
def spLaw (K : PySem.W.Frag) : Sp := fun vs H Q _ => ∃ (a : Addr) (ns : List Int), vs = [.ref a] ∧ SqL K H a (ns.map V.int) ∧ ns.length ≤ 63 ∧ ∀ H', Q (.bl true) H'
def Th (H : Hp) (p1 p2 p3 : Addr) : Prop := H p1 = some (.tup [V.int 1, .int 2]) ∧ H p2 = some (.lst [V.int 3]) ∧ H p3 = some (.dK [(.inr "a", .int 1)])
theorem Th.same {H H' : Hp} {p1 p2 p3 : Addr} (h : Th H p1 p2 p3) (s : Same H H') : Th H' p1 p2 p3 := ⟨s _ _ h.1, s _ _ h.2.1, s _ _ h.2.2⟩
theorem Th.moved {H H' : Hp} {p1 p2 p3 t : Addr} (h : Th H p1 p2 p3) (n1 : p1 ≠ t) (n2 : p2 ≠ t) (n3 : p3 ≠ t) (m : Moved t H H') : Th H' p1 p2 p3 := ⟨m _ _ n1 h.1, m _ _ n2 h.2.1, m _ _ n3 h.2.2⟩
def thg (p1 p2 p3 : Addr) : List V := [V.int 0, .int 1, .int 300, .bl true, .non, .str "rows", .ref p1, .ref p2, .ref p3, .int (-5), .int (10 ^ Int.toNat 30), .str ""]
def bD : PyData → Bool
  | .bool _ => true
  | _ => false
def b8 (d1 d2 : PyData) : List V := [V.bl (bD d1), .bl (bD d2), .bl (bD d1), .bl (bD d2), .bl (bD d1), .bl (bD d1), .bl (bD d1), .bl (bD d1)]
def l8 (one other : V) : List V := [one, other, one, other, one, one, one, one]
theorem thg_at (p1 p2 p3 : Addr) {r : Int} (h0 : 0 ≤ r) (h1 : r < 12) : ∃ v d, (thg p1 p2 p3)[r.toNat]? = some v ∧ EX15.Sm v ∧ ∀ H', Th H' p1 p2 p3 → Od K H' v d := by
  have z : r = 0 ∨ r = 1 ∨ r = 2 ∨ r = 3 ∨ r = 4 ∨ r = 5 ∨ r = 6 ∨ r = 7 ∨ r = 8 ∨ r = 9 ∨ r = 10 ∨ r = 11 := by omega
  rcases z with rfl | rfl | rfl | rfl | rfl | rfl | rfl | rfl | rfl | rfl | rfl | rfl
  · exact ⟨_, _, rfl, .inl rfl, fun _ _ => .int _⟩
  · exact ⟨_, _, rfl, .inl rfl, fun _ _ => .int _⟩
  · exact ⟨_, _, rfl, .inl rfl, fun _ _ => .int _⟩
  · exact ⟨_, _, rfl, .inl rfl, fun _ _ => .bl _⟩
  · exact ⟨_, _, rfl, .inl rfl, fun _ _ => .non⟩
  · exact ⟨_, _, rfl, .inl rfl, fun _ _ => .str _⟩
  · exact ⟨_, _, rfl, .inr ⟨_, rfl⟩, fun _ h => .tup (SqT.of h.1) (.cons (.int _) (.cons (.int _) .nil))⟩
  · exact ⟨_, _, rfl, .inr ⟨_, rfl⟩, fun _ h => .lst h.2.1 (.cons (.int _) .nil)⟩
  · exact ⟨_, _, rfl, .inr ⟨_, rfl⟩, fun _ h => .dct h.2.2 (.cons (.int _) .nil)⟩
  · exact ⟨_, _, rfl, .inl rfl, fun _ _ => .int _⟩
  · exact ⟨_, _, rfl, .inl rfl, fun _ _ => .int _⟩
  · exact ⟨_, _, rfl, .inl rfl, fun _ _ => .str _⟩
theorem od8 {p1 p2 p3 : Addr} {one other : V} {d1 d2 : PyData} (o1 : ∀ H', Th H' p1 p2 p3 → Od K H' one d1) (o2 : ∀ H', Th H' p1 p2 p3 → Od K H' other d2) {i : Nat} {z : V} (hz : (l8 one other)[i]? = some z) (H : Hp) (h : Th H p1 p2 p3) :
    ∃ d, Od K H z d ∧ (b8 d1 d2)[i]? = some (.bl (bD d)) ∧ i < 8 := by
  match i, hz with
  | 0, hz => cases hz; exact ⟨d1, o1 H h, rfl, by omega⟩
  | 1, hz => cases hz; exact ⟨d2, o2 H h, rfl, by omega⟩
  | 2, hz => cases hz; exact ⟨d1, o1 H h, rfl, by omega⟩
  | 3, hz => cases hz; exact ⟨d2, o2 H h, rfl, by omega⟩
  | 4, hz => cases hz; exact ⟨d1, o1 H h, rfl, by omega⟩
  | 5, hz => cases hz; exact ⟨d1, o1 H h, rfl, by omega⟩
  | 6, hz => cases hz; exact ⟨d1, o1 H h, rfl, by omega⟩
  | 7, hz => cases hz; exact ⟨d1, o1 H h, rfl, by omega⟩
  | i + 8, hz => cases hz
theorem ok_law (T : Tx K mg) : FnOk P w K mg base CX0 5 T.a_law T.d_law ["script"] (spLaw K) := by
  refine T.F_law.ok sc_law (fun vs H Q E h => ?_) (fun cdv A outer s H vs Q E hr h => ?_)
  · obtain ⟨a, ns, rfl, _⟩ := h
    rfl
  · obtain ⟨a, ns0, rfl, hS, hlen, q⟩ := h
    refine ⟨_, ((pss_cons (ps_set (i := 1) sc_law.nd rfl (.inl rfl) (pe_call (ok__law_tape T) (hr.mono (by decide)) (by rfl) T.g__law_tape T.F__law_tape.kp T.b__law_tape .nil pass0 (pa_cons (pv 0) pa_nil)))
  (pss_cons (ps_set (i := 2) sc_law.nd rfl (.inl rfl) (pe_lst (pa_cons pe_int (pa_cons pe_int (pa_cons pe_int (pa_cons pe_bl (pa_cons pe_non (pa_cons pe_str (pa_cons (pe_tup (pa_cons pe_int (pa_cons pe_int pa_nil))) (pa_cons (pe_lst (pa_cons pe_int pa_nil)) (pa_cons (pe_disp (pps_cons pe_str pe_int pps_nil) (by rfl) rfl (by simp) (by decide)) (pa_cons (pe_un un_neg pe_int) (pa_cons (pe_op op_pow pe_int pe_int) (pa_cons pe_str pa_nil))))))))))))))
  (pss_cons (ps_set (i := 3) sc_law.nd rfl (.inr rfl) (pe_ix ix_list (pv 2) (pe_call (ok__law_pick T) (hr.mono (by decide)) (by rfl) T.g__law_pick T.F__law_pick.kp T.b__law_pick .nil pass0 (pa_cons (pv 1) (pa_cons pe_int pa_nil))) (fun _ _ => rfl)))
  (pss_cons (ps_set (i := 4) sc_law.nd rfl (.inl rfl) (pe_ix ix_list (pv 2) (pe_call (ok__law_pick T) (hr.mono (by decide)) (by rfl) T.g__law_pick T.F__law_pick.kp T.b__law_pick .nil pass0 (pa_cons (pv 1) (pa_cons pe_int pa_nil))) (fun _ _ => rfl)))
  (pss_cons (ps_set (i := 5) sc_law.nd rfl (.inl rfl) (pe_call (ok__law_made T) (hr.mono (by decide)) (by rfl) T.g__law_made T.F__law_made.kp T.b__law_made .nil pass0 (pa_cons (pv 3) (pa_cons (pv 4) pa_nil))))
  (pss_cons (ps_for PassesOwn.never rfl (pi_range1 (by rfl) T.m_range (pa_cons (pe_callB call_len_seq (by rfl) T.m_len PySem.boot_len (pa_cons (pv 5) pa_nil)) pa_nil)) (pg_name (i := 6) sc_law.nd rfl (.inr rfl))
   (pss_cons (ps_if (PW.pt (pw_or (pt_not (pt_val (pe_callB (EX15.call_isG) (by rfl) T.m_isinstance (by decide +kernel) (pa_cons (pe_ix ix_list (pv 5) (pv 6) (fun _ _ => rfl)) (pa_cons (pe_glob (v := .ref T.c_LoopError) rfl T.g_LoopError rfl) pa_nil))))) (pw_or1 (pt_not (pt_val (pe_callB (EX15.call_isG) (by rfl) T.m_isinstance (by decide +kernel) (pa_cons (pe_ix ix_list (pv 5) (pv 6) (fun _ _ => rfl)) (pa_cons (pe_bltn (v := .ty "ValueError") (by rfl) T.m_ValueError (by decide +kernel) rfl) pa_nil)))))))) (pss_one (ps_ret pe_bl)) pss_nil)
  (pss_one (ps_if (pt_cmpR (EX15.op_neS hr.units) (pe_call (ok__law_flags T) (hr.mono (by decide)) (by rfl) T.g__law_flags T.F__law_flags.kp T.b__law_flags .nil pass0 (pa_cons (pe_ix ix_list (pv 5) (pv 6) (fun _ _ => rfl)) pa_nil)) (pe_lc (own := [("j", 9)]) (g := (gName 9)) (tt := tYes) rfl sc_law.nd (pi_range1 (by rfl) T.m_range (pa_cons (pe_callB call_len_seq (by rfl) T.m_len PySem.boot_len (pa_cons (pv 5) pa_nil)) pa_nil)) (blkOk_by (own := [("j", 9)]) (N := ["script", "tape", "things", "one", "other", "made", "k", "kept", "due", "j", "thing", "kind"]) (sc := defScope s_law) (by decide +kernel)) (fun _ _ _ _ _ => pg_name (i := 9) sc_law.nd rfl (.inl rfl)) (fun _ _ _ _ _ => pts_nil) (fun _ _ _ _ _ => (pe_cmpR op_eq (pv 9) (pv 6) (nomark _)))) (nomark _)) (pss_one (ps_ret pe_bl)) pss_nil))))
  (pss_cons (ps_set (i := 7) sc_law.nd rfl (.inl rfl) (pe_lst (pa_cons (EX15.pe_xg (pe_ix ix_list (pv 5) pe_int (fun _ _ => rfl)) (by rfl)) (pa_cons (EX15.pe_xg (pe_ix ix_list (pv 5) pe_int (fun _ _ => rfl)) (by rfl)) (pa_cons (EX15.pe_xg (pe_ix ix_list (pv 5) pe_int (fun _ _ => rfl)) (by rfl)) (pa_cons (EX15.pe_xg (pe_ix ix_list (pv 5) pe_int (fun _ _ => rfl)) (by rfl)) (pa_cons (EX15.pe_xg (pe_ix ix_list (pv 5) pe_int (fun _ _ => rfl)) (by rfl)) (pa_cons (EX15.pe_xg (pe_ix ix_list (pv 5) pe_int (fun _ _ => rfl)) (by rfl)) (pa_cons (EX15.pe_xg (pe_ix ix_list (pv 5) pe_int (fun _ _ => rfl)) (by rfl)) pa_nil)))))))))
  (pss_cons (ps_expr (pe_bm PySem.F.plainAttrs_list PySem.F.slot_list_append PySem.F.type_list_append mt_append (pv 7) (pa_cons (EX15.pe_xg (pe_ix ix_list (pv 5) pe_int (fun _ _ => rfl)) (by rfl)) pa_nil)))
  (pss_cons (ps_set (i := 8) sc_law.nd rfl (.inl rfl) (pe_lst (pa_cons (pv 3) (pa_cons (pv 4) (pa_cons (pv 3) (pa_cons (pv 4) (pa_cons (pv 3) (pa_cons (pv 3) (pa_cons (pv 3) (pa_cons (pv 3) pa_nil))))))))))
  (pss_cons (ps_if (PW.pt (pw_or (pt_cmpR (EX15.op_neS hr.units) (pv 7) (pv 8) (nomark _)) (pw_or1 (pt_cmpR (EX15.op_neS hr.units) (pe_lc (own := [("thing", 10)]) (g := (gName 10)) (tt := tYes) rfl sc_law.nd (pi_list (pv 7)) (blkOk_by (own := [("thing", 10)]) (N := ["script", "tape", "things", "one", "other", "made", "k", "kept", "due", "j", "thing", "kind"]) (sc := defScope s_law) (by decide +kernel)) (fun _ _ _ _ _ => pg_name (i := 10) sc_law.nd rfl (.inl rfl)) (fun _ _ _ _ _ => pts_nil) (fun _ _ _ _ _ => (pe_callB (EX15.call_isiN (K := K) (by rfl)) (by rfl) T.m_isinstance (by decide +kernel) (pa_cons (pv 10) (pa_cons (pe_bltn (v := .ty "bool") (by rfl) T.m_bool (by decide +kernel) rfl) pa_nil))))) (pe_lc (own := [("thing", 10)]) (g := (gName 10)) (tt := tYes) rfl sc_law.nd (pi_list (pv 8)) (blkOk_by (own := [("thing", 10)]) (N := ["script", "tape", "things", "one", "other", "made", "k", "kept", "due", "j", "thing", "kind"]) (sc := defScope s_law) (by decide +kernel)) (fun _ _ _ _ _ => pg_name (i := 10) sc_law.nd rfl (.inl rfl)) (fun _ _ _ _ _ => pts_nil) (fun _ _ _ _ _ => (pe_callB (EX15.call_isiN (K := K) (by rfl)) (by rfl) T.m_isinstance (by decide +kernel) (pa_cons (pv 10) (pa_cons (pe_bltn (v := .ty "bool") (by rfl) T.m_bool (by decide +kernel) rfl) pa_nil))))) (nomark _))))) (pss_one (ps_ret pe_bl)) pss_nil)
  (pss_one (ps_ret (pe_cmpR (EX15.op_eqS hr.units) (pe_lc (own := [("kind", 11)]) (g := (gName 11)) (tt := tYes) rfl sc_law.nd (pi_range1 (by rfl) T.m_range (pa_cons pe_int pa_nil)) (blkOk_by (own := [("kind", 11)]) (N := ["script", "tape", "things", "one", "other", "made", "k", "kept", "due", "j", "thing", "kind"]) (sc := defScope s_law) (by decide +kernel)) (fun _ _ _ _ _ => pg_name (i := 11) sc_law.nd rfl (.inl rfl)) (fun _ _ _ _ _ => pts_nil) (fun _ _ _ _ _ => (pe_call (ok__law_caught T) (hr.mono (by decide)) (by rfl) T.g__law_caught T.F__law_caught.kp T.b__law_caught .nil pass0 (pa_cons (pv 11) (pa_cons (pv 3) pa_nil))))) (pe_lst (pa_cons (pe_tup (pa_cons pe_str (pa_cons (pv 3) pa_nil))) (pa_cons (pe_tup (pa_cons pe_str (pa_cons (pv 3) (pa_cons pe_int pa_nil)))) (pa_cons pe_str pa_nil)))) (nomark _))))))))))))))), ?_⟩
    refine ⟨.ref a, rfl, a, ns0, rfl, hS, fun t sc H1 nt ns' sm tp => ?_⟩
    refine ⟨by show 2 ≤ sizeLine; decide, fun p1 np1 => ?_⟩
    have s1 : Same H1 (upd H1 p1 (.tup [V.int 1, .int 2])) := same_upd np1
    have e1 : upd H1 p1 (.tup [V.int 1, .int 2]) p1 = some (.tup [V.int 1, .int 2]) := upd_same
    generalize upd H1 p1 (.tup [V.int 1, .int 2]) = H2 at *
    refine ⟨by show 1 ≤ sizeLine; decide, fun p2 np2 => ?_⟩
    have s2 : Same H2 (upd H2 p2 (.lst [V.int 3])) := same_upd np2
    have e2 : upd H2 p2 (.lst [V.int 3]) p2 = some (.lst [V.int 3]) := upd_same
    generalize upd H2 p2 (.lst [V.int 3]) = H3 at *
    refine fun p3 np3 => ⟨upd_same, [(.inr "a", .int 1)], rfl, by decide, ?_⟩
    have s3 : Same H3 (upd (upd H3 p3 (.dK [])) p3 (.dK (mergeK [] [(.inr "a", .int 1)]))) := fun b o e => by
      rw [upd_ne (ne_of_none e np3), upd_ne (ne_of_none e np3)]
      exact e
    have e3 : (upd (upd H3 p3 (.dK [])) p3 (.dK (mergeK [] [(.inr "a", .int 1)]))) p3 = some (.dK [(.inr "a", .int 1)]) := upd_same
    generalize (upd (upd H3 p3 (.dK [])) p3 (.dK (mergeK [] [(.inr "a", .int 1)]))) = H4 at *
    refine ⟨5, rfl, 10, 30, rfl, rfl, ⟨by decide, by decide, by decide⟩, by show 12 ≤ sizeLine; decide, fun W nW => ?_⟩
    have sW : Same H4 (upd H4 W (.lst (thg p1 p2 p3))) := same_upd nW
    have eW : upd H4 W (.lst (thg p1 p2 p3)) W = some (.lst (thg p1 p2 p3)) := upd_same
    have q1 : Th H4 p1 p2 p3 := ⟨s3 _ _ (s2 _ _ e1), s3 _ _ e2, e3⟩
    have tp4 := (((tp.keep s1).keep s2).keep s3)
    have tpW := tp4.keep sW
    have qW := q1.same sW
    have Wt : W ≠ t := tp4.ne nW
    have pt1 : p1 ≠ t := tp.ne np1
    have pt2 : p2 ≠ t := (tp.keep s1).ne np2
    have pt3 : p3 ≠ t := ((tp.keep s1).keep s2).ne np3
    refine ⟨.ref W, rfl, .ref t, rfl, t, sc, 12, rfl, ⟨by decide, by decide⟩, tpW, fun r6 H6 r60 r61 mv6 tp6 => ?_⟩
    have eW6 := mv6 _ _ Wt eW
    have qW6 := qW.moved pt1 pt2 pt3 mv6
    obtain ⟨one, d1, h1, m1, o1⟩ := thg_at (K := K) p1 p2 p3 r60 r61
    refine ⟨W, _, r6, one, rfl, rfl, SqL.of eW6, atI_of r60 h1, ?_⟩
    refine ⟨.ref W, rfl, .ref t, rfl, t, sc, 12, rfl, ⟨by decide, by decide⟩, tp6, fun r7 H7 r70 r71 mv7 tp7 => ?_⟩
    have eW7 := mv7 _ _ Wt eW6
    have qW7 := qW6.moved pt1 pt2 pt3 mv7
    obtain ⟨other, d2, h2, m2, o2⟩ := thg_at (K := K) p1 p2 p3 r70 r71
    refine ⟨W, _, r7, other, rfl, rfl, SqL.of eW7, atI_of r70 h2, ?_⟩
    refine ⟨one, rfl, other, rfl, one, other, rfl, fun mp as H8 nm s8 em M => ?_⟩
    have qW8 := qW7.same s8
    have eL : ((as.map V.ref).length : Int) = 39 := by rw [List.length_map, M.len]; rfl
    refine ⟨.ref mp, rfl, mp, _, rfl, .inl (SqL.of em), 39, by rw [eL], by decide, by decide, for_range (lo := 0) (n := (39 : Int).toNat)
      (fun i σ H' => ∃ (y6 : Option V), σ = [some (.ref a), some (.ref t), some (.ref W), some one, some other, some (.ref mp), y6, none, none, none, none, none] ∧ Same H8 H')
      ⟨_, rfl, Same.refl _⟩ (fun i σ H' hi h => ?_) (fun σ H' h => ?_)⟩
    · obtain ⟨y6, rfl, sm⟩ := h
      have hi39 : i < 39 := hi
      have hia : i < as.length := by rw [M.len]; exact hi39
      obtain ⟨x, hx⟩ : ∃ x, as[i]? = some x := ⟨_, List.getElem?_eq_getElem hia⟩
      have hxV : (as.map V.ref)[i]? = some (.ref x) := by rw [List.getElem?_map, hx]; rfl
      have X := (M.all.at (i := i) hx).same sm
      rw [Nat.zero_add] at X
      have em' := sm _ _ em
      have X' := X
      obtain ⟨C, d, eC, ea, ed⟩ := X'
      have ecC := T.kts.ec i C eC
      refine ⟨.ref mp, rfl, .int (0 + (i : Int)), rfl, mp, _, _, .ref x, rfl, rfl, SqL.of em', by rw [Int.zero_add]; exact atI_nat hxV, C, x, d, .ref T.c_LoopError, _, true, rfl, ecC, ea, ed, .own _, T.kts.bas i C eC, ?_⟩
      have hat : atI (as.map V.ref) (0 + (i : Int)) = some (.ref x) := by rw [Int.zero_add]; exact atI_nat hxV
      refine ⟨true, rfl, iteF ?_⟩
      refine ⟨.ref mp, rfl, .int (0 + (i : Int)), rfl, mp, _, _, .ref x, rfl, rfl, SqL.of em', hat, C, x, d, .ty "ValueError", _, true, rfl, ecC, ea, ed, .ty _, T.kts.ve i C eC, true, rfl, iteF ?_⟩
      refine ⟨.ref mp, rfl, .int (0 + (i : Int)), rfl, mp, _, _, .ref x, rfl, rfl, SqL.of em', hat, x, i, rfl, X, fun fp Hf nf sf ef => ?_⟩
      have emf := sf _ _ em'
      refine ⟨.ref mp, rfl, mp, _, rfl, .inl (SqL.of emf), 39, by rw [eL], by decide, by decide, fun D nD => lc_range (lo := 0) (n := (39 : Int).toNat)
        (fun j H' => Same Hf H' ∧ H' D = some (.lst ((List.range j).map fun z => V.bl (decide (i = z)))))
        ⟨same_upd nD, upd_same⟩ (fun j H' hj p => ?_) (fun H' p => ?_)⟩
      · obtain ⟨sj, eD⟩ := p
        have hj39 : j < 39 := hj
        refine ⟨rfl, .int (0 + (j : Int)), rfl, .int (0 + (i : Int)), rfl, rfl, _, eD, by rw [List.length_map, List.length_range]; exact small1000 (by omega), same_put sj nD, ?_⟩
        have e : decide (V.int (0 + (j : Int)) = V.int (0 + (i : Int))) = decide (i = j) := by
          rw [Int.zero_add, Int.zero_add]
          by_cases z : i = j
          · subst z
            rw [decide_eq_true rfl, decide_eq_true rfl]
          · rw [decide_eq_false z, decide_eq_false (fun q => z (by have := V.int.inj q; omega))]
        rw [upd_same, List.range_succ, List.map_append, e]
        rfl
      · obtain ⟨sj, eD⟩ := p
        have efj := sj _ _ ef
        refine ⟨fp, D, _, rfl, rfl, SqL.of efj, SqL.of eD, fun v hv => ?_, false, rfl, iteF ?_⟩
        · obtain ⟨z, _, rfl⟩ := List.mem_map.mp hv
          exact .inl rfl
        · exact ⟨_, rfl, sm.trans (sf.trans sj)⟩
    · obtain ⟨y6, rfl, sm⟩ := h
      have em := sm _ _ em
      obtain ⟨a27, d27, i27, x27, y27⟩ := M.f27
      have x27 := sm _ _ x27
      have y27 := sm _ _ y27
      have at27 : atI (as.map V.ref) (27 : Int) = some (.ref a27) := atI_nat (j := 27) (by rw [List.getElem?_map, i27]; rfl)
      obtain ⟨a28, d28, i28, x28, y28⟩ := M.f28
      have x28 := sm _ _ x28
      have y28 := sm _ _ y28
      have at28 : atI (as.map V.ref) (28 : Int) = some (.ref a28) := atI_nat (j := 28) (by rw [List.getElem?_map, i28]; rfl)
      obtain ⟨a29, d29, i29, x29, y29⟩ := M.f29
      have x29 := sm _ _ x29
      have y29 := sm _ _ y29
      have at29 : atI (as.map V.ref) (29 : Int) = some (.ref a29) := atI_nat (j := 29) (by rw [List.getElem?_map, i29]; rfl)
      obtain ⟨a30, d30, i30, x30, y30⟩ := M.f30
      have x30 := sm _ _ x30
      have y30 := sm _ _ y30
      have at30 : atI (as.map V.ref) (30 : Int) = some (.ref a30) := atI_nat (j := 30) (by rw [List.getElem?_map, i30]; rfl)
      obtain ⟨a31, d31, i31, x31, y31⟩ := M.f31
      have x31 := sm _ _ x31
      have y31 := sm _ _ y31
      have at31 : atI (as.map V.ref) (31 : Int) = some (.ref a31) := atI_nat (j := 31) (by rw [List.getElem?_map, i31]; rfl)
      obtain ⟨a38, d38, i38, x38, y38⟩ := M.f38
      have x38 := sm _ _ x38
      have y38 := sm _ _ y38
      have at38 : atI (as.map V.ref) (38 : Int) = some (.ref a38) := atI_nat (j := 38) (by rw [List.getElem?_map, i38]; rfl)
      have qW9 := qW8.same sm
      refine ⟨.ref mp, rfl, mp, _, 27, .ref a27, rfl, rfl, SqL.of em, at27, T.c_BadTable, a27, d27, _, _, rfl, ⟨T.ec_BadTable.hg, T.ec_BadTable.hk, T.ec_BadTable.hs, T.ec_BadTable.hd⟩, T.n_BadTable_part, x27, y27, rfl, .ref mp, rfl, mp, _, 27, .ref a27, rfl, rfl, SqL.of em, at27, T.c_BadTable, a27, d27, _, _, rfl, ⟨T.ec_BadTable.hg, T.ec_BadTable.hk, T.ec_BadTable.hs, T.ec_BadTable.hd⟩, T.n_BadTable_at, x27, y27, rfl, .ref mp, rfl, mp, _, 28, .ref a28, rfl, rfl, SqL.of em, at28, T.c_Meet, a28, d28, _, _, rfl, ⟨T.ec_Meet.hg, T.ec_Meet.hk, T.ec_Meet.hs, T.ec_Meet.hd⟩, T.n_Meet_tick, x28, y28, rfl, .ref mp, rfl, mp, _, 28, .ref a28, rfl, rfl, SqL.of em, at28, T.c_Meet, a28, d28, _, _, rfl, ⟨T.ec_Meet.hg, T.ec_Meet.hk, T.ec_Meet.hs, T.ec_Meet.hd⟩, T.n_Meet_loop, x28, y28, rfl, .ref mp, rfl, mp, _, 29, .ref a29, rfl, rfl, SqL.of em, at29, T.c_TooMany, a29, d29, _, _, rfl, ⟨T.ec_TooMany.hg, T.ec_TooMany.hk, T.ec_TooMany.hs, T.ec_TooMany.hd⟩, T.n_TooMany_most, x29, y29, rfl, .ref mp, rfl, mp, _, 30, .ref a30, rfl, rfl, SqL.of em, at30, T.c_BadText, a30, d30, _, _, rfl, ⟨T.ec_BadText.hg, T.ec_BadText.hk, T.ec_BadText.hs, T.ec_BadText.hd⟩, T.n_BadText_line, x30, y30, rfl, .ref mp, rfl, mp, _, 31, .ref a31, rfl, rfl, SqL.of em, at31, T.c_NoName, a31, d31, _, _, rfl, ⟨T.ec_NoName.hg, T.ec_NoName.hk, T.ec_NoName.hs, T.ec_NoName.hd⟩, T.n_NoName_name, x31, y31, rfl, by show 7 ≤ sizeLine; decide, fun kp nk => ?_⟩
      have sk0 : Same H' (upd H' kp (.lst [one, other, one, other, one, one, one])) := same_upd nk
      have ekp0 : upd H' kp (.lst [one, other, one, other, one, one, one]) kp = some (.lst [one, other, one, other, one, one, one]) := upd_same
      have x38 := sk0 _ _ x38
      have y38 := sk0 _ _ y38
      have em := sk0 _ _ em
      refine ⟨.ref kp, rfl, .inl ⟨rfl, _, SqL.of ekp0⟩, .ref mp, rfl, mp, _, 38, .ref a38, rfl, rfl, SqL.of em, at38, T.c_BadTree, a38, d38, _, _, rfl, ⟨T.ec_BadTree.hg, T.ec_BadTree.hk, T.ec_BadTree.hs, T.ec_BadTree.hd⟩, T.n_BadTree_at, x38, y38, rfl, kp, _, _, rfl, rfl, ekp0, by show 7 < sizeLine; decide, ?_⟩
      have sk : Same H' (upd (upd H' kp (.lst [one, other, one, other, one, one, one])) kp (.lst ([one, other, one, other, one, one, one] ++ [one]))) := fun b o e => by
        rw [upd_ne (ne_of_none e nk)]
        exact sk0 _ _ e
      have ek : upd (upd H' kp (.lst [one, other, one, other, one, one, one])) kp (.lst ([one, other, one, other, one, one, one] ++ [one])) kp = some (.lst (l8 one other)) := upd_same
      generalize upd (upd H' kp (.lst [one, other, one, other, one, one, one])) kp (.lst ([one, other, one, other, one, one, one] ++ [one])) = H1' at *
      refine ⟨one, rfl, other, rfl, one, rfl, other, rfl, one, rfl, one, rfl, one, rfl, one, rfl, by show 8 ≤ sizeLine; decide, fun up nu => ?_⟩
      have su : Same H1' (upd H1' up (.lst (l8 one other))) := same_upd nu
      have eu : upd H1' up (.lst (l8 one other)) up = some (.lst (l8 one other)) := upd_same
      have ek2 := su _ _ ek
      have qWu := (qW9.same sk).same su
      have m8 : ∀ v ∈ l8 one other, EX15.Sm v := fun v hv => by
        simp only [l8, List.mem_cons, List.not_mem_nil, or_false] at hv
        rcases hv with rfl | rfl | rfl | rfl | rfl | rfl | rfl | rfl <;> assumption
      refine ⟨.ref kp, rfl, .ref up, rfl, kp, up, l8 one other, rfl, rfl, SqL.of ek2, SqL.of eu, m8, false, rfl, iteF ?_⟩
      refine ⟨.ref kp, rfl, kp, rfl, ⟨_, SqL.of ek2⟩, fun D1 nD1 => lc_list (K := K) (a := kp) (xs := l8 one other)
        (fun i H9 => Same (upd H1' up (.lst (l8 one other))) H9 ∧ H9 D1 = some (.lst ((b8 d1 d2).take i)))
        ⟨same_upd nD1, upd_same⟩ (fun i H9 _ p => SqL.of (p.1 _ _ ek2)) (fun i z H9 hz p => ?_) (fun H3 p => ?_)⟩
      · obtain ⟨sj, eD⟩ := p
        obtain ⟨d, od, hb, hi8⟩ := od8 o1 o2 hz _ ((qWu).same sj)
        refine ⟨rfl, z, rfl, z, .ty "bool", _, _, _, rfl, .ty _, od.ty, kit_bool d, _, eD, by rw [List.length_take]; exact small1000 (by omega), same_put sj nD1, ?_⟩
        rw [upd_same, take_snoc hb]
        rfl
      · obtain ⟨sj, eD⟩ := p
        rw [show (l8 one other).length = (b8 d1 d2).length from rfl, List.take_length] at eD
        have sD1 := sj
        have eD1 := eD
        clear sj eD
        have eu3 := sD1 _ _ eu
        refine ⟨.ref up, rfl, up, rfl, ⟨_, SqL.of eu3⟩, fun D2 nD2 => lc_list (K := K) (a := up) (xs := l8 one other)
          (fun i H9 => Same H3 H9 ∧ H9 D2 = some (.lst ((b8 d1 d2).take i)))
          ⟨same_upd nD2, upd_same⟩ (fun i H9 _ p => SqL.of (p.1 _ _ eu3)) (fun i z H9 hz p => ?_) (fun H4' p => ?_)⟩
        · obtain ⟨sj, eD⟩ := p
          obtain ⟨d, od, hb, hi8⟩ := od8 o1 o2 hz _ ((qWu.same sD1).same sj)
          refine ⟨rfl, z, rfl, z, .ty "bool", _, _, _, rfl, .ty _, od.ty, kit_bool d, _, eD, by rw [List.length_take]; exact small1000 (by omega), same_put sj nD2, ?_⟩
          rw [upd_same, take_snoc hb]
          rfl
        · obtain ⟨sj, eD⟩ := p
          rw [show (l8 one other).length = (b8 d1 d2).length from rfl, List.take_length] at eD
          refine ⟨D1, D2, b8 d1 d2, rfl, rfl, SqL.of (sj _ _ eD1), SqL.of eD, fun v hv => ?_, false, rfl, iteF ?_⟩
          · simp only [b8, List.mem_cons, List.not_mem_nil, or_false] at hv
            rcases hv with rfl | rfl | rfl | rfl | rfl | rfl | rfl | rfl <;> exact .inl rfl
          have qZ := (qWu.same sD1).same sj
          refine ⟨3, rfl, by decide, by decide, fun D3 nD3 => lc_range (lo := 0) (n := (3 : Int).toNat)
            (fun i H9 => Same H4' H9 ∧ ∃ u v, H9 D3 = some (.lst (([V.ref u, .ref v, .str "base"] : List V).take i)) ∧ (1 ≤ i → H9 u = some (.tup [V.str "many", one])) ∧ (2 ≤ i → H9 v = some (.tup [V.str "meet", one, .int 3])))
            ⟨same_upd nD3, 0, 0, upd_same, fun z => by omega, fun z => by omega⟩ (fun i H9 hi p => ?_) (fun H9 p => ?_)⟩
          · obtain ⟨sk3, u, v, e3', e4', e5'⟩ := p
            have hi3 : i < 3 := hi
            refine ⟨rfl, .int (0 + (i : Int)), rfl, one, rfl, 0 + (i : Int), one, rfl, ⟨by omega, by omega⟩, fun z x Hx nx sx ex => ?_, fun z x Hx nx sx ex => ?_, fun z Hx sx => ?_⟩
            · obtain rfl : i = 0 := by omega
              have ne : x ≠ D3 := Ne.symm (ne_of_none e3' nx)
              refine ⟨_, sx _ _ e3', by rw [List.length_take]; exact small1000 (by omega), same_put (sk3.trans sx) nD3, x, 0, upd_same, fun _ => (upd_ne ne).trans ex, fun z => by omega⟩
            · obtain rfl : i = 1 := by omega
              have ne : x ≠ D3 := Ne.symm (ne_of_none e3' nx)
              have nu : u ≠ D3 := fun z => by
                have := e4' (by omega)
                rw [z, e3'] at this
                cases this
              exact ⟨_, sx _ _ e3', by rw [List.length_take]; exact small1000 (by omega), same_put (sk3.trans sx) nD3, u, x, upd_same, fun _ => (upd_ne nu).trans (sx _ _ (e4' (by omega))), fun _ => (upd_ne ne).trans ex⟩
            · obtain rfl : i = 2 := by omega
              have nu : u ≠ D3 := fun z => by
                have := e4' (by omega)
                rw [z, e3'] at this
                cases this
              have nv : v ≠ D3 := fun z => by
                have := e5' (by omega)
                rw [z, e3'] at this
                cases this
              exact ⟨_, sx _ _ e3', by rw [List.length_take]; exact small1000 (by omega), same_put (sk3.trans sx) nD3, u, v, upd_same, fun _ => (upd_ne nu).trans (sx _ _ (e4' (by omega))), fun _ => (upd_ne nv).trans (sx _ _ (e5' (by omega)))⟩
          · obtain ⟨sk3, u, v, e3', e4', e5'⟩ := p
            have e4' := e4' (by decide)
            have e5' := e5' (by decide)
            refine ⟨one, rfl, by show 2 ≤ sizeLine; decide, fun x1 nx1 => ?_⟩
            have t1 := same_upd (o := .tup [V.str "many", one]) nx1
            have f1 : upd H9 x1 (.tup [V.str "many", one]) x1 = some (.tup [V.str "many", one]) := upd_same
            generalize upd H9 x1 (.tup [V.str "many", one]) = Ha at *
            refine ⟨one, rfl, by show 3 ≤ sizeLine; decide, fun x2 nx2 => ?_⟩
            have t2 := same_upd (o := .tup [V.str "meet", one, .int 3]) nx2
            have f2 : upd Ha x2 (.tup [V.str "meet", one, .int 3]) x2 = some (.tup [V.str "meet", one, .int 3]) := upd_same
            generalize upd Ha x2 (.tup [V.str "meet", one, .int 3]) = Hb at *
            refine ⟨by show 3 ≤ sizeLine; decide, fun x3 nx3 => ?_⟩
            have t3 := same_upd (o := .lst [V.ref x1, .ref x2, .str "base"]) nx3
            have f3 : upd Hb x3 (.lst [V.ref x1, .ref x2, .str "base"]) x3 = some (.lst [V.ref x1, .ref x2, .str "base"]) := upd_same
            generalize upd Hb x3 (.lst [V.ref x1, .ref x2, .str "base"]) = Hc at *
            have g1 : ∀ v ∈ [V.str "many", one], EX15.Sm v := fun v hv => by
              simp only [List.mem_cons, List.not_mem_nil, or_false] at hv
              rcases hv with rfl | rfl
              · exact .inl rfl
              · exact m1
            have g2 : ∀ v ∈ [V.str "meet", one, .int 3], EX15.Sm v := fun v hv => by
              simp only [List.mem_cons, List.not_mem_nil, or_false] at hv
              rcases hv with rfl | rfl | rfl
              · exact .inl rfl
              · exact m1
              · exact .inl rfl
            exact ⟨D3, x3, _, _, rfl, rfl, SqL.of (t3 _ _ (t2 _ _ (t1 _ _ e3'))), SqL.of f3, .cons (.inr ⟨u, x1, _, rfl, rfl, SqT.of (t3 _ _ (t2 _ _ (t1 _ _ e4'))), SqT.of (t3 _ _ (t2 _ _ f1)), g1⟩) (.cons (.inr ⟨v, x2, _, rfl, rfl, SqT.of (t3 _ _ (t2 _ _ (t1 _ _ e5'))), SqT.of (t3 _ _ f2), g2⟩) (.cons (.inl ⟨rfl, .inl rfl⟩) .nil)), q _⟩
end

/-! ### the end -/
theorem fin_mk {l : PySem.W.OpenLaw} {w : World} {K : PySem.W.Frag} {h : Heap} {mg : Str → Option Value} {fa f_law : Addr} (KX : K.In h) (G : h.Ns mainGlobals mg) (hmg : mg "law" = some (.ref fa)) {an : Option Addr} {kV dc pm cd ct : Value}
    (hT : ∃ T : Tx K mg, T.a_law = f_law ∧ T.d_law = PySem.W.fnOf "law" "law" (defArgs s_law) (defBody s_law) (defScope s_law) .none kV dc pm an cd ct) :
    ∃ fd : FuncData, (∀ (s : Shared) (v : Value), BindsTo s fd ⟨[v], []⟩ [("script", v)]) ∧ ∀ base : Heap, K.In base → base.Ns mainGlobals mg → FnOk l.prog w K mg base CX0 lawLevel fa fd ["script"] (spLaw K) := by
  obtain ⟨T, ea, ed⟩ := hT
  have e := hmg.symm.trans T.g_law
  cases e
  exact ⟨T.d_law, fun s v => by rw [ed]; exact .of_eq rfl, fun base _ _ => ok_law T⟩

theorem all_mk {w : World} {K : PySem.W.Frag} {h : Heap} {mg : Str → Option Value} (X : K.In h) (G : h.Ns mainGlobals mg)
    {f__law_tape : Addr} {od__law_tape an__law_tape : Option Addr} {sl__law_tape : Array (Option Value)} {oc__law_tape kV__law_tape dc__law_tape pm__law_tape cd__law_tape ct__law_tape : Value}
    {f__law_pick : Addr} {od__law_pick an__law_pick : Option Addr} {sl__law_pick : Array (Option Value)} {oc__law_pick kV__law_pick dc__law_pick pm__law_pick cd__law_pick ct__law_pick : Value}
    {f__law_flags : Addr} {od__law_flags an__law_flags : Option Addr} {sl__law_flags : Array (Option Value)} {oc__law_flags kV__law_flags dc__law_flags pm__law_flags cd__law_flags ct__law_flags : Value}
    {f__law_made : Addr} {od__law_made an__law_made : Option Addr} {sl__law_made : Array (Option Value)} {oc__law_made kV__law_made dc__law_made pm__law_made cd__law_made ct__law_made : Value}
    {f__law_caught : Addr} {od__law_caught an__law_caught : Option Addr} {sl__law_caught : Array (Option Value)} {oc__law_caught kV__law_caught dc__law_caught pm__law_caught cd__law_caught ct__law_caught : Value}
    {f_law : Addr} {od_law an_law : Option Addr} {sl_law : Array (Option Value)} {oc_law kV_law dc_law pm_law cd_law ct_law : Value}
    {f_NoComers___init__ : Addr} {od_NoComers___init__ an_NoComers___init__ : Option Addr} {sl_NoComers___init__ : Array (Option Value)} {oc_NoComers___init__ kV_NoComers___init__ dc_NoComers___init__ pm_NoComers___init__ cd_NoComers___init__ ct_NoComers___init__ : Value}
    {f_NoBound___init__ : Addr} {od_NoBound___init__ an_NoBound___init__ : Option Addr} {sl_NoBound___init__ : Array (Option Value)} {oc_NoBound___init__ kV_NoBound___init__ dc_NoBound___init__ pm_NoBound___init__ cd_NoBound___init__ ct_NoBound___init__ : Value}
    {f_NoComings___init__ : Addr} {od_NoComings___init__ an_NoComings___init__ : Option Addr} {sl_NoComings___init__ : Array (Option Value)} {oc_NoComings___init__ kV_NoComings___init__ dc_NoComings___init__ pm_NoComings___init__ cd_NoComings___init__ ct_NoComings___init__ : Value}
    {f_NoSpot___init__ : Addr} {od_NoSpot___init__ an_NoSpot___init__ : Option Addr} {sl_NoSpot___init__ : Array (Option Value)} {oc_NoSpot___init__ kV_NoSpot___init__ dc_NoSpot___init__ pm_NoSpot___init__ cd_NoSpot___init__ ct_NoSpot___init__ : Value}
    {f_NoWalk___init__ : Addr} {od_NoWalk___init__ an_NoWalk___init__ : Option Addr} {sl_NoWalk___init__ : Array (Option Value)} {oc_NoWalk___init__ kV_NoWalk___init__ dc_NoWalk___init__ pm_NoWalk___init__ cd_NoWalk___init__ ct_NoWalk___init__ : Value}
    {f_BadTable___init__ : Addr} {od_BadTable___init__ an_BadTable___init__ : Option Addr} {sl_BadTable___init__ : Array (Option Value)} {oc_BadTable___init__ kV_BadTable___init__ dc_BadTable___init__ pm_BadTable___init__ cd_BadTable___init__ ct_BadTable___init__ : Value}
    {f_Meet___init__ : Addr} {od_Meet___init__ an_Meet___init__ : Option Addr} {sl_Meet___init__ : Array (Option Value)} {oc_Meet___init__ kV_Meet___init__ dc_Meet___init__ pm_Meet___init__ cd_Meet___init__ ct_Meet___init__ : Value}
    {f_NoTick___init__ : Addr} {od_NoTick___init__ an_NoTick___init__ : Option Addr} {sl_NoTick___init__ : Array (Option Value)} {oc_NoTick___init__ kV_NoTick___init__ dc_NoTick___init__ pm_NoTick___init__ cd_NoTick___init__ ct_NoTick___init__ : Value}
    {f_NoLoops___init__ : Addr} {od_NoLoops___init__ an_NoLoops___init__ : Option Addr} {sl_NoLoops___init__ : Array (Option Value)} {oc_NoLoops___init__ kV_NoLoops___init__ dc_NoLoops___init__ pm_NoLoops___init__ cd_NoLoops___init__ ct_NoLoops___init__ : Value}
    {f_TooMany___init__ : Addr} {od_TooMany___init__ an_TooMany___init__ : Option Addr} {sl_TooMany___init__ : Array (Option Value)} {oc_TooMany___init__ kV_TooMany___init__ dc_TooMany___init__ pm_TooMany___init__ cd_TooMany___init__ ct_TooMany___init__ : Value}
    {f_NotDoubling___init__ : Addr} {od_NotDoubling___init__ an_NotDoubling___init__ : Option Addr} {sl_NotDoubling___init__ : Array (Option Value)} {oc_NotDoubling___init__ kV_NotDoubling___init__ dc_NotDoubling___init__ pm_NotDoubling___init__ cd_NotDoubling___init__ ct_NotDoubling___init__ : Value}
    {f_NoWait___init__ : Addr} {od_NoWait___init__ an_NoWait___init__ : Option Addr} {sl_NoWait___init__ : Array (Option Value)} {oc_NoWait___init__ kV_NoWait___init__ dc_NoWait___init__ pm_NoWait___init__ cd_NoWait___init__ ct_NoWait___init__ : Value}
    {f_NoTotal___init__ : Addr} {od_NoTotal___init__ an_NoTotal___init__ : Option Addr} {sl_NoTotal___init__ : Array (Option Value)} {oc_NoTotal___init__ kV_NoTotal___init__ dc_NoTotal___init__ pm_NoTotal___init__ cd_NoTotal___init__ ct_NoTotal___init__ : Value}
    {f_NoRow___init__ : Addr} {od_NoRow___init__ an_NoRow___init__ : Option Addr} {sl_NoRow___init__ : Array (Option Value)} {oc_NoRow___init__ kV_NoRow___init__ dc_NoRow___init__ pm_NoRow___init__ cd_NoRow___init__ ct_NoRow___init__ : Value}
    {f_NoTold___init__ : Addr} {od_NoTold___init__ an_NoTold___init__ : Option Addr} {sl_NoTold___init__ : Array (Option Value)} {oc_NoTold___init__ kV_NoTold___init__ dc_NoTold___init__ pm_NoTold___init__ cd_NoTold___init__ ct_NoTold___init__ : Value}
    {f_NoStand___init__ : Addr} {od_NoStand___init__ an_NoStand___init__ : Option Addr} {sl_NoStand___init__ : Array (Option Value)} {oc_NoStand___init__ kV_NoStand___init__ dc_NoStand___init__ pm_NoStand___init__ cd_NoStand___init__ ct_NoStand___init__ : Value}
    {f_NoNumber___init__ : Addr} {od_NoNumber___init__ an_NoNumber___init__ : Option Addr} {sl_NoNumber___init__ : Array (Option Value)} {oc_NoNumber___init__ kV_NoNumber___init__ dc_NoNumber___init__ pm_NoNumber___init__ cd_NoNumber___init__ ct_NoNumber___init__ : Value}
    {f_NoLaying___init__ : Addr} {od_NoLaying___init__ an_NoLaying___init__ : Option Addr} {sl_NoLaying___init__ : Array (Option Value)} {oc_NoLaying___init__ kV_NoLaying___init__ dc_NoLaying___init__ pm_NoLaying___init__ cd_NoLaying___init__ ct_NoLaying___init__ : Value}
    {f_NoPlan___init__ : Addr} {od_NoPlan___init__ an_NoPlan___init__ : Option Addr} {sl_NoPlan___init__ : Array (Option Value)} {oc_NoPlan___init__ kV_NoPlan___init__ dc_NoPlan___init__ pm_NoPlan___init__ cd_NoPlan___init__ ct_NoPlan___init__ : Value}
    {f_NotKept___init__ : Addr} {od_NotKept___init__ an_NotKept___init__ : Option Addr} {sl_NotKept___init__ : Array (Option Value)} {oc_NotKept___init__ kV_NotKept___init__ dc_NotKept___init__ pm_NotKept___init__ cd_NotKept___init__ ct_NotKept___init__ : Value}
    {f_NothingDone___init__ : Addr} {od_NothingDone___init__ an_NothingDone___init__ : Option Addr} {sl_NothingDone___init__ : Array (Option Value)} {oc_NothingDone___init__ kV_NothingDone___init__ dc_NothingDone___init__ pm_NothingDone___init__ cd_NothingDone___init__ ct_NothingDone___init__ : Value}
    {f_NotLost___init__ : Addr} {od_NotLost___init__ an_NotLost___init__ : Option Addr} {sl_NotLost___init__ : Array (Option Value)} {oc_NotLost___init__ kV_NotLost___init__ dc_NotLost___init__ pm_NotLost___init__ cd_NotLost___init__ ct_NotLost___init__ : Value}
    {f_Over___init__ : Addr} {od_Over___init__ an_Over___init__ : Option Addr} {sl_Over___init__ : Array (Option Value)} {oc_Over___init__ kV_Over___init__ dc_Over___init__ pm_Over___init__ cd_Over___init__ ct_Over___init__ : Value}
    {f_NoLoop___init__ : Addr} {od_NoLoop___init__ an_NoLoop___init__ : Option Addr} {sl_NoLoop___init__ : Array (Option Value)} {oc_NoLoop___init__ kV_NoLoop___init__ dc_NoLoop___init__ pm_NoLoop___init__ cd_NoLoop___init__ ct_NoLoop___init__ : Value}
    {f_NoWeights___init__ : Addr} {od_NoWeights___init__ an_NoWeights___init__ : Option Addr} {sl_NoWeights___init__ : Array (Option Value)} {oc_NoWeights___init__ kV_NoWeights___init__ dc_NoWeights___init__ pm_NoWeights___init__ cd_NoWeights___init__ ct_NoWeights___init__ : Value}
    {f_NoFraction___init__ : Addr} {od_NoFraction___init__ an_NoFraction___init__ : Option Addr} {sl_NoFraction___init__ : Array (Option Value)} {oc_NoFraction___init__ kV_NoFraction___init__ dc_NoFraction___init__ pm_NoFraction___init__ cd_NoFraction___init__ ct_NoFraction___init__ : Value}
    {f_OtherBounds___init__ : Addr} {od_OtherBounds___init__ an_OtherBounds___init__ : Option Addr} {sl_OtherBounds___init__ : Array (Option Value)} {oc_OtherBounds___init__ kV_OtherBounds___init__ dc_OtherBounds___init__ pm_OtherBounds___init__ cd_OtherBounds___init__ ct_OtherBounds___init__ : Value}
    {f_NoLetter___init__ : Addr} {od_NoLetter___init__ an_NoLetter___init__ : Option Addr} {sl_NoLetter___init__ : Array (Option Value)} {oc_NoLetter___init__ kV_NoLetter___init__ dc_NoLetter___init__ pm_NoLetter___init__ cd_NoLetter___init__ ct_NoLetter___init__ : Value}
    {f_NoDay___init__ : Addr} {od_NoDay___init__ an_NoDay___init__ : Option Addr} {sl_NoDay___init__ : Array (Option Value)} {oc_NoDay___init__ kV_NoDay___init__ dc_NoDay___init__ pm_NoDay___init__ cd_NoDay___init__ ct_NoDay___init__ : Value}
    {f_BadText___init__ : Addr} {od_BadText___init__ an_BadText___init__ : Option Addr} {sl_BadText___init__ : Array (Option Value)} {oc_BadText___init__ kV_BadText___init__ dc_BadText___init__ pm_BadText___init__ cd_BadText___init__ ct_BadText___init__ : Value}
    {f_NoLine___init__ : Addr} {od_NoLine___init__ an_NoLine___init__ : Option Addr} {sl_NoLine___init__ : Array (Option Value)} {oc_NoLine___init__ kV_NoLine___init__ dc_NoLine___init__ pm_NoLine___init__ cd_NoLine___init__ ct_NoLine___init__ : Value}
    {f_NoName___init__ : Addr} {od_NoName___init__ an_NoName___init__ : Option Addr} {sl_NoName___init__ : Array (Option Value)} {oc_NoName___init__ kV_NoName___init__ dc_NoName___init__ pm_NoName___init__ cd_NoName___init__ ct_NoName___init__ : Value}
    {f_BadTree___init__ : Addr} {od_BadTree___init__ an_BadTree___init__ : Option Addr} {sl_BadTree___init__ : Array (Option Value)} {oc_BadTree___init__ kV_BadTree___init__ dc_BadTree___init__ pm_BadTree___init__ cd_BadTree___init__ ct_BadTree___init__ : Value}
    {f_NoDoorings___init__ : Addr} {od_NoDoorings___init__ an_NoDoorings___init__ : Option Addr} {sl_NoDoorings___init__ : Array (Option Value)} {oc_NoDoorings___init__ kV_NoDoorings___init__ dc_NoDoorings___init__ pm_NoDoorings___init__ cd_NoDoorings___init__ ct_NoDoorings___init__ : Value}
    {f_NoLong___init__ : Addr} {od_NoLong___init__ an_NoLong___init__ : Option Addr} {sl_NoLong___init__ : Array (Option Value)} {oc_NoLong___init__ kV_NoLong___init__ dc_NoLong___init__ pm_NoLong___init__ cd_NoLong___init__ ct_NoLong___init__ : Value}
    {f_NoPrices___init__ : Addr} {od_NoPrices___init__ an_NoPrices___init__ : Option Addr} {sl_NoPrices___init__ : Array (Option Value)} {oc_NoPrices___init__ kV_NoPrices___init__ dc_NoPrices___init__ pm_NoPrices___init__ cd_NoPrices___init__ ct_NoPrices___init__ : Value}
    {f_OtherTables___init__ : Addr} {od_OtherTables___init__ an_OtherTables___init__ : Option Addr} {sl_OtherTables___init__ : Array (Option Value)} {oc_OtherTables___init__ kV_OtherTables___init__ dc_OtherTables___init__ pm_OtherTables___init__ cd_OtherTables___init__ ct_OtherTables___init__ : Value}
    {f_NoTables___init__ : Addr} {od_NoTables___init__ an_NoTables___init__ : Option Addr} {sl_NoTables___init__ : Array (Option Value)} {oc_NoTables___init__ kV_NoTables___init__ dc_NoTables___init__ pm_NoTables___init__ cd_NoTables___init__ ct_NoTables___init__ : Value}
    {f_NoTable___init__ : Addr} {od_NoTable___init__ an_NoTable___init__ : Option Addr} {sl_NoTable___init__ : Array (Option Value)} {oc_NoTable___init__ kV_NoTable___init__ dc_NoTable___init__ pm_NoTable___init__ cd_NoTable___init__ ct_NoTable___init__ : Value}
    {c_BadTable : Addr}
    {c_BadText : Addr}
    {c_BadTree : Addr}
    {c_LoopError : Addr}
    {c_Meet : Addr}
    {c_NoBound : Addr}
    {c_NoComers : Addr}
    {c_NoComings : Addr}
    {c_NoDay : Addr}
    {c_NoDoorings : Addr}
    {c_NoFraction : Addr}
    {c_NoLaying : Addr}
    {c_NoLetter : Addr}
    {c_NoLine : Addr}
    {c_NoLong : Addr}
    {c_NoLoop : Addr}
    {c_NoLoops : Addr}
    {c_NoName : Addr}
    {c_NoNumber : Addr}
    {c_NoPlan : Addr}
    {c_NoPrices : Addr}
    {c_NoRow : Addr}
    {c_NoSpot : Addr}
    {c_NoStand : Addr}
    {c_NoTable : Addr}
    {c_NoTables : Addr}
    {c_NoTick : Addr}
    {c_NoTold : Addr}
    {c_NoTotal : Addr}
    {c_NoWait : Addr}
    {c_NoWalk : Addr}
    {c_NoWeights : Addr}
    {c_NotDoubling : Addr}
    {c_NotKept : Addr}
    {c_NotLost : Addr}
    {c_NothingDone : Addr}
    {c_OtherBounds : Addr}
    {c_OtherTables : Addr}
    {c_Over : Addr}
    {c_TooMany : Addr}
    (a__law_tape : PySem.W.nsIn K mainGlobals "_law_tape" = some (some (.ref f__law_tape))) (l__law_tape : K.lookup f__law_tape = some ⟨oc__law_tape, od__law_tape, .func (PySem.W.fnOf "_law_tape" "_law_tape" (defArgs s__law_tape) (defBody s__law_tape) (defScope s__law_tape) .none kV__law_tape dc__law_tape pm__law_tape an__law_tape cd__law_tape ct__law_tape), sl__law_tape⟩) (c__law_tape : PySem.W.codeIn K cd__law_tape "_law_tape" = true) (k__law_tape : PySem.W.keepIn K (.ref f__law_tape) = true)
    (a__law_pick : PySem.W.nsIn K mainGlobals "_law_pick" = some (some (.ref f__law_pick))) (l__law_pick : K.lookup f__law_pick = some ⟨oc__law_pick, od__law_pick, .func (PySem.W.fnOf "_law_pick" "_law_pick" (defArgs s__law_pick) (defBody s__law_pick) (defScope s__law_pick) .none kV__law_pick dc__law_pick pm__law_pick an__law_pick cd__law_pick ct__law_pick), sl__law_pick⟩) (c__law_pick : PySem.W.codeIn K cd__law_pick "_law_pick" = true) (k__law_pick : PySem.W.keepIn K (.ref f__law_pick) = true)
    (a__law_flags : PySem.W.nsIn K mainGlobals "_law_flags" = some (some (.ref f__law_flags))) (l__law_flags : K.lookup f__law_flags = some ⟨oc__law_flags, od__law_flags, .func (PySem.W.fnOf "_law_flags" "_law_flags" (defArgs s__law_flags) (defBody s__law_flags) (defScope s__law_flags) .none kV__law_flags dc__law_flags pm__law_flags an__law_flags cd__law_flags ct__law_flags), sl__law_flags⟩) (c__law_flags : PySem.W.codeIn K cd__law_flags "_law_flags" = true) (k__law_flags : PySem.W.keepIn K (.ref f__law_flags) = true)
    (a__law_made : PySem.W.nsIn K mainGlobals "_law_made" = some (some (.ref f__law_made))) (l__law_made : K.lookup f__law_made = some ⟨oc__law_made, od__law_made, .func (PySem.W.fnOf "_law_made" "_law_made" (defArgs s__law_made) (defBody s__law_made) (defScope s__law_made) .none kV__law_made dc__law_made pm__law_made an__law_made cd__law_made ct__law_made), sl__law_made⟩) (c__law_made : PySem.W.codeIn K cd__law_made "_law_made" = true) (k__law_made : PySem.W.keepIn K (.ref f__law_made) = true)
    (a__law_caught : PySem.W.nsIn K mainGlobals "_law_caught" = some (some (.ref f__law_caught))) (l__law_caught : K.lookup f__law_caught = some ⟨oc__law_caught, od__law_caught, .func (PySem.W.fnOf "_law_caught" "_law_caught" (defArgs s__law_caught) (defBody s__law_caught) (defScope s__law_caught) .none kV__law_caught dc__law_caught pm__law_caught an__law_caught cd__law_caught ct__law_caught), sl__law_caught⟩) (c__law_caught : PySem.W.codeIn K cd__law_caught "_law_caught" = true) (k__law_caught : PySem.W.keepIn K (.ref f__law_caught) = true)
    (a_law : PySem.W.nsIn K mainGlobals "law" = some (some (.ref f_law))) (l_law : K.lookup f_law = some ⟨oc_law, od_law, .func (PySem.W.fnOf "law" "law" (defArgs s_law) (defBody s_law) (defScope s_law) .none kV_law dc_law pm_law an_law cd_law ct_law), sl_law⟩) (c_law : PySem.W.codeIn K cd_law "law" = true) (k_law : PySem.W.keepIn K (.ref f_law) = true)
    (a_NoComers___init__ : PySem.W.findIn K (.ref c_NoComers) "__init__" = some (some (.ref f_NoComers___init__))) (i_NoComers___init__ : PySem.W.isFn K (.ref f_NoComers___init__) = true) (l_NoComers___init__ : K.lookup f_NoComers___init__ = some ⟨oc_NoComers___init__, od_NoComers___init__, .func (PySem.W.fnOf "__init__" "NoComers.__init__" (defArgs s_NoComers___init__) (defBody s_NoComers___init__) (defScope s_NoComers___init__) .none kV_NoComers___init__ dc_NoComers___init__ pm_NoComers___init__ an_NoComers___init__ cd_NoComers___init__ ct_NoComers___init__), sl_NoComers___init__⟩) (c_NoComers___init__ : PySem.W.codeIn K cd_NoComers___init__ "NoComers.__init__" = true) (k_NoComers___init__ : PySem.W.keepIn K (.ref f_NoComers___init__) = true)
    (a_NoBound___init__ : PySem.W.findIn K (.ref c_NoBound) "__init__" = some (some (.ref f_NoBound___init__))) (i_NoBound___init__ : PySem.W.isFn K (.ref f_NoBound___init__) = true) (l_NoBound___init__ : K.lookup f_NoBound___init__ = some ⟨oc_NoBound___init__, od_NoBound___init__, .func (PySem.W.fnOf "__init__" "NoBound.__init__" (defArgs s_NoBound___init__) (defBody s_NoBound___init__) (defScope s_NoBound___init__) .none kV_NoBound___init__ dc_NoBound___init__ pm_NoBound___init__ an_NoBound___init__ cd_NoBound___init__ ct_NoBound___init__), sl_NoBound___init__⟩) (c_NoBound___init__ : PySem.W.codeIn K cd_NoBound___init__ "NoBound.__init__" = true) (k_NoBound___init__ : PySem.W.keepIn K (.ref f_NoBound___init__) = true)
    (a_NoComings___init__ : PySem.W.findIn K (.ref c_NoComings) "__init__" = some (some (.ref f_NoComings___init__))) (i_NoComings___init__ : PySem.W.isFn K (.ref f_NoComings___init__) = true) (l_NoComings___init__ : K.lookup f_NoComings___init__ = some ⟨oc_NoComings___init__, od_NoComings___init__, .func (PySem.W.fnOf "__init__" "NoComings.__init__" (defArgs s_NoComings___init__) (defBody s_NoComings___init__) (defScope s_NoComings___init__) .none kV_NoComings___init__ dc_NoComings___init__ pm_NoComings___init__ an_NoComings___init__ cd_NoComings___init__ ct_NoComings___init__), sl_NoComings___init__⟩) (c_NoComings___init__ : PySem.W.codeIn K cd_NoComings___init__ "NoComings.__init__" = true) (k_NoComings___init__ : PySem.W.keepIn K (.ref f_NoComings___init__) = true)
    (a_NoSpot___init__ : PySem.W.findIn K (.ref c_NoSpot) "__init__" = some (some (.ref f_NoSpot___init__))) (i_NoSpot___init__ : PySem.W.isFn K (.ref f_NoSpot___init__) = true) (l_NoSpot___init__ : K.lookup f_NoSpot___init__ = some ⟨oc_NoSpot___init__, od_NoSpot___init__, .func (PySem.W.fnOf "__init__" "NoSpot.__init__" (defArgs s_NoSpot___init__) (defBody s_NoSpot___init__) (defScope s_NoSpot___init__) .none kV_NoSpot___init__ dc_NoSpot___init__ pm_NoSpot___init__ an_NoSpot___init__ cd_NoSpot___init__ ct_NoSpot___init__), sl_NoSpot___init__⟩) (c_NoSpot___init__ : PySem.W.codeIn K cd_NoSpot___init__ "NoSpot.__init__" = true) (k_NoSpot___init__ : PySem.W.keepIn K (.ref f_NoSpot___init__) = true)
    (a_NoWalk___init__ : PySem.W.findIn K (.ref c_NoWalk) "__init__" = some (some (.ref f_NoWalk___init__))) (i_NoWalk___init__ : PySem.W.isFn K (.ref f_NoWalk___init__) = true) (l_NoWalk___init__ : K.lookup f_NoWalk___init__ = some ⟨oc_NoWalk___init__, od_NoWalk___init__, .func (PySem.W.fnOf "__init__" "NoWalk.__init__" (defArgs s_NoWalk___init__) (defBody s_NoWalk___init__) (defScope s_NoWalk___init__) .none kV_NoWalk___init__ dc_NoWalk___init__ pm_NoWalk___init__ an_NoWalk___init__ cd_NoWalk___init__ ct_NoWalk___init__), sl_NoWalk___init__⟩) (c_NoWalk___init__ : PySem.W.codeIn K cd_NoWalk___init__ "NoWalk.__init__" = true) (k_NoWalk___init__ : PySem.W.keepIn K (.ref f_NoWalk___init__) = true)
    (a_BadTable___init__ : PySem.W.findIn K (.ref c_BadTable) "__init__" = some (some (.ref f_BadTable___init__))) (i_BadTable___init__ : PySem.W.isFn K (.ref f_BadTable___init__) = true) (l_BadTable___init__ : K.lookup f_BadTable___init__ = some ⟨oc_BadTable___init__, od_BadTable___init__, .func (PySem.W.fnOf "__init__" "BadTable.__init__" (defArgs s_BadTable___init__) (defBody s_BadTable___init__) (defScope s_BadTable___init__) .none kV_BadTable___init__ dc_BadTable___init__ pm_BadTable___init__ an_BadTable___init__ cd_BadTable___init__ ct_BadTable___init__), sl_BadTable___init__⟩) (c_BadTable___init__ : PySem.W.codeIn K cd_BadTable___init__ "BadTable.__init__" = true) (k_BadTable___init__ : PySem.W.keepIn K (.ref f_BadTable___init__) = true)
    (a_Meet___init__ : PySem.W.findIn K (.ref c_Meet) "__init__" = some (some (.ref f_Meet___init__))) (i_Meet___init__ : PySem.W.isFn K (.ref f_Meet___init__) = true) (l_Meet___init__ : K.lookup f_Meet___init__ = some ⟨oc_Meet___init__, od_Meet___init__, .func (PySem.W.fnOf "__init__" "Meet.__init__" (defArgs s_Meet___init__) (defBody s_Meet___init__) (defScope s_Meet___init__) .none kV_Meet___init__ dc_Meet___init__ pm_Meet___init__ an_Meet___init__ cd_Meet___init__ ct_Meet___init__), sl_Meet___init__⟩) (c_Meet___init__ : PySem.W.codeIn K cd_Meet___init__ "Meet.__init__" = true) (k_Meet___init__ : PySem.W.keepIn K (.ref f_Meet___init__) = true)
    (a_NoTick___init__ : PySem.W.findIn K (.ref c_NoTick) "__init__" = some (some (.ref f_NoTick___init__))) (i_NoTick___init__ : PySem.W.isFn K (.ref f_NoTick___init__) = true) (l_NoTick___init__ : K.lookup f_NoTick___init__ = some ⟨oc_NoTick___init__, od_NoTick___init__, .func (PySem.W.fnOf "__init__" "NoTick.__init__" (defArgs s_NoTick___init__) (defBody s_NoTick___init__) (defScope s_NoTick___init__) .none kV_NoTick___init__ dc_NoTick___init__ pm_NoTick___init__ an_NoTick___init__ cd_NoTick___init__ ct_NoTick___init__), sl_NoTick___init__⟩) (c_NoTick___init__ : PySem.W.codeIn K cd_NoTick___init__ "NoTick.__init__" = true) (k_NoTick___init__ : PySem.W.keepIn K (.ref f_NoTick___init__) = true)
    (a_NoLoops___init__ : PySem.W.findIn K (.ref c_NoLoops) "__init__" = some (some (.ref f_NoLoops___init__))) (i_NoLoops___init__ : PySem.W.isFn K (.ref f_NoLoops___init__) = true) (l_NoLoops___init__ : K.lookup f_NoLoops___init__ = some ⟨oc_NoLoops___init__, od_NoLoops___init__, .func (PySem.W.fnOf "__init__" "NoLoops.__init__" (defArgs s_NoLoops___init__) (defBody s_NoLoops___init__) (defScope s_NoLoops___init__) .none kV_NoLoops___init__ dc_NoLoops___init__ pm_NoLoops___init__ an_NoLoops___init__ cd_NoLoops___init__ ct_NoLoops___init__), sl_NoLoops___init__⟩) (c_NoLoops___init__ : PySem.W.codeIn K cd_NoLoops___init__ "NoLoops.__init__" = true) (k_NoLoops___init__ : PySem.W.keepIn K (.ref f_NoLoops___init__) = true)
    (a_TooMany___init__ : PySem.W.findIn K (.ref c_TooMany) "__init__" = some (some (.ref f_TooMany___init__))) (i_TooMany___init__ : PySem.W.isFn K (.ref f_TooMany___init__) = true) (l_TooMany___init__ : K.lookup f_TooMany___init__ = some ⟨oc_TooMany___init__, od_TooMany___init__, .func (PySem.W.fnOf "__init__" "TooMany.__init__" (defArgs s_TooMany___init__) (defBody s_TooMany___init__) (defScope s_TooMany___init__) .none kV_TooMany___init__ dc_TooMany___init__ pm_TooMany___init__ an_TooMany___init__ cd_TooMany___init__ ct_TooMany___init__), sl_TooMany___init__⟩) (c_TooMany___init__ : PySem.W.codeIn K cd_TooMany___init__ "TooMany.__init__" = true) (k_TooMany___init__ : PySem.W.keepIn K (.ref f_TooMany___init__) = true)
    (a_NotDoubling___init__ : PySem.W.findIn K (.ref c_NotDoubling) "__init__" = some (some (.ref f_NotDoubling___init__))) (i_NotDoubling___init__ : PySem.W.isFn K (.ref f_NotDoubling___init__) = true) (l_NotDoubling___init__ : K.lookup f_NotDoubling___init__ = some ⟨oc_NotDoubling___init__, od_NotDoubling___init__, .func (PySem.W.fnOf "__init__" "NotDoubling.__init__" (defArgs s_NotDoubling___init__) (defBody s_NotDoubling___init__) (defScope s_NotDoubling___init__) .none kV_NotDoubling___init__ dc_NotDoubling___init__ pm_NotDoubling___init__ an_NotDoubling___init__ cd_NotDoubling___init__ ct_NotDoubling___init__), sl_NotDoubling___init__⟩) (c_NotDoubling___init__ : PySem.W.codeIn K cd_NotDoubling___init__ "NotDoubling.__init__" = true) (k_NotDoubling___init__ : PySem.W.keepIn K (.ref f_NotDoubling___init__) = true)
    (a_NoWait___init__ : PySem.W.findIn K (.ref c_NoWait) "__init__" = some (some (.ref f_NoWait___init__))) (i_NoWait___init__ : PySem.W.isFn K (.ref f_NoWait___init__) = true) (l_NoWait___init__ : K.lookup f_NoWait___init__ = some ⟨oc_NoWait___init__, od_NoWait___init__, .func (PySem.W.fnOf "__init__" "NoWait.__init__" (defArgs s_NoWait___init__) (defBody s_NoWait___init__) (defScope s_NoWait___init__) .none kV_NoWait___init__ dc_NoWait___init__ pm_NoWait___init__ an_NoWait___init__ cd_NoWait___init__ ct_NoWait___init__), sl_NoWait___init__⟩) (c_NoWait___init__ : PySem.W.codeIn K cd_NoWait___init__ "NoWait.__init__" = true) (k_NoWait___init__ : PySem.W.keepIn K (.ref f_NoWait___init__) = true)
    (a_NoTotal___init__ : PySem.W.findIn K (.ref c_NoTotal) "__init__" = some (some (.ref f_NoTotal___init__))) (i_NoTotal___init__ : PySem.W.isFn K (.ref f_NoTotal___init__) = true) (l_NoTotal___init__ : K.lookup f_NoTotal___init__ = some ⟨oc_NoTotal___init__, od_NoTotal___init__, .func (PySem.W.fnOf "__init__" "NoTotal.__init__" (defArgs s_NoTotal___init__) (defBody s_NoTotal___init__) (defScope s_NoTotal___init__) .none kV_NoTotal___init__ dc_NoTotal___init__ pm_NoTotal___init__ an_NoTotal___init__ cd_NoTotal___init__ ct_NoTotal___init__), sl_NoTotal___init__⟩) (c_NoTotal___init__ : PySem.W.codeIn K cd_NoTotal___init__ "NoTotal.__init__" = true) (k_NoTotal___init__ : PySem.W.keepIn K (.ref f_NoTotal___init__) = true)
    (a_NoRow___init__ : PySem.W.findIn K (.ref c_NoRow) "__init__" = some (some (.ref f_NoRow___init__))) (i_NoRow___init__ : PySem.W.isFn K (.ref f_NoRow___init__) = true) (l_NoRow___init__ : K.lookup f_NoRow___init__ = some ⟨oc_NoRow___init__, od_NoRow___init__, .func (PySem.W.fnOf "__init__" "NoRow.__init__" (defArgs s_NoRow___init__) (defBody s_NoRow___init__) (defScope s_NoRow___init__) .none kV_NoRow___init__ dc_NoRow___init__ pm_NoRow___init__ an_NoRow___init__ cd_NoRow___init__ ct_NoRow___init__), sl_NoRow___init__⟩) (c_NoRow___init__ : PySem.W.codeIn K cd_NoRow___init__ "NoRow.__init__" = true) (k_NoRow___init__ : PySem.W.keepIn K (.ref f_NoRow___init__) = true)
    (a_NoTold___init__ : PySem.W.findIn K (.ref c_NoTold) "__init__" = some (some (.ref f_NoTold___init__))) (i_NoTold___init__ : PySem.W.isFn K (.ref f_NoTold___init__) = true) (l_NoTold___init__ : K.lookup f_NoTold___init__ = some ⟨oc_NoTold___init__, od_NoTold___init__, .func (PySem.W.fnOf "__init__" "NoTold.__init__" (defArgs s_NoTold___init__) (defBody s_NoTold___init__) (defScope s_NoTold___init__) .none kV_NoTold___init__ dc_NoTold___init__ pm_NoTold___init__ an_NoTold___init__ cd_NoTold___init__ ct_NoTold___init__), sl_NoTold___init__⟩) (c_NoTold___init__ : PySem.W.codeIn K cd_NoTold___init__ "NoTold.__init__" = true) (k_NoTold___init__ : PySem.W.keepIn K (.ref f_NoTold___init__) = true)
    (a_NoStand___init__ : PySem.W.findIn K (.ref c_NoStand) "__init__" = some (some (.ref f_NoStand___init__))) (i_NoStand___init__ : PySem.W.isFn K (.ref f_NoStand___init__) = true) (l_NoStand___init__ : K.lookup f_NoStand___init__ = some ⟨oc_NoStand___init__, od_NoStand___init__, .func (PySem.W.fnOf "__init__" "NoStand.__init__" (defArgs s_NoStand___init__) (defBody s_NoStand___init__) (defScope s_NoStand___init__) .none kV_NoStand___init__ dc_NoStand___init__ pm_NoStand___init__ an_NoStand___init__ cd_NoStand___init__ ct_NoStand___init__), sl_NoStand___init__⟩) (c_NoStand___init__ : PySem.W.codeIn K cd_NoStand___init__ "NoStand.__init__" = true) (k_NoStand___init__ : PySem.W.keepIn K (.ref f_NoStand___init__) = true)
    (a_NoNumber___init__ : PySem.W.findIn K (.ref c_NoNumber) "__init__" = some (some (.ref f_NoNumber___init__))) (i_NoNumber___init__ : PySem.W.isFn K (.ref f_NoNumber___init__) = true) (l_NoNumber___init__ : K.lookup f_NoNumber___init__ = some ⟨oc_NoNumber___init__, od_NoNumber___init__, .func (PySem.W.fnOf "__init__" "NoNumber.__init__" (defArgs s_NoNumber___init__) (defBody s_NoNumber___init__) (defScope s_NoNumber___init__) .none kV_NoNumber___init__ dc_NoNumber___init__ pm_NoNumber___init__ an_NoNumber___init__ cd_NoNumber___init__ ct_NoNumber___init__), sl_NoNumber___init__⟩) (c_NoNumber___init__ : PySem.W.codeIn K cd_NoNumber___init__ "NoNumber.__init__" = true) (k_NoNumber___init__ : PySem.W.keepIn K (.ref f_NoNumber___init__) = true)
    (a_NoLaying___init__ : PySem.W.findIn K (.ref c_NoLaying) "__init__" = some (some (.ref f_NoLaying___init__))) (i_NoLaying___init__ : PySem.W.isFn K (.ref f_NoLaying___init__) = true) (l_NoLaying___init__ : K.lookup f_NoLaying___init__ = some ⟨oc_NoLaying___init__, od_NoLaying___init__, .func (PySem.W.fnOf "__init__" "NoLaying.__init__" (defArgs s_NoLaying___init__) (defBody s_NoLaying___init__) (defScope s_NoLaying___init__) .none kV_NoLaying___init__ dc_NoLaying___init__ pm_NoLaying___init__ an_NoLaying___init__ cd_NoLaying___init__ ct_NoLaying___init__), sl_NoLaying___init__⟩) (c_NoLaying___init__ : PySem.W.codeIn K cd_NoLaying___init__ "NoLaying.__init__" = true) (k_NoLaying___init__ : PySem.W.keepIn K (.ref f_NoLaying___init__) = true)
    (a_NoPlan___init__ : PySem.W.findIn K (.ref c_NoPlan) "__init__" = some (some (.ref f_NoPlan___init__))) (i_NoPlan___init__ : PySem.W.isFn K (.ref f_NoPlan___init__) = true) (l_NoPlan___init__ : K.lookup f_NoPlan___init__ = some ⟨oc_NoPlan___init__, od_NoPlan___init__, .func (PySem.W.fnOf "__init__" "NoPlan.__init__" (defArgs s_NoPlan___init__) (defBody s_NoPlan___init__) (defScope s_NoPlan___init__) .none kV_NoPlan___init__ dc_NoPlan___init__ pm_NoPlan___init__ an_NoPlan___init__ cd_NoPlan___init__ ct_NoPlan___init__), sl_NoPlan___init__⟩) (c_NoPlan___init__ : PySem.W.codeIn K cd_NoPlan___init__ "NoPlan.__init__" = true) (k_NoPlan___init__ : PySem.W.keepIn K (.ref f_NoPlan___init__) = true)
    (a_NotKept___init__ : PySem.W.findIn K (.ref c_NotKept) "__init__" = some (some (.ref f_NotKept___init__))) (i_NotKept___init__ : PySem.W.isFn K (.ref f_NotKept___init__) = true) (l_NotKept___init__ : K.lookup f_NotKept___init__ = some ⟨oc_NotKept___init__, od_NotKept___init__, .func (PySem.W.fnOf "__init__" "NotKept.__init__" (defArgs s_NotKept___init__) (defBody s_NotKept___init__) (defScope s_NotKept___init__) .none kV_NotKept___init__ dc_NotKept___init__ pm_NotKept___init__ an_NotKept___init__ cd_NotKept___init__ ct_NotKept___init__), sl_NotKept___init__⟩) (c_NotKept___init__ : PySem.W.codeIn K cd_NotKept___init__ "NotKept.__init__" = true) (k_NotKept___init__ : PySem.W.keepIn K (.ref f_NotKept___init__) = true)
    (a_NothingDone___init__ : PySem.W.findIn K (.ref c_NothingDone) "__init__" = some (some (.ref f_NothingDone___init__))) (i_NothingDone___init__ : PySem.W.isFn K (.ref f_NothingDone___init__) = true) (l_NothingDone___init__ : K.lookup f_NothingDone___init__ = some ⟨oc_NothingDone___init__, od_NothingDone___init__, .func (PySem.W.fnOf "__init__" "NothingDone.__init__" (defArgs s_NothingDone___init__) (defBody s_NothingDone___init__) (defScope s_NothingDone___init__) .none kV_NothingDone___init__ dc_NothingDone___init__ pm_NothingDone___init__ an_NothingDone___init__ cd_NothingDone___init__ ct_NothingDone___init__), sl_NothingDone___init__⟩) (c_NothingDone___init__ : PySem.W.codeIn K cd_NothingDone___init__ "NothingDone.__init__" = true) (k_NothingDone___init__ : PySem.W.keepIn K (.ref f_NothingDone___init__) = true)
    (a_NotLost___init__ : PySem.W.findIn K (.ref c_NotLost) "__init__" = some (some (.ref f_NotLost___init__))) (i_NotLost___init__ : PySem.W.isFn K (.ref f_NotLost___init__) = true) (l_NotLost___init__ : K.lookup f_NotLost___init__ = some ⟨oc_NotLost___init__, od_NotLost___init__, .func (PySem.W.fnOf "__init__" "NotLost.__init__" (defArgs s_NotLost___init__) (defBody s_NotLost___init__) (defScope s_NotLost___init__) .none kV_NotLost___init__ dc_NotLost___init__ pm_NotLost___init__ an_NotLost___init__ cd_NotLost___init__ ct_NotLost___init__), sl_NotLost___init__⟩) (c_NotLost___init__ : PySem.W.codeIn K cd_NotLost___init__ "NotLost.__init__" = true) (k_NotLost___init__ : PySem.W.keepIn K (.ref f_NotLost___init__) = true)
    (a_Over___init__ : PySem.W.findIn K (.ref c_Over) "__init__" = some (some (.ref f_Over___init__))) (i_Over___init__ : PySem.W.isFn K (.ref f_Over___init__) = true) (l_Over___init__ : K.lookup f_Over___init__ = some ⟨oc_Over___init__, od_Over___init__, .func (PySem.W.fnOf "__init__" "Over.__init__" (defArgs s_Over___init__) (defBody s_Over___init__) (defScope s_Over___init__) .none kV_Over___init__ dc_Over___init__ pm_Over___init__ an_Over___init__ cd_Over___init__ ct_Over___init__), sl_Over___init__⟩) (c_Over___init__ : PySem.W.codeIn K cd_Over___init__ "Over.__init__" = true) (k_Over___init__ : PySem.W.keepIn K (.ref f_Over___init__) = true)
    (a_NoLoop___init__ : PySem.W.findIn K (.ref c_NoLoop) "__init__" = some (some (.ref f_NoLoop___init__))) (i_NoLoop___init__ : PySem.W.isFn K (.ref f_NoLoop___init__) = true) (l_NoLoop___init__ : K.lookup f_NoLoop___init__ = some ⟨oc_NoLoop___init__, od_NoLoop___init__, .func (PySem.W.fnOf "__init__" "NoLoop.__init__" (defArgs s_NoLoop___init__) (defBody s_NoLoop___init__) (defScope s_NoLoop___init__) .none kV_NoLoop___init__ dc_NoLoop___init__ pm_NoLoop___init__ an_NoLoop___init__ cd_NoLoop___init__ ct_NoLoop___init__), sl_NoLoop___init__⟩) (c_NoLoop___init__ : PySem.W.codeIn K cd_NoLoop___init__ "NoLoop.__init__" = true) (k_NoLoop___init__ : PySem.W.keepIn K (.ref f_NoLoop___init__) = true)
    (a_NoWeights___init__ : PySem.W.findIn K (.ref c_NoWeights) "__init__" = some (some (.ref f_NoWeights___init__))) (i_NoWeights___init__ : PySem.W.isFn K (.ref f_NoWeights___init__) = true) (l_NoWeights___init__ : K.lookup f_NoWeights___init__ = some ⟨oc_NoWeights___init__, od_NoWeights___init__, .func (PySem.W.fnOf "__init__" "NoWeights.__init__" (defArgs s_NoWeights___init__) (defBody s_NoWeights___init__) (defScope s_NoWeights___init__) .none kV_NoWeights___init__ dc_NoWeights___init__ pm_NoWeights___init__ an_NoWeights___init__ cd_NoWeights___init__ ct_NoWeights___init__), sl_NoWeights___init__⟩) (c_NoWeights___init__ : PySem.W.codeIn K cd_NoWeights___init__ "NoWeights.__init__" = true) (k_NoWeights___init__ : PySem.W.keepIn K (.ref f_NoWeights___init__) = true)
    (a_NoFraction___init__ : PySem.W.findIn K (.ref c_NoFraction) "__init__" = some (some (.ref f_NoFraction___init__))) (i_NoFraction___init__ : PySem.W.isFn K (.ref f_NoFraction___init__) = true) (l_NoFraction___init__ : K.lookup f_NoFraction___init__ = some ⟨oc_NoFraction___init__, od_NoFraction___init__, .func (PySem.W.fnOf "__init__" "NoFraction.__init__" (defArgs s_NoFraction___init__) (defBody s_NoFraction___init__) (defScope s_NoFraction___init__) .none kV_NoFraction___init__ dc_NoFraction___init__ pm_NoFraction___init__ an_NoFraction___init__ cd_NoFraction___init__ ct_NoFraction___init__), sl_NoFraction___init__⟩) (c_NoFraction___init__ : PySem.W.codeIn K cd_NoFraction___init__ "NoFraction.__init__" = true) (k_NoFraction___init__ : PySem.W.keepIn K (.ref f_NoFraction___init__) = true)
    (a_OtherBounds___init__ : PySem.W.findIn K (.ref c_OtherBounds) "__init__" = some (some (.ref f_OtherBounds___init__))) (i_OtherBounds___init__ : PySem.W.isFn K (.ref f_OtherBounds___init__) = true) (l_OtherBounds___init__ : K.lookup f_OtherBounds___init__ = some ⟨oc_OtherBounds___init__, od_OtherBounds___init__, .func (PySem.W.fnOf "__init__" "OtherBounds.__init__" (defArgs s_OtherBounds___init__) (defBody s_OtherBounds___init__) (defScope s_OtherBounds___init__) .none kV_OtherBounds___init__ dc_OtherBounds___init__ pm_OtherBounds___init__ an_OtherBounds___init__ cd_OtherBounds___init__ ct_OtherBounds___init__), sl_OtherBounds___init__⟩) (c_OtherBounds___init__ : PySem.W.codeIn K cd_OtherBounds___init__ "OtherBounds.__init__" = true) (k_OtherBounds___init__ : PySem.W.keepIn K (.ref f_OtherBounds___init__) = true)
    (a_NoLetter___init__ : PySem.W.findIn K (.ref c_NoLetter) "__init__" = some (some (.ref f_NoLetter___init__))) (i_NoLetter___init__ : PySem.W.isFn K (.ref f_NoLetter___init__) = true) (l_NoLetter___init__ : K.lookup f_NoLetter___init__ = some ⟨oc_NoLetter___init__, od_NoLetter___init__, .func (PySem.W.fnOf "__init__" "NoLetter.__init__" (defArgs s_NoLetter___init__) (defBody s_NoLetter___init__) (defScope s_NoLetter___init__) .none kV_NoLetter___init__ dc_NoLetter___init__ pm_NoLetter___init__ an_NoLetter___init__ cd_NoLetter___init__ ct_NoLetter___init__), sl_NoLetter___init__⟩) (c_NoLetter___init__ : PySem.W.codeIn K cd_NoLetter___init__ "NoLetter.__init__" = true) (k_NoLetter___init__ : PySem.W.keepIn K (.ref f_NoLetter___init__) = true)
    (a_NoDay___init__ : PySem.W.findIn K (.ref c_NoDay) "__init__" = some (some (.ref f_NoDay___init__))) (i_NoDay___init__ : PySem.W.isFn K (.ref f_NoDay___init__) = true) (l_NoDay___init__ : K.lookup f_NoDay___init__ = some ⟨oc_NoDay___init__, od_NoDay___init__, .func (PySem.W.fnOf "__init__" "NoDay.__init__" (defArgs s_NoDay___init__) (defBody s_NoDay___init__) (defScope s_NoDay___init__) .none kV_NoDay___init__ dc_NoDay___init__ pm_NoDay___init__ an_NoDay___init__ cd_NoDay___init__ ct_NoDay___init__), sl_NoDay___init__⟩) (c_NoDay___init__ : PySem.W.codeIn K cd_NoDay___init__ "NoDay.__init__" = true) (k_NoDay___init__ : PySem.W.keepIn K (.ref f_NoDay___init__) = true)
    (a_BadText___init__ : PySem.W.findIn K (.ref c_BadText) "__init__" = some (some (.ref f_BadText___init__))) (i_BadText___init__ : PySem.W.isFn K (.ref f_BadText___init__) = true) (l_BadText___init__ : K.lookup f_BadText___init__ = some ⟨oc_BadText___init__, od_BadText___init__, .func (PySem.W.fnOf "__init__" "BadText.__init__" (defArgs s_BadText___init__) (defBody s_BadText___init__) (defScope s_BadText___init__) .none kV_BadText___init__ dc_BadText___init__ pm_BadText___init__ an_BadText___init__ cd_BadText___init__ ct_BadText___init__), sl_BadText___init__⟩) (c_BadText___init__ : PySem.W.codeIn K cd_BadText___init__ "BadText.__init__" = true) (k_BadText___init__ : PySem.W.keepIn K (.ref f_BadText___init__) = true)
    (a_NoLine___init__ : PySem.W.findIn K (.ref c_NoLine) "__init__" = some (some (.ref f_NoLine___init__))) (i_NoLine___init__ : PySem.W.isFn K (.ref f_NoLine___init__) = true) (l_NoLine___init__ : K.lookup f_NoLine___init__ = some ⟨oc_NoLine___init__, od_NoLine___init__, .func (PySem.W.fnOf "__init__" "NoLine.__init__" (defArgs s_NoLine___init__) (defBody s_NoLine___init__) (defScope s_NoLine___init__) .none kV_NoLine___init__ dc_NoLine___init__ pm_NoLine___init__ an_NoLine___init__ cd_NoLine___init__ ct_NoLine___init__), sl_NoLine___init__⟩) (c_NoLine___init__ : PySem.W.codeIn K cd_NoLine___init__ "NoLine.__init__" = true) (k_NoLine___init__ : PySem.W.keepIn K (.ref f_NoLine___init__) = true)
    (a_NoName___init__ : PySem.W.findIn K (.ref c_NoName) "__init__" = some (some (.ref f_NoName___init__))) (i_NoName___init__ : PySem.W.isFn K (.ref f_NoName___init__) = true) (l_NoName___init__ : K.lookup f_NoName___init__ = some ⟨oc_NoName___init__, od_NoName___init__, .func (PySem.W.fnOf "__init__" "NoName.__init__" (defArgs s_NoName___init__) (defBody s_NoName___init__) (defScope s_NoName___init__) .none kV_NoName___init__ dc_NoName___init__ pm_NoName___init__ an_NoName___init__ cd_NoName___init__ ct_NoName___init__), sl_NoName___init__⟩) (c_NoName___init__ : PySem.W.codeIn K cd_NoName___init__ "NoName.__init__" = true) (k_NoName___init__ : PySem.W.keepIn K (.ref f_NoName___init__) = true)
    (a_BadTree___init__ : PySem.W.findIn K (.ref c_BadTree) "__init__" = some (some (.ref f_BadTree___init__))) (i_BadTree___init__ : PySem.W.isFn K (.ref f_BadTree___init__) = true) (l_BadTree___init__ : K.lookup f_BadTree___init__ = some ⟨oc_BadTree___init__, od_BadTree___init__, .func (PySem.W.fnOf "__init__" "BadTree.__init__" (defArgs s_BadTree___init__) (defBody s_BadTree___init__) (defScope s_BadTree___init__) .none kV_BadTree___init__ dc_BadTree___init__ pm_BadTree___init__ an_BadTree___init__ cd_BadTree___init__ ct_BadTree___init__), sl_BadTree___init__⟩) (c_BadTree___init__ : PySem.W.codeIn K cd_BadTree___init__ "BadTree.__init__" = true) (k_BadTree___init__ : PySem.W.keepIn K (.ref f_BadTree___init__) = true)
    (a_NoDoorings___init__ : PySem.W.findIn K (.ref c_NoDoorings) "__init__" = some (some (.ref f_NoDoorings___init__))) (i_NoDoorings___init__ : PySem.W.isFn K (.ref f_NoDoorings___init__) = true) (l_NoDoorings___init__ : K.lookup f_NoDoorings___init__ = some ⟨oc_NoDoorings___init__, od_NoDoorings___init__, .func (PySem.W.fnOf "__init__" "NoDoorings.__init__" (defArgs s_NoDoorings___init__) (defBody s_NoDoorings___init__) (defScope s_NoDoorings___init__) .none kV_NoDoorings___init__ dc_NoDoorings___init__ pm_NoDoorings___init__ an_NoDoorings___init__ cd_NoDoorings___init__ ct_NoDoorings___init__), sl_NoDoorings___init__⟩) (c_NoDoorings___init__ : PySem.W.codeIn K cd_NoDoorings___init__ "NoDoorings.__init__" = true) (k_NoDoorings___init__ : PySem.W.keepIn K (.ref f_NoDoorings___init__) = true)
    (a_NoLong___init__ : PySem.W.findIn K (.ref c_NoLong) "__init__" = some (some (.ref f_NoLong___init__))) (i_NoLong___init__ : PySem.W.isFn K (.ref f_NoLong___init__) = true) (l_NoLong___init__ : K.lookup f_NoLong___init__ = some ⟨oc_NoLong___init__, od_NoLong___init__, .func (PySem.W.fnOf "__init__" "NoLong.__init__" (defArgs s_NoLong___init__) (defBody s_NoLong___init__) (defScope s_NoLong___init__) .none kV_NoLong___init__ dc_NoLong___init__ pm_NoLong___init__ an_NoLong___init__ cd_NoLong___init__ ct_NoLong___init__), sl_NoLong___init__⟩) (c_NoLong___init__ : PySem.W.codeIn K cd_NoLong___init__ "NoLong.__init__" = true) (k_NoLong___init__ : PySem.W.keepIn K (.ref f_NoLong___init__) = true)
    (a_NoPrices___init__ : PySem.W.findIn K (.ref c_NoPrices) "__init__" = some (some (.ref f_NoPrices___init__))) (i_NoPrices___init__ : PySem.W.isFn K (.ref f_NoPrices___init__) = true) (l_NoPrices___init__ : K.lookup f_NoPrices___init__ = some ⟨oc_NoPrices___init__, od_NoPrices___init__, .func (PySem.W.fnOf "__init__" "NoPrices.__init__" (defArgs s_NoPrices___init__) (defBody s_NoPrices___init__) (defScope s_NoPrices___init__) .none kV_NoPrices___init__ dc_NoPrices___init__ pm_NoPrices___init__ an_NoPrices___init__ cd_NoPrices___init__ ct_NoPrices___init__), sl_NoPrices___init__⟩) (c_NoPrices___init__ : PySem.W.codeIn K cd_NoPrices___init__ "NoPrices.__init__" = true) (k_NoPrices___init__ : PySem.W.keepIn K (.ref f_NoPrices___init__) = true)
    (a_OtherTables___init__ : PySem.W.findIn K (.ref c_OtherTables) "__init__" = some (some (.ref f_OtherTables___init__))) (i_OtherTables___init__ : PySem.W.isFn K (.ref f_OtherTables___init__) = true) (l_OtherTables___init__ : K.lookup f_OtherTables___init__ = some ⟨oc_OtherTables___init__, od_OtherTables___init__, .func (PySem.W.fnOf "__init__" "OtherTables.__init__" (defArgs s_OtherTables___init__) (defBody s_OtherTables___init__) (defScope s_OtherTables___init__) .none kV_OtherTables___init__ dc_OtherTables___init__ pm_OtherTables___init__ an_OtherTables___init__ cd_OtherTables___init__ ct_OtherTables___init__), sl_OtherTables___init__⟩) (c_OtherTables___init__ : PySem.W.codeIn K cd_OtherTables___init__ "OtherTables.__init__" = true) (k_OtherTables___init__ : PySem.W.keepIn K (.ref f_OtherTables___init__) = true)
    (a_NoTables___init__ : PySem.W.findIn K (.ref c_NoTables) "__init__" = some (some (.ref f_NoTables___init__))) (i_NoTables___init__ : PySem.W.isFn K (.ref f_NoTables___init__) = true) (l_NoTables___init__ : K.lookup f_NoTables___init__ = some ⟨oc_NoTables___init__, od_NoTables___init__, .func (PySem.W.fnOf "__init__" "NoTables.__init__" (defArgs s_NoTables___init__) (defBody s_NoTables___init__) (defScope s_NoTables___init__) .none kV_NoTables___init__ dc_NoTables___init__ pm_NoTables___init__ an_NoTables___init__ cd_NoTables___init__ ct_NoTables___init__), sl_NoTables___init__⟩) (c_NoTables___init__ : PySem.W.codeIn K cd_NoTables___init__ "NoTables.__init__" = true) (k_NoTables___init__ : PySem.W.keepIn K (.ref f_NoTables___init__) = true)
    (a_NoTable___init__ : PySem.W.findIn K (.ref c_NoTable) "__init__" = some (some (.ref f_NoTable___init__))) (i_NoTable___init__ : PySem.W.isFn K (.ref f_NoTable___init__) = true) (l_NoTable___init__ : K.lookup f_NoTable___init__ = some ⟨oc_NoTable___init__, od_NoTable___init__, .func (PySem.W.fnOf "__init__" "NoTable.__init__" (defArgs s_NoTable___init__) (defBody s_NoTable___init__) (defScope s_NoTable___init__) .none kV_NoTable___init__ dc_NoTable___init__ pm_NoTable___init__ an_NoTable___init__ cd_NoTable___init__ ct_NoTable___init__), sl_NoTable___init__⟩) (c_NoTable___init__ : PySem.W.codeIn K cd_NoTable___init__ "NoTable.__init__" = true) (k_NoTable___init__ : PySem.W.keepIn K (.ref f_NoTable___init__) = true)
    (z_ValueError : PySem.W.nsIn K mainGlobals "ValueError" = some none)
    (z_bool : PySem.W.nsIn K mainGlobals "bool" = some none)
    (z_int : PySem.W.nsIn K mainGlobals "int" = some none)
    (z_isinstance : PySem.W.nsIn K mainGlobals "isinstance" = some none)
    (z_len : PySem.W.nsIn K mainGlobals "len" = some none)
    (z_list : PySem.W.nsIn K mainGlobals "list" = some none)
    (z_range : PySem.W.nsIn K mainGlobals "range" = some none)
    (y_BadTable : PySem.W.nsIn K mainGlobals "BadTable" = some (some (.ref c_BadTable)))
    (y_BadText : PySem.W.nsIn K mainGlobals "BadText" = some (some (.ref c_BadText)))
    (y_BadTree : PySem.W.nsIn K mainGlobals "BadTree" = some (some (.ref c_BadTree)))
    (y_LoopError : PySem.W.nsIn K mainGlobals "LoopError" = some (some (.ref c_LoopError)))
    (y_Meet : PySem.W.nsIn K mainGlobals "Meet" = some (some (.ref c_Meet)))
    (y_NoBound : PySem.W.nsIn K mainGlobals "NoBound" = some (some (.ref c_NoBound)))
    (y_NoComers : PySem.W.nsIn K mainGlobals "NoComers" = some (some (.ref c_NoComers)))
    (y_NoComings : PySem.W.nsIn K mainGlobals "NoComings" = some (some (.ref c_NoComings)))
    (y_NoDay : PySem.W.nsIn K mainGlobals "NoDay" = some (some (.ref c_NoDay)))
    (y_NoDoorings : PySem.W.nsIn K mainGlobals "NoDoorings" = some (some (.ref c_NoDoorings)))
    (y_NoFraction : PySem.W.nsIn K mainGlobals "NoFraction" = some (some (.ref c_NoFraction)))
    (y_NoLaying : PySem.W.nsIn K mainGlobals "NoLaying" = some (some (.ref c_NoLaying)))
    (y_NoLetter : PySem.W.nsIn K mainGlobals "NoLetter" = some (some (.ref c_NoLetter)))
    (y_NoLine : PySem.W.nsIn K mainGlobals "NoLine" = some (some (.ref c_NoLine)))
    (y_NoLong : PySem.W.nsIn K mainGlobals "NoLong" = some (some (.ref c_NoLong)))
    (y_NoLoop : PySem.W.nsIn K mainGlobals "NoLoop" = some (some (.ref c_NoLoop)))
    (y_NoLoops : PySem.W.nsIn K mainGlobals "NoLoops" = some (some (.ref c_NoLoops)))
    (y_NoName : PySem.W.nsIn K mainGlobals "NoName" = some (some (.ref c_NoName)))
    (y_NoNumber : PySem.W.nsIn K mainGlobals "NoNumber" = some (some (.ref c_NoNumber)))
    (y_NoPlan : PySem.W.nsIn K mainGlobals "NoPlan" = some (some (.ref c_NoPlan)))
    (y_NoPrices : PySem.W.nsIn K mainGlobals "NoPrices" = some (some (.ref c_NoPrices)))
    (y_NoRow : PySem.W.nsIn K mainGlobals "NoRow" = some (some (.ref c_NoRow)))
    (y_NoSpot : PySem.W.nsIn K mainGlobals "NoSpot" = some (some (.ref c_NoSpot)))
    (y_NoStand : PySem.W.nsIn K mainGlobals "NoStand" = some (some (.ref c_NoStand)))
    (y_NoTable : PySem.W.nsIn K mainGlobals "NoTable" = some (some (.ref c_NoTable)))
    (y_NoTables : PySem.W.nsIn K mainGlobals "NoTables" = some (some (.ref c_NoTables)))
    (y_NoTick : PySem.W.nsIn K mainGlobals "NoTick" = some (some (.ref c_NoTick)))
    (y_NoTold : PySem.W.nsIn K mainGlobals "NoTold" = some (some (.ref c_NoTold)))
    (y_NoTotal : PySem.W.nsIn K mainGlobals "NoTotal" = some (some (.ref c_NoTotal)))
    (y_NoWait : PySem.W.nsIn K mainGlobals "NoWait" = some (some (.ref c_NoWait)))
    (y_NoWalk : PySem.W.nsIn K mainGlobals "NoWalk" = some (some (.ref c_NoWalk)))
    (y_NoWeights : PySem.W.nsIn K mainGlobals "NoWeights" = some (some (.ref c_NoWeights)))
    (y_NotDoubling : PySem.W.nsIn K mainGlobals "NotDoubling" = some (some (.ref c_NotDoubling)))
    (y_NotKept : PySem.W.nsIn K mainGlobals "NotKept" = some (some (.ref c_NotKept)))
    (y_NotLost : PySem.W.nsIn K mainGlobals "NotLost" = some (some (.ref c_NotLost)))
    (y_NothingDone : PySem.W.nsIn K mainGlobals "NothingDone" = some (some (.ref c_NothingDone)))
    (y_OtherBounds : PySem.W.nsIn K mainGlobals "OtherBounds" = some (some (.ref c_OtherBounds)))
    (y_OtherTables : PySem.W.nsIn K mainGlobals "OtherTables" = some (some (.ref c_OtherTables)))
    (y_Over : PySem.W.nsIn K mainGlobals "Over" = some (some (.ref c_Over)))
    (y_TooMany : PySem.W.nsIn K mainGlobals "TooMany" = some (some (.ref c_TooMany)))
    {nm_NoComers q_NoComers : Str} {N_NoComers : Addr} {bs_NoComers : List Value} {sn_NoComers : List Str} {sub_NoComers : List Value} {ab_NoComers : Bool} {col_NoComers : Option Bool} {dd_NoComers : Option Addr} {m0_NoComers m1_NoComers m2_NoComers m3_NoComers m5_NoComers : Option Value}
    (xL_NoComers : K.lookup c_NoComers = some (excClassObj nm_NoComers q_NoComers c_NoComers N_NoComers bs_NoComers [.ref c_LoopError, .type "ValueError", .type "Exception", .type "BaseException", .type "object"] true sn_NoComers sub_NoComers ab_NoComers col_NoComers dd_NoComers m0_NoComers m1_NoComers m2_NoComers m3_NoComers m5_NoComers "ValueError.__new__"))
    (sa_NoComers : PySem.W.findIn K (.ref c_NoComers) "__setattr__" = some (some (.builtin "object.__setattr__"))) (tf_NoComers : PySem.W.typeIn K (.ref f_NoComers___init__) = some (.type "function")) (kC_NoComers : PySem.W.keepIn K (.ref c_NoComers) = true) (eC_NoComers : PySem.W.subIn K (.ref c_NoComers) (.type "BaseException") = some true) (tC_NoComers : PySem.W.typeIn K (.ref c_NoComers) = some (.type "type")) (iC_NoComers : PySem.W.isClsIn K c_NoComers = true) (sC_NoComers : PySem.W.subIn K (.ref c_NoComers) (.ref c_NoComers) = some true)
    {nm_NoBound q_NoBound : Str} {N_NoBound : Addr} {bs_NoBound : List Value} {sn_NoBound : List Str} {sub_NoBound : List Value} {ab_NoBound : Bool} {col_NoBound : Option Bool} {dd_NoBound : Option Addr} {m0_NoBound m1_NoBound m2_NoBound m3_NoBound m5_NoBound : Option Value}
    (xL_NoBound : K.lookup c_NoBound = some (excClassObj nm_NoBound q_NoBound c_NoBound N_NoBound bs_NoBound [.ref c_LoopError, .type "ValueError", .type "Exception", .type "BaseException", .type "object"] true sn_NoBound sub_NoBound ab_NoBound col_NoBound dd_NoBound m0_NoBound m1_NoBound m2_NoBound m3_NoBound m5_NoBound "ValueError.__new__"))
    (sa_NoBound : PySem.W.findIn K (.ref c_NoBound) "__setattr__" = some (some (.builtin "object.__setattr__"))) (tf_NoBound : PySem.W.typeIn K (.ref f_NoBound___init__) = some (.type "function")) (kC_NoBound : PySem.W.keepIn K (.ref c_NoBound) = true) (eC_NoBound : PySem.W.subIn K (.ref c_NoBound) (.type "BaseException") = some true) (tC_NoBound : PySem.W.typeIn K (.ref c_NoBound) = some (.type "type")) (iC_NoBound : PySem.W.isClsIn K c_NoBound = true) (sC_NoBound : PySem.W.subIn K (.ref c_NoBound) (.ref c_NoBound) = some true)
    {nm_NoComings q_NoComings : Str} {N_NoComings : Addr} {bs_NoComings : List Value} {sn_NoComings : List Str} {sub_NoComings : List Value} {ab_NoComings : Bool} {col_NoComings : Option Bool} {dd_NoComings : Option Addr} {m0_NoComings m1_NoComings m2_NoComings m3_NoComings m5_NoComings : Option Value}
    (xL_NoComings : K.lookup c_NoComings = some (excClassObj nm_NoComings q_NoComings c_NoComings N_NoComings bs_NoComings [.ref c_LoopError, .type "ValueError", .type "Exception", .type "BaseException", .type "object"] true sn_NoComings sub_NoComings ab_NoComings col_NoComings dd_NoComings m0_NoComings m1_NoComings m2_NoComings m3_NoComings m5_NoComings "ValueError.__new__"))
    (sa_NoComings : PySem.W.findIn K (.ref c_NoComings) "__setattr__" = some (some (.builtin "object.__setattr__"))) (tf_NoComings : PySem.W.typeIn K (.ref f_NoComings___init__) = some (.type "function")) (kC_NoComings : PySem.W.keepIn K (.ref c_NoComings) = true) (eC_NoComings : PySem.W.subIn K (.ref c_NoComings) (.type "BaseException") = some true) (tC_NoComings : PySem.W.typeIn K (.ref c_NoComings) = some (.type "type")) (iC_NoComings : PySem.W.isClsIn K c_NoComings = true) (sC_NoComings : PySem.W.subIn K (.ref c_NoComings) (.ref c_NoComings) = some true)
    {nm_NoSpot q_NoSpot : Str} {N_NoSpot : Addr} {bs_NoSpot : List Value} {sn_NoSpot : List Str} {sub_NoSpot : List Value} {ab_NoSpot : Bool} {col_NoSpot : Option Bool} {dd_NoSpot : Option Addr} {m0_NoSpot m1_NoSpot m2_NoSpot m3_NoSpot m5_NoSpot : Option Value}
    (xL_NoSpot : K.lookup c_NoSpot = some (excClassObj nm_NoSpot q_NoSpot c_NoSpot N_NoSpot bs_NoSpot [.ref c_LoopError, .type "ValueError", .type "Exception", .type "BaseException", .type "object"] true sn_NoSpot sub_NoSpot ab_NoSpot col_NoSpot dd_NoSpot m0_NoSpot m1_NoSpot m2_NoSpot m3_NoSpot m5_NoSpot "ValueError.__new__"))
    (sa_NoSpot : PySem.W.findIn K (.ref c_NoSpot) "__setattr__" = some (some (.builtin "object.__setattr__"))) (tf_NoSpot : PySem.W.typeIn K (.ref f_NoSpot___init__) = some (.type "function")) (kC_NoSpot : PySem.W.keepIn K (.ref c_NoSpot) = true) (eC_NoSpot : PySem.W.subIn K (.ref c_NoSpot) (.type "BaseException") = some true) (tC_NoSpot : PySem.W.typeIn K (.ref c_NoSpot) = some (.type "type")) (iC_NoSpot : PySem.W.isClsIn K c_NoSpot = true) (sC_NoSpot : PySem.W.subIn K (.ref c_NoSpot) (.ref c_NoSpot) = some true)
    {nm_NoWalk q_NoWalk : Str} {N_NoWalk : Addr} {bs_NoWalk : List Value} {sn_NoWalk : List Str} {sub_NoWalk : List Value} {ab_NoWalk : Bool} {col_NoWalk : Option Bool} {dd_NoWalk : Option Addr} {m0_NoWalk m1_NoWalk m2_NoWalk m3_NoWalk m5_NoWalk : Option Value}
    (xL_NoWalk : K.lookup c_NoWalk = some (excClassObj nm_NoWalk q_NoWalk c_NoWalk N_NoWalk bs_NoWalk [.ref c_LoopError, .type "ValueError", .type "Exception", .type "BaseException", .type "object"] true sn_NoWalk sub_NoWalk ab_NoWalk col_NoWalk dd_NoWalk m0_NoWalk m1_NoWalk m2_NoWalk m3_NoWalk m5_NoWalk "ValueError.__new__"))
    (sa_NoWalk : PySem.W.findIn K (.ref c_NoWalk) "__setattr__" = some (some (.builtin "object.__setattr__"))) (tf_NoWalk : PySem.W.typeIn K (.ref f_NoWalk___init__) = some (.type "function")) (kC_NoWalk : PySem.W.keepIn K (.ref c_NoWalk) = true) (eC_NoWalk : PySem.W.subIn K (.ref c_NoWalk) (.type "BaseException") = some true) (tC_NoWalk : PySem.W.typeIn K (.ref c_NoWalk) = some (.type "type")) (iC_NoWalk : PySem.W.isClsIn K c_NoWalk = true) (sC_NoWalk : PySem.W.subIn K (.ref c_NoWalk) (.ref c_NoWalk) = some true)
    {nm_NoTick q_NoTick : Str} {N_NoTick : Addr} {bs_NoTick : List Value} {sn_NoTick : List Str} {sub_NoTick : List Value} {ab_NoTick : Bool} {col_NoTick : Option Bool} {dd_NoTick : Option Addr} {m0_NoTick m1_NoTick m2_NoTick m3_NoTick m5_NoTick : Option Value}
    (xL_NoTick : K.lookup c_NoTick = some (excClassObj nm_NoTick q_NoTick c_NoTick N_NoTick bs_NoTick [.ref c_LoopError, .type "ValueError", .type "Exception", .type "BaseException", .type "object"] true sn_NoTick sub_NoTick ab_NoTick col_NoTick dd_NoTick m0_NoTick m1_NoTick m2_NoTick m3_NoTick m5_NoTick "ValueError.__new__"))
    (sa_NoTick : PySem.W.findIn K (.ref c_NoTick) "__setattr__" = some (some (.builtin "object.__setattr__"))) (tf_NoTick : PySem.W.typeIn K (.ref f_NoTick___init__) = some (.type "function")) (kC_NoTick : PySem.W.keepIn K (.ref c_NoTick) = true) (eC_NoTick : PySem.W.subIn K (.ref c_NoTick) (.type "BaseException") = some true) (tC_NoTick : PySem.W.typeIn K (.ref c_NoTick) = some (.type "type")) (iC_NoTick : PySem.W.isClsIn K c_NoTick = true) (sC_NoTick : PySem.W.subIn K (.ref c_NoTick) (.ref c_NoTick) = some true)
    {nm_NoLoops q_NoLoops : Str} {N_NoLoops : Addr} {bs_NoLoops : List Value} {sn_NoLoops : List Str} {sub_NoLoops : List Value} {ab_NoLoops : Bool} {col_NoLoops : Option Bool} {dd_NoLoops : Option Addr} {m0_NoLoops m1_NoLoops m2_NoLoops m3_NoLoops m5_NoLoops : Option Value}
    (xL_NoLoops : K.lookup c_NoLoops = some (excClassObj nm_NoLoops q_NoLoops c_NoLoops N_NoLoops bs_NoLoops [.ref c_LoopError, .type "ValueError", .type "Exception", .type "BaseException", .type "object"] true sn_NoLoops sub_NoLoops ab_NoLoops col_NoLoops dd_NoLoops m0_NoLoops m1_NoLoops m2_NoLoops m3_NoLoops m5_NoLoops "ValueError.__new__"))
    (sa_NoLoops : PySem.W.findIn K (.ref c_NoLoops) "__setattr__" = some (some (.builtin "object.__setattr__"))) (tf_NoLoops : PySem.W.typeIn K (.ref f_NoLoops___init__) = some (.type "function")) (kC_NoLoops : PySem.W.keepIn K (.ref c_NoLoops) = true) (eC_NoLoops : PySem.W.subIn K (.ref c_NoLoops) (.type "BaseException") = some true) (tC_NoLoops : PySem.W.typeIn K (.ref c_NoLoops) = some (.type "type")) (iC_NoLoops : PySem.W.isClsIn K c_NoLoops = true) (sC_NoLoops : PySem.W.subIn K (.ref c_NoLoops) (.ref c_NoLoops) = some true)
    {nm_NotDoubling q_NotDoubling : Str} {N_NotDoubling : Addr} {bs_NotDoubling : List Value} {sn_NotDoubling : List Str} {sub_NotDoubling : List Value} {ab_NotDoubling : Bool} {col_NotDoubling : Option Bool} {dd_NotDoubling : Option Addr} {m0_NotDoubling m1_NotDoubling m2_NotDoubling m3_NotDoubling m5_NotDoubling : Option Value}
    (xL_NotDoubling : K.lookup c_NotDoubling = some (excClassObj nm_NotDoubling q_NotDoubling c_NotDoubling N_NotDoubling bs_NotDoubling [.ref c_LoopError, .type "ValueError", .type "Exception", .type "BaseException", .type "object"] true sn_NotDoubling sub_NotDoubling ab_NotDoubling col_NotDoubling dd_NotDoubling m0_NotDoubling m1_NotDoubling m2_NotDoubling m3_NotDoubling m5_NotDoubling "ValueError.__new__"))
    (sa_NotDoubling : PySem.W.findIn K (.ref c_NotDoubling) "__setattr__" = some (some (.builtin "object.__setattr__"))) (tf_NotDoubling : PySem.W.typeIn K (.ref f_NotDoubling___init__) = some (.type "function")) (kC_NotDoubling : PySem.W.keepIn K (.ref c_NotDoubling) = true) (eC_NotDoubling : PySem.W.subIn K (.ref c_NotDoubling) (.type "BaseException") = some true) (tC_NotDoubling : PySem.W.typeIn K (.ref c_NotDoubling) = some (.type "type")) (iC_NotDoubling : PySem.W.isClsIn K c_NotDoubling = true) (sC_NotDoubling : PySem.W.subIn K (.ref c_NotDoubling) (.ref c_NotDoubling) = some true)
    {nm_NoWait q_NoWait : Str} {N_NoWait : Addr} {bs_NoWait : List Value} {sn_NoWait : List Str} {sub_NoWait : List Value} {ab_NoWait : Bool} {col_NoWait : Option Bool} {dd_NoWait : Option Addr} {m0_NoWait m1_NoWait m2_NoWait m3_NoWait m5_NoWait : Option Value}
    (xL_NoWait : K.lookup c_NoWait = some (excClassObj nm_NoWait q_NoWait c_NoWait N_NoWait bs_NoWait [.ref c_LoopError, .type "ValueError", .type "Exception", .type "BaseException", .type "object"] true sn_NoWait sub_NoWait ab_NoWait col_NoWait dd_NoWait m0_NoWait m1_NoWait m2_NoWait m3_NoWait m5_NoWait "ValueError.__new__"))
    (sa_NoWait : PySem.W.findIn K (.ref c_NoWait) "__setattr__" = some (some (.builtin "object.__setattr__"))) (tf_NoWait : PySem.W.typeIn K (.ref f_NoWait___init__) = some (.type "function")) (kC_NoWait : PySem.W.keepIn K (.ref c_NoWait) = true) (eC_NoWait : PySem.W.subIn K (.ref c_NoWait) (.type "BaseException") = some true) (tC_NoWait : PySem.W.typeIn K (.ref c_NoWait) = some (.type "type")) (iC_NoWait : PySem.W.isClsIn K c_NoWait = true) (sC_NoWait : PySem.W.subIn K (.ref c_NoWait) (.ref c_NoWait) = some true)
    {nm_NoTotal q_NoTotal : Str} {N_NoTotal : Addr} {bs_NoTotal : List Value} {sn_NoTotal : List Str} {sub_NoTotal : List Value} {ab_NoTotal : Bool} {col_NoTotal : Option Bool} {dd_NoTotal : Option Addr} {m0_NoTotal m1_NoTotal m2_NoTotal m3_NoTotal m5_NoTotal : Option Value}
    (xL_NoTotal : K.lookup c_NoTotal = some (excClassObj nm_NoTotal q_NoTotal c_NoTotal N_NoTotal bs_NoTotal [.ref c_LoopError, .type "ValueError", .type "Exception", .type "BaseException", .type "object"] true sn_NoTotal sub_NoTotal ab_NoTotal col_NoTotal dd_NoTotal m0_NoTotal m1_NoTotal m2_NoTotal m3_NoTotal m5_NoTotal "ValueError.__new__"))
    (sa_NoTotal : PySem.W.findIn K (.ref c_NoTotal) "__setattr__" = some (some (.builtin "object.__setattr__"))) (tf_NoTotal : PySem.W.typeIn K (.ref f_NoTotal___init__) = some (.type "function")) (kC_NoTotal : PySem.W.keepIn K (.ref c_NoTotal) = true) (eC_NoTotal : PySem.W.subIn K (.ref c_NoTotal) (.type "BaseException") = some true) (tC_NoTotal : PySem.W.typeIn K (.ref c_NoTotal) = some (.type "type")) (iC_NoTotal : PySem.W.isClsIn K c_NoTotal = true) (sC_NoTotal : PySem.W.subIn K (.ref c_NoTotal) (.ref c_NoTotal) = some true)
    {nm_NoRow q_NoRow : Str} {N_NoRow : Addr} {bs_NoRow : List Value} {sn_NoRow : List Str} {sub_NoRow : List Value} {ab_NoRow : Bool} {col_NoRow : Option Bool} {dd_NoRow : Option Addr} {m0_NoRow m1_NoRow m2_NoRow m3_NoRow m5_NoRow : Option Value}
    (xL_NoRow : K.lookup c_NoRow = some (excClassObj nm_NoRow q_NoRow c_NoRow N_NoRow bs_NoRow [.ref c_LoopError, .type "ValueError", .type "Exception", .type "BaseException", .type "object"] true sn_NoRow sub_NoRow ab_NoRow col_NoRow dd_NoRow m0_NoRow m1_NoRow m2_NoRow m3_NoRow m5_NoRow "ValueError.__new__"))
    (sa_NoRow : PySem.W.findIn K (.ref c_NoRow) "__setattr__" = some (some (.builtin "object.__setattr__"))) (tf_NoRow : PySem.W.typeIn K (.ref f_NoRow___init__) = some (.type "function")) (kC_NoRow : PySem.W.keepIn K (.ref c_NoRow) = true) (eC_NoRow : PySem.W.subIn K (.ref c_NoRow) (.type "BaseException") = some true) (tC_NoRow : PySem.W.typeIn K (.ref c_NoRow) = some (.type "type")) (iC_NoRow : PySem.W.isClsIn K c_NoRow = true) (sC_NoRow : PySem.W.subIn K (.ref c_NoRow) (.ref c_NoRow) = some true)
    {nm_NoTold q_NoTold : Str} {N_NoTold : Addr} {bs_NoTold : List Value} {sn_NoTold : List Str} {sub_NoTold : List Value} {ab_NoTold : Bool} {col_NoTold : Option Bool} {dd_NoTold : Option Addr} {m0_NoTold m1_NoTold m2_NoTold m3_NoTold m5_NoTold : Option Value}
    (xL_NoTold : K.lookup c_NoTold = some (excClassObj nm_NoTold q_NoTold c_NoTold N_NoTold bs_NoTold [.ref c_LoopError, .type "ValueError", .type "Exception", .type "BaseException", .type "object"] true sn_NoTold sub_NoTold ab_NoTold col_NoTold dd_NoTold m0_NoTold m1_NoTold m2_NoTold m3_NoTold m5_NoTold "ValueError.__new__"))
    (sa_NoTold : PySem.W.findIn K (.ref c_NoTold) "__setattr__" = some (some (.builtin "object.__setattr__"))) (tf_NoTold : PySem.W.typeIn K (.ref f_NoTold___init__) = some (.type "function")) (kC_NoTold : PySem.W.keepIn K (.ref c_NoTold) = true) (eC_NoTold : PySem.W.subIn K (.ref c_NoTold) (.type "BaseException") = some true) (tC_NoTold : PySem.W.typeIn K (.ref c_NoTold) = some (.type "type")) (iC_NoTold : PySem.W.isClsIn K c_NoTold = true) (sC_NoTold : PySem.W.subIn K (.ref c_NoTold) (.ref c_NoTold) = some true)
    {nm_NoStand q_NoStand : Str} {N_NoStand : Addr} {bs_NoStand : List Value} {sn_NoStand : List Str} {sub_NoStand : List Value} {ab_NoStand : Bool} {col_NoStand : Option Bool} {dd_NoStand : Option Addr} {m0_NoStand m1_NoStand m2_NoStand m3_NoStand m5_NoStand : Option Value}
    (xL_NoStand : K.lookup c_NoStand = some (excClassObj nm_NoStand q_NoStand c_NoStand N_NoStand bs_NoStand [.ref c_LoopError, .type "ValueError", .type "Exception", .type "BaseException", .type "object"] true sn_NoStand sub_NoStand ab_NoStand col_NoStand dd_NoStand m0_NoStand m1_NoStand m2_NoStand m3_NoStand m5_NoStand "ValueError.__new__"))
    (sa_NoStand : PySem.W.findIn K (.ref c_NoStand) "__setattr__" = some (some (.builtin "object.__setattr__"))) (tf_NoStand : PySem.W.typeIn K (.ref f_NoStand___init__) = some (.type "function")) (kC_NoStand : PySem.W.keepIn K (.ref c_NoStand) = true) (eC_NoStand : PySem.W.subIn K (.ref c_NoStand) (.type "BaseException") = some true) (tC_NoStand : PySem.W.typeIn K (.ref c_NoStand) = some (.type "type")) (iC_NoStand : PySem.W.isClsIn K c_NoStand = true) (sC_NoStand : PySem.W.subIn K (.ref c_NoStand) (.ref c_NoStand) = some true)
    {nm_NoNumber q_NoNumber : Str} {N_NoNumber : Addr} {bs_NoNumber : List Value} {sn_NoNumber : List Str} {sub_NoNumber : List Value} {ab_NoNumber : Bool} {col_NoNumber : Option Bool} {dd_NoNumber : Option Addr} {m0_NoNumber m1_NoNumber m2_NoNumber m3_NoNumber m5_NoNumber : Option Value}
    (xL_NoNumber : K.lookup c_NoNumber = some (excClassObj nm_NoNumber q_NoNumber c_NoNumber N_NoNumber bs_NoNumber [.ref c_LoopError, .type "ValueError", .type "Exception", .type "BaseException", .type "object"] true sn_NoNumber sub_NoNumber ab_NoNumber col_NoNumber dd_NoNumber m0_NoNumber m1_NoNumber m2_NoNumber m3_NoNumber m5_NoNumber "ValueError.__new__"))
    (sa_NoNumber : PySem.W.findIn K (.ref c_NoNumber) "__setattr__" = some (some (.builtin "object.__setattr__"))) (tf_NoNumber : PySem.W.typeIn K (.ref f_NoNumber___init__) = some (.type "function")) (kC_NoNumber : PySem.W.keepIn K (.ref c_NoNumber) = true) (eC_NoNumber : PySem.W.subIn K (.ref c_NoNumber) (.type "BaseException") = some true) (tC_NoNumber : PySem.W.typeIn K (.ref c_NoNumber) = some (.type "type")) (iC_NoNumber : PySem.W.isClsIn K c_NoNumber = true) (sC_NoNumber : PySem.W.subIn K (.ref c_NoNumber) (.ref c_NoNumber) = some true)
    {nm_NoLaying q_NoLaying : Str} {N_NoLaying : Addr} {bs_NoLaying : List Value} {sn_NoLaying : List Str} {sub_NoLaying : List Value} {ab_NoLaying : Bool} {col_NoLaying : Option Bool} {dd_NoLaying : Option Addr} {m0_NoLaying m1_NoLaying m2_NoLaying m3_NoLaying m5_NoLaying : Option Value}
    (xL_NoLaying : K.lookup c_NoLaying = some (excClassObj nm_NoLaying q_NoLaying c_NoLaying N_NoLaying bs_NoLaying [.ref c_LoopError, .type "ValueError", .type "Exception", .type "BaseException", .type "object"] true sn_NoLaying sub_NoLaying ab_NoLaying col_NoLaying dd_NoLaying m0_NoLaying m1_NoLaying m2_NoLaying m3_NoLaying m5_NoLaying "ValueError.__new__"))
    (sa_NoLaying : PySem.W.findIn K (.ref c_NoLaying) "__setattr__" = some (some (.builtin "object.__setattr__"))) (tf_NoLaying : PySem.W.typeIn K (.ref f_NoLaying___init__) = some (.type "function")) (kC_NoLaying : PySem.W.keepIn K (.ref c_NoLaying) = true) (eC_NoLaying : PySem.W.subIn K (.ref c_NoLaying) (.type "BaseException") = some true) (tC_NoLaying : PySem.W.typeIn K (.ref c_NoLaying) = some (.type "type")) (iC_NoLaying : PySem.W.isClsIn K c_NoLaying = true) (sC_NoLaying : PySem.W.subIn K (.ref c_NoLaying) (.ref c_NoLaying) = some true)
    {nm_NoPlan q_NoPlan : Str} {N_NoPlan : Addr} {bs_NoPlan : List Value} {sn_NoPlan : List Str} {sub_NoPlan : List Value} {ab_NoPlan : Bool} {col_NoPlan : Option Bool} {dd_NoPlan : Option Addr} {m0_NoPlan m1_NoPlan m2_NoPlan m3_NoPlan m5_NoPlan : Option Value}
    (xL_NoPlan : K.lookup c_NoPlan = some (excClassObj nm_NoPlan q_NoPlan c_NoPlan N_NoPlan bs_NoPlan [.ref c_LoopError, .type "ValueError", .type "Exception", .type "BaseException", .type "object"] true sn_NoPlan sub_NoPlan ab_NoPlan col_NoPlan dd_NoPlan m0_NoPlan m1_NoPlan m2_NoPlan m3_NoPlan m5_NoPlan "ValueError.__new__"))
    (sa_NoPlan : PySem.W.findIn K (.ref c_NoPlan) "__setattr__" = some (some (.builtin "object.__setattr__"))) (tf_NoPlan : PySem.W.typeIn K (.ref f_NoPlan___init__) = some (.type "function")) (kC_NoPlan : PySem.W.keepIn K (.ref c_NoPlan) = true) (eC_NoPlan : PySem.W.subIn K (.ref c_NoPlan) (.type "BaseException") = some true) (tC_NoPlan : PySem.W.typeIn K (.ref c_NoPlan) = some (.type "type")) (iC_NoPlan : PySem.W.isClsIn K c_NoPlan = true) (sC_NoPlan : PySem.W.subIn K (.ref c_NoPlan) (.ref c_NoPlan) = some true)
    {nm_NotKept q_NotKept : Str} {N_NotKept : Addr} {bs_NotKept : List Value} {sn_NotKept : List Str} {sub_NotKept : List Value} {ab_NotKept : Bool} {col_NotKept : Option Bool} {dd_NotKept : Option Addr} {m0_NotKept m1_NotKept m2_NotKept m3_NotKept m5_NotKept : Option Value}
    (xL_NotKept : K.lookup c_NotKept = some (excClassObj nm_NotKept q_NotKept c_NotKept N_NotKept bs_NotKept [.ref c_LoopError, .type "ValueError", .type "Exception", .type "BaseException", .type "object"] true sn_NotKept sub_NotKept ab_NotKept col_NotKept dd_NotKept m0_NotKept m1_NotKept m2_NotKept m3_NotKept m5_NotKept "ValueError.__new__"))
    (sa_NotKept : PySem.W.findIn K (.ref c_NotKept) "__setattr__" = some (some (.builtin "object.__setattr__"))) (tf_NotKept : PySem.W.typeIn K (.ref f_NotKept___init__) = some (.type "function")) (kC_NotKept : PySem.W.keepIn K (.ref c_NotKept) = true) (eC_NotKept : PySem.W.subIn K (.ref c_NotKept) (.type "BaseException") = some true) (tC_NotKept : PySem.W.typeIn K (.ref c_NotKept) = some (.type "type")) (iC_NotKept : PySem.W.isClsIn K c_NotKept = true) (sC_NotKept : PySem.W.subIn K (.ref c_NotKept) (.ref c_NotKept) = some true)
    {nm_NothingDone q_NothingDone : Str} {N_NothingDone : Addr} {bs_NothingDone : List Value} {sn_NothingDone : List Str} {sub_NothingDone : List Value} {ab_NothingDone : Bool} {col_NothingDone : Option Bool} {dd_NothingDone : Option Addr} {m0_NothingDone m1_NothingDone m2_NothingDone m3_NothingDone m5_NothingDone : Option Value}
    (xL_NothingDone : K.lookup c_NothingDone = some (excClassObj nm_NothingDone q_NothingDone c_NothingDone N_NothingDone bs_NothingDone [.ref c_LoopError, .type "ValueError", .type "Exception", .type "BaseException", .type "object"] true sn_NothingDone sub_NothingDone ab_NothingDone col_NothingDone dd_NothingDone m0_NothingDone m1_NothingDone m2_NothingDone m3_NothingDone m5_NothingDone "ValueError.__new__"))
    (sa_NothingDone : PySem.W.findIn K (.ref c_NothingDone) "__setattr__" = some (some (.builtin "object.__setattr__"))) (tf_NothingDone : PySem.W.typeIn K (.ref f_NothingDone___init__) = some (.type "function")) (kC_NothingDone : PySem.W.keepIn K (.ref c_NothingDone) = true) (eC_NothingDone : PySem.W.subIn K (.ref c_NothingDone) (.type "BaseException") = some true) (tC_NothingDone : PySem.W.typeIn K (.ref c_NothingDone) = some (.type "type")) (iC_NothingDone : PySem.W.isClsIn K c_NothingDone = true) (sC_NothingDone : PySem.W.subIn K (.ref c_NothingDone) (.ref c_NothingDone) = some true)
    {nm_NotLost q_NotLost : Str} {N_NotLost : Addr} {bs_NotLost : List Value} {sn_NotLost : List Str} {sub_NotLost : List Value} {ab_NotLost : Bool} {col_NotLost : Option Bool} {dd_NotLost : Option Addr} {m0_NotLost m1_NotLost m2_NotLost m3_NotLost m5_NotLost : Option Value}
    (xL_NotLost : K.lookup c_NotLost = some (excClassObj nm_NotLost q_NotLost c_NotLost N_NotLost bs_NotLost [.ref c_LoopError, .type "ValueError", .type "Exception", .type "BaseException", .type "object"] true sn_NotLost sub_NotLost ab_NotLost col_NotLost dd_NotLost m0_NotLost m1_NotLost m2_NotLost m3_NotLost m5_NotLost "ValueError.__new__"))
    (sa_NotLost : PySem.W.findIn K (.ref c_NotLost) "__setattr__" = some (some (.builtin "object.__setattr__"))) (tf_NotLost : PySem.W.typeIn K (.ref f_NotLost___init__) = some (.type "function")) (kC_NotLost : PySem.W.keepIn K (.ref c_NotLost) = true) (eC_NotLost : PySem.W.subIn K (.ref c_NotLost) (.type "BaseException") = some true) (tC_NotLost : PySem.W.typeIn K (.ref c_NotLost) = some (.type "type")) (iC_NotLost : PySem.W.isClsIn K c_NotLost = true) (sC_NotLost : PySem.W.subIn K (.ref c_NotLost) (.ref c_NotLost) = some true)
    {nm_Over q_Over : Str} {N_Over : Addr} {bs_Over : List Value} {sn_Over : List Str} {sub_Over : List Value} {ab_Over : Bool} {col_Over : Option Bool} {dd_Over : Option Addr} {m0_Over m1_Over m2_Over m3_Over m5_Over : Option Value}
    (xL_Over : K.lookup c_Over = some (excClassObj nm_Over q_Over c_Over N_Over bs_Over [.ref c_LoopError, .type "ValueError", .type "Exception", .type "BaseException", .type "object"] true sn_Over sub_Over ab_Over col_Over dd_Over m0_Over m1_Over m2_Over m3_Over m5_Over "ValueError.__new__"))
    (sa_Over : PySem.W.findIn K (.ref c_Over) "__setattr__" = some (some (.builtin "object.__setattr__"))) (tf_Over : PySem.W.typeIn K (.ref f_Over___init__) = some (.type "function")) (kC_Over : PySem.W.keepIn K (.ref c_Over) = true) (eC_Over : PySem.W.subIn K (.ref c_Over) (.type "BaseException") = some true) (tC_Over : PySem.W.typeIn K (.ref c_Over) = some (.type "type")) (iC_Over : PySem.W.isClsIn K c_Over = true) (sC_Over : PySem.W.subIn K (.ref c_Over) (.ref c_Over) = some true)
    {nm_NoLoop q_NoLoop : Str} {N_NoLoop : Addr} {bs_NoLoop : List Value} {sn_NoLoop : List Str} {sub_NoLoop : List Value} {ab_NoLoop : Bool} {col_NoLoop : Option Bool} {dd_NoLoop : Option Addr} {m0_NoLoop m1_NoLoop m2_NoLoop m3_NoLoop m5_NoLoop : Option Value}
    (xL_NoLoop : K.lookup c_NoLoop = some (excClassObj nm_NoLoop q_NoLoop c_NoLoop N_NoLoop bs_NoLoop [.ref c_LoopError, .type "ValueError", .type "Exception", .type "BaseException", .type "object"] true sn_NoLoop sub_NoLoop ab_NoLoop col_NoLoop dd_NoLoop m0_NoLoop m1_NoLoop m2_NoLoop m3_NoLoop m5_NoLoop "ValueError.__new__"))
    (sa_NoLoop : PySem.W.findIn K (.ref c_NoLoop) "__setattr__" = some (some (.builtin "object.__setattr__"))) (tf_NoLoop : PySem.W.typeIn K (.ref f_NoLoop___init__) = some (.type "function")) (kC_NoLoop : PySem.W.keepIn K (.ref c_NoLoop) = true) (eC_NoLoop : PySem.W.subIn K (.ref c_NoLoop) (.type "BaseException") = some true) (tC_NoLoop : PySem.W.typeIn K (.ref c_NoLoop) = some (.type "type")) (iC_NoLoop : PySem.W.isClsIn K c_NoLoop = true) (sC_NoLoop : PySem.W.subIn K (.ref c_NoLoop) (.ref c_NoLoop) = some true)
    {nm_NoWeights q_NoWeights : Str} {N_NoWeights : Addr} {bs_NoWeights : List Value} {sn_NoWeights : List Str} {sub_NoWeights : List Value} {ab_NoWeights : Bool} {col_NoWeights : Option Bool} {dd_NoWeights : Option Addr} {m0_NoWeights m1_NoWeights m2_NoWeights m3_NoWeights m5_NoWeights : Option Value}
    (xL_NoWeights : K.lookup c_NoWeights = some (excClassObj nm_NoWeights q_NoWeights c_NoWeights N_NoWeights bs_NoWeights [.ref c_LoopError, .type "ValueError", .type "Exception", .type "BaseException", .type "object"] true sn_NoWeights sub_NoWeights ab_NoWeights col_NoWeights dd_NoWeights m0_NoWeights m1_NoWeights m2_NoWeights m3_NoWeights m5_NoWeights "ValueError.__new__"))
    (sa_NoWeights : PySem.W.findIn K (.ref c_NoWeights) "__setattr__" = some (some (.builtin "object.__setattr__"))) (tf_NoWeights : PySem.W.typeIn K (.ref f_NoWeights___init__) = some (.type "function")) (kC_NoWeights : PySem.W.keepIn K (.ref c_NoWeights) = true) (eC_NoWeights : PySem.W.subIn K (.ref c_NoWeights) (.type "BaseException") = some true) (tC_NoWeights : PySem.W.typeIn K (.ref c_NoWeights) = some (.type "type")) (iC_NoWeights : PySem.W.isClsIn K c_NoWeights = true) (sC_NoWeights : PySem.W.subIn K (.ref c_NoWeights) (.ref c_NoWeights) = some true)
    {nm_NoFraction q_NoFraction : Str} {N_NoFraction : Addr} {bs_NoFraction : List Value} {sn_NoFraction : List Str} {sub_NoFraction : List Value} {ab_NoFraction : Bool} {col_NoFraction : Option Bool} {dd_NoFraction : Option Addr} {m0_NoFraction m1_NoFraction m2_NoFraction m3_NoFraction m5_NoFraction : Option Value}
    (xL_NoFraction : K.lookup c_NoFraction = some (excClassObj nm_NoFraction q_NoFraction c_NoFraction N_NoFraction bs_NoFraction [.ref c_LoopError, .type "ValueError", .type "Exception", .type "BaseException", .type "object"] true sn_NoFraction sub_NoFraction ab_NoFraction col_NoFraction dd_NoFraction m0_NoFraction m1_NoFraction m2_NoFraction m3_NoFraction m5_NoFraction "ValueError.__new__"))
    (sa_NoFraction : PySem.W.findIn K (.ref c_NoFraction) "__setattr__" = some (some (.builtin "object.__setattr__"))) (tf_NoFraction : PySem.W.typeIn K (.ref f_NoFraction___init__) = some (.type "function")) (kC_NoFraction : PySem.W.keepIn K (.ref c_NoFraction) = true) (eC_NoFraction : PySem.W.subIn K (.ref c_NoFraction) (.type "BaseException") = some true) (tC_NoFraction : PySem.W.typeIn K (.ref c_NoFraction) = some (.type "type")) (iC_NoFraction : PySem.W.isClsIn K c_NoFraction = true) (sC_NoFraction : PySem.W.subIn K (.ref c_NoFraction) (.ref c_NoFraction) = some true)
    {nm_OtherBounds q_OtherBounds : Str} {N_OtherBounds : Addr} {bs_OtherBounds : List Value} {sn_OtherBounds : List Str} {sub_OtherBounds : List Value} {ab_OtherBounds : Bool} {col_OtherBounds : Option Bool} {dd_OtherBounds : Option Addr} {m0_OtherBounds m1_OtherBounds m2_OtherBounds m3_OtherBounds m5_OtherBounds : Option Value}
    (xL_OtherBounds : K.lookup c_OtherBounds = some (excClassObj nm_OtherBounds q_OtherBounds c_OtherBounds N_OtherBounds bs_OtherBounds [.ref c_LoopError, .type "ValueError", .type "Exception", .type "BaseException", .type "object"] true sn_OtherBounds sub_OtherBounds ab_OtherBounds col_OtherBounds dd_OtherBounds m0_OtherBounds m1_OtherBounds m2_OtherBounds m3_OtherBounds m5_OtherBounds "ValueError.__new__"))
    (sa_OtherBounds : PySem.W.findIn K (.ref c_OtherBounds) "__setattr__" = some (some (.builtin "object.__setattr__"))) (tf_OtherBounds : PySem.W.typeIn K (.ref f_OtherBounds___init__) = some (.type "function")) (kC_OtherBounds : PySem.W.keepIn K (.ref c_OtherBounds) = true) (eC_OtherBounds : PySem.W.subIn K (.ref c_OtherBounds) (.type "BaseException") = some true) (tC_OtherBounds : PySem.W.typeIn K (.ref c_OtherBounds) = some (.type "type")) (iC_OtherBounds : PySem.W.isClsIn K c_OtherBounds = true) (sC_OtherBounds : PySem.W.subIn K (.ref c_OtherBounds) (.ref c_OtherBounds) = some true)
    {nm_NoLetter q_NoLetter : Str} {N_NoLetter : Addr} {bs_NoLetter : List Value} {sn_NoLetter : List Str} {sub_NoLetter : List Value} {ab_NoLetter : Bool} {col_NoLetter : Option Bool} {dd_NoLetter : Option Addr} {m0_NoLetter m1_NoLetter m2_NoLetter m3_NoLetter m5_NoLetter : Option Value}
    (xL_NoLetter : K.lookup c_NoLetter = some (excClassObj nm_NoLetter q_NoLetter c_NoLetter N_NoLetter bs_NoLetter [.ref c_LoopError, .type "ValueError", .type "Exception", .type "BaseException", .type "object"] true sn_NoLetter sub_NoLetter ab_NoLetter col_NoLetter dd_NoLetter m0_NoLetter m1_NoLetter m2_NoLetter m3_NoLetter m5_NoLetter "ValueError.__new__"))
    (sa_NoLetter : PySem.W.findIn K (.ref c_NoLetter) "__setattr__" = some (some (.builtin "object.__setattr__"))) (tf_NoLetter : PySem.W.typeIn K (.ref f_NoLetter___init__) = some (.type "function")) (kC_NoLetter : PySem.W.keepIn K (.ref c_NoLetter) = true) (eC_NoLetter : PySem.W.subIn K (.ref c_NoLetter) (.type "BaseException") = some true) (tC_NoLetter : PySem.W.typeIn K (.ref c_NoLetter) = some (.type "type")) (iC_NoLetter : PySem.W.isClsIn K c_NoLetter = true) (sC_NoLetter : PySem.W.subIn K (.ref c_NoLetter) (.ref c_NoLetter) = some true)
    {nm_NoDay q_NoDay : Str} {N_NoDay : Addr} {bs_NoDay : List Value} {sn_NoDay : List Str} {sub_NoDay : List Value} {ab_NoDay : Bool} {col_NoDay : Option Bool} {dd_NoDay : Option Addr} {m0_NoDay m1_NoDay m2_NoDay m3_NoDay m5_NoDay : Option Value}
    (xL_NoDay : K.lookup c_NoDay = some (excClassObj nm_NoDay q_NoDay c_NoDay N_NoDay bs_NoDay [.ref c_LoopError, .type "ValueError", .type "Exception", .type "BaseException", .type "object"] true sn_NoDay sub_NoDay ab_NoDay col_NoDay dd_NoDay m0_NoDay m1_NoDay m2_NoDay m3_NoDay m5_NoDay "ValueError.__new__"))
    (sa_NoDay : PySem.W.findIn K (.ref c_NoDay) "__setattr__" = some (some (.builtin "object.__setattr__"))) (tf_NoDay : PySem.W.typeIn K (.ref f_NoDay___init__) = some (.type "function")) (kC_NoDay : PySem.W.keepIn K (.ref c_NoDay) = true) (eC_NoDay : PySem.W.subIn K (.ref c_NoDay) (.type "BaseException") = some true) (tC_NoDay : PySem.W.typeIn K (.ref c_NoDay) = some (.type "type")) (iC_NoDay : PySem.W.isClsIn K c_NoDay = true) (sC_NoDay : PySem.W.subIn K (.ref c_NoDay) (.ref c_NoDay) = some true)
    {nm_NoLine q_NoLine : Str} {N_NoLine : Addr} {bs_NoLine : List Value} {sn_NoLine : List Str} {sub_NoLine : List Value} {ab_NoLine : Bool} {col_NoLine : Option Bool} {dd_NoLine : Option Addr} {m0_NoLine m1_NoLine m2_NoLine m3_NoLine m5_NoLine : Option Value}
    (xL_NoLine : K.lookup c_NoLine = some (excClassObj nm_NoLine q_NoLine c_NoLine N_NoLine bs_NoLine [.ref c_LoopError, .type "ValueError", .type "Exception", .type "BaseException", .type "object"] true sn_NoLine sub_NoLine ab_NoLine col_NoLine dd_NoLine m0_NoLine m1_NoLine m2_NoLine m3_NoLine m5_NoLine "ValueError.__new__"))
    (sa_NoLine : PySem.W.findIn K (.ref c_NoLine) "__setattr__" = some (some (.builtin "object.__setattr__"))) (tf_NoLine : PySem.W.typeIn K (.ref f_NoLine___init__) = some (.type "function")) (kC_NoLine : PySem.W.keepIn K (.ref c_NoLine) = true) (eC_NoLine : PySem.W.subIn K (.ref c_NoLine) (.type "BaseException") = some true) (tC_NoLine : PySem.W.typeIn K (.ref c_NoLine) = some (.type "type")) (iC_NoLine : PySem.W.isClsIn K c_NoLine = true) (sC_NoLine : PySem.W.subIn K (.ref c_NoLine) (.ref c_NoLine) = some true)
    {nm_BadTable q_BadTable : Str} {N_BadTable : Addr} {bs_BadTable : List Value} {sn_BadTable : List Str} {sub_BadTable : List Value} {ab_BadTable : Bool} {col_BadTable : Option Bool} {dd_BadTable : Option Addr} {m0_BadTable m1_BadTable m2_BadTable m3_BadTable m5_BadTable : Option Value}
    (xL_BadTable : K.lookup c_BadTable = some (excClassObj nm_BadTable q_BadTable c_BadTable N_BadTable bs_BadTable [.ref c_LoopError, .type "ValueError", .type "Exception", .type "BaseException", .type "object"] true sn_BadTable sub_BadTable ab_BadTable col_BadTable dd_BadTable m0_BadTable m1_BadTable m2_BadTable m3_BadTable m5_BadTable "ValueError.__new__"))
    (sa_BadTable : PySem.W.findIn K (.ref c_BadTable) "__setattr__" = some (some (.builtin "object.__setattr__"))) (tf_BadTable : PySem.W.typeIn K (.ref f_BadTable___init__) = some (.type "function")) (kC_BadTable : PySem.W.keepIn K (.ref c_BadTable) = true) (eC_BadTable : PySem.W.subIn K (.ref c_BadTable) (.type "BaseException") = some true) (tC_BadTable : PySem.W.typeIn K (.ref c_BadTable) = some (.type "type")) (iC_BadTable : PySem.W.isClsIn K c_BadTable = true) (sC_BadTable : PySem.W.subIn K (.ref c_BadTable) (.ref c_BadTable) = some true)
    (n_BadTable_part : PySem.W.findIn K (.ref c_BadTable) "part" = some none)
    (n_BadTable_at : PySem.W.findIn K (.ref c_BadTable) "at" = some none)
    {nm_Meet q_Meet : Str} {N_Meet : Addr} {bs_Meet : List Value} {sn_Meet : List Str} {sub_Meet : List Value} {ab_Meet : Bool} {col_Meet : Option Bool} {dd_Meet : Option Addr} {m0_Meet m1_Meet m2_Meet m3_Meet m5_Meet : Option Value}
    (xL_Meet : K.lookup c_Meet = some (excClassObj nm_Meet q_Meet c_Meet N_Meet bs_Meet [.ref c_LoopError, .type "ValueError", .type "Exception", .type "BaseException", .type "object"] true sn_Meet sub_Meet ab_Meet col_Meet dd_Meet m0_Meet m1_Meet m2_Meet m3_Meet m5_Meet "ValueError.__new__"))
    (sa_Meet : PySem.W.findIn K (.ref c_Meet) "__setattr__" = some (some (.builtin "object.__setattr__"))) (tf_Meet : PySem.W.typeIn K (.ref f_Meet___init__) = some (.type "function")) (kC_Meet : PySem.W.keepIn K (.ref c_Meet) = true) (eC_Meet : PySem.W.subIn K (.ref c_Meet) (.type "BaseException") = some true) (tC_Meet : PySem.W.typeIn K (.ref c_Meet) = some (.type "type")) (iC_Meet : PySem.W.isClsIn K c_Meet = true) (sC_Meet : PySem.W.subIn K (.ref c_Meet) (.ref c_Meet) = some true)
    (n_Meet_tick : PySem.W.findIn K (.ref c_Meet) "tick" = some none)
    (n_Meet_loop : PySem.W.findIn K (.ref c_Meet) "loop" = some none)
    {nm_TooMany q_TooMany : Str} {N_TooMany : Addr} {bs_TooMany : List Value} {sn_TooMany : List Str} {sub_TooMany : List Value} {ab_TooMany : Bool} {col_TooMany : Option Bool} {dd_TooMany : Option Addr} {m0_TooMany m1_TooMany m2_TooMany m3_TooMany m5_TooMany : Option Value}
    (xL_TooMany : K.lookup c_TooMany = some (excClassObj nm_TooMany q_TooMany c_TooMany N_TooMany bs_TooMany [.ref c_LoopError, .type "ValueError", .type "Exception", .type "BaseException", .type "object"] true sn_TooMany sub_TooMany ab_TooMany col_TooMany dd_TooMany m0_TooMany m1_TooMany m2_TooMany m3_TooMany m5_TooMany "ValueError.__new__"))
    (sa_TooMany : PySem.W.findIn K (.ref c_TooMany) "__setattr__" = some (some (.builtin "object.__setattr__"))) (tf_TooMany : PySem.W.typeIn K (.ref f_TooMany___init__) = some (.type "function")) (kC_TooMany : PySem.W.keepIn K (.ref c_TooMany) = true) (eC_TooMany : PySem.W.subIn K (.ref c_TooMany) (.type "BaseException") = some true) (tC_TooMany : PySem.W.typeIn K (.ref c_TooMany) = some (.type "type")) (iC_TooMany : PySem.W.isClsIn K c_TooMany = true) (sC_TooMany : PySem.W.subIn K (.ref c_TooMany) (.ref c_TooMany) = some true)
    (n_TooMany_most : PySem.W.findIn K (.ref c_TooMany) "most" = some none)
    {nm_BadText q_BadText : Str} {N_BadText : Addr} {bs_BadText : List Value} {sn_BadText : List Str} {sub_BadText : List Value} {ab_BadText : Bool} {col_BadText : Option Bool} {dd_BadText : Option Addr} {m0_BadText m1_BadText m2_BadText m3_BadText m5_BadText : Option Value}
    (xL_BadText : K.lookup c_BadText = some (excClassObj nm_BadText q_BadText c_BadText N_BadText bs_BadText [.ref c_LoopError, .type "ValueError", .type "Exception", .type "BaseException", .type "object"] true sn_BadText sub_BadText ab_BadText col_BadText dd_BadText m0_BadText m1_BadText m2_BadText m3_BadText m5_BadText "ValueError.__new__"))
    (sa_BadText : PySem.W.findIn K (.ref c_BadText) "__setattr__" = some (some (.builtin "object.__setattr__"))) (tf_BadText : PySem.W.typeIn K (.ref f_BadText___init__) = some (.type "function")) (kC_BadText : PySem.W.keepIn K (.ref c_BadText) = true) (eC_BadText : PySem.W.subIn K (.ref c_BadText) (.type "BaseException") = some true) (tC_BadText : PySem.W.typeIn K (.ref c_BadText) = some (.type "type")) (iC_BadText : PySem.W.isClsIn K c_BadText = true) (sC_BadText : PySem.W.subIn K (.ref c_BadText) (.ref c_BadText) = some true)
    (n_BadText_line : PySem.W.findIn K (.ref c_BadText) "line" = some none)
    {nm_NoName q_NoName : Str} {N_NoName : Addr} {bs_NoName : List Value} {sn_NoName : List Str} {sub_NoName : List Value} {ab_NoName : Bool} {col_NoName : Option Bool} {dd_NoName : Option Addr} {m0_NoName m1_NoName m2_NoName m3_NoName m5_NoName : Option Value}
    (xL_NoName : K.lookup c_NoName = some (excClassObj nm_NoName q_NoName c_NoName N_NoName bs_NoName [.ref c_LoopError, .type "ValueError", .type "Exception", .type "BaseException", .type "object"] true sn_NoName sub_NoName ab_NoName col_NoName dd_NoName m0_NoName m1_NoName m2_NoName m3_NoName m5_NoName "ValueError.__new__"))
    (sa_NoName : PySem.W.findIn K (.ref c_NoName) "__setattr__" = some (some (.builtin "object.__setattr__"))) (tf_NoName : PySem.W.typeIn K (.ref f_NoName___init__) = some (.type "function")) (kC_NoName : PySem.W.keepIn K (.ref c_NoName) = true) (eC_NoName : PySem.W.subIn K (.ref c_NoName) (.type "BaseException") = some true) (tC_NoName : PySem.W.typeIn K (.ref c_NoName) = some (.type "type")) (iC_NoName : PySem.W.isClsIn K c_NoName = true) (sC_NoName : PySem.W.subIn K (.ref c_NoName) (.ref c_NoName) = some true)
    (n_NoName_name : PySem.W.findIn K (.ref c_NoName) "name" = some none)
    {nm_NoDoorings q_NoDoorings : Str} {N_NoDoorings : Addr} {bs_NoDoorings : List Value} {sn_NoDoorings : List Str} {sub_NoDoorings : List Value} {ab_NoDoorings : Bool} {col_NoDoorings : Option Bool} {dd_NoDoorings : Option Addr} {m0_NoDoorings m1_NoDoorings m2_NoDoorings m3_NoDoorings m5_NoDoorings : Option Value}
    (xL_NoDoorings : K.lookup c_NoDoorings = some (excClassObj nm_NoDoorings q_NoDoorings c_NoDoorings N_NoDoorings bs_NoDoorings [.ref c_LoopError, .type "ValueError", .type "Exception", .type "BaseException", .type "object"] true sn_NoDoorings sub_NoDoorings ab_NoDoorings col_NoDoorings dd_NoDoorings m0_NoDoorings m1_NoDoorings m2_NoDoorings m3_NoDoorings m5_NoDoorings "ValueError.__new__"))
    (sa_NoDoorings : PySem.W.findIn K (.ref c_NoDoorings) "__setattr__" = some (some (.builtin "object.__setattr__"))) (tf_NoDoorings : PySem.W.typeIn K (.ref f_NoDoorings___init__) = some (.type "function")) (kC_NoDoorings : PySem.W.keepIn K (.ref c_NoDoorings) = true) (eC_NoDoorings : PySem.W.subIn K (.ref c_NoDoorings) (.type "BaseException") = some true) (tC_NoDoorings : PySem.W.typeIn K (.ref c_NoDoorings) = some (.type "type")) (iC_NoDoorings : PySem.W.isClsIn K c_NoDoorings = true) (sC_NoDoorings : PySem.W.subIn K (.ref c_NoDoorings) (.ref c_NoDoorings) = some true)
    {nm_NoLong q_NoLong : Str} {N_NoLong : Addr} {bs_NoLong : List Value} {sn_NoLong : List Str} {sub_NoLong : List Value} {ab_NoLong : Bool} {col_NoLong : Option Bool} {dd_NoLong : Option Addr} {m0_NoLong m1_NoLong m2_NoLong m3_NoLong m5_NoLong : Option Value}
    (xL_NoLong : K.lookup c_NoLong = some (excClassObj nm_NoLong q_NoLong c_NoLong N_NoLong bs_NoLong [.ref c_LoopError, .type "ValueError", .type "Exception", .type "BaseException", .type "object"] true sn_NoLong sub_NoLong ab_NoLong col_NoLong dd_NoLong m0_NoLong m1_NoLong m2_NoLong m3_NoLong m5_NoLong "ValueError.__new__"))
    (sa_NoLong : PySem.W.findIn K (.ref c_NoLong) "__setattr__" = some (some (.builtin "object.__setattr__"))) (tf_NoLong : PySem.W.typeIn K (.ref f_NoLong___init__) = some (.type "function")) (kC_NoLong : PySem.W.keepIn K (.ref c_NoLong) = true) (eC_NoLong : PySem.W.subIn K (.ref c_NoLong) (.type "BaseException") = some true) (tC_NoLong : PySem.W.typeIn K (.ref c_NoLong) = some (.type "type")) (iC_NoLong : PySem.W.isClsIn K c_NoLong = true) (sC_NoLong : PySem.W.subIn K (.ref c_NoLong) (.ref c_NoLong) = some true)
    {nm_NoPrices q_NoPrices : Str} {N_NoPrices : Addr} {bs_NoPrices : List Value} {sn_NoPrices : List Str} {sub_NoPrices : List Value} {ab_NoPrices : Bool} {col_NoPrices : Option Bool} {dd_NoPrices : Option Addr} {m0_NoPrices m1_NoPrices m2_NoPrices m3_NoPrices m5_NoPrices : Option Value}
    (xL_NoPrices : K.lookup c_NoPrices = some (excClassObj nm_NoPrices q_NoPrices c_NoPrices N_NoPrices bs_NoPrices [.ref c_LoopError, .type "ValueError", .type "Exception", .type "BaseException", .type "object"] true sn_NoPrices sub_NoPrices ab_NoPrices col_NoPrices dd_NoPrices m0_NoPrices m1_NoPrices m2_NoPrices m3_NoPrices m5_NoPrices "ValueError.__new__"))
    (sa_NoPrices : PySem.W.findIn K (.ref c_NoPrices) "__setattr__" = some (some (.builtin "object.__setattr__"))) (tf_NoPrices : PySem.W.typeIn K (.ref f_NoPrices___init__) = some (.type "function")) (kC_NoPrices : PySem.W.keepIn K (.ref c_NoPrices) = true) (eC_NoPrices : PySem.W.subIn K (.ref c_NoPrices) (.type "BaseException") = some true) (tC_NoPrices : PySem.W.typeIn K (.ref c_NoPrices) = some (.type "type")) (iC_NoPrices : PySem.W.isClsIn K c_NoPrices = true) (sC_NoPrices : PySem.W.subIn K (.ref c_NoPrices) (.ref c_NoPrices) = some true)
    {nm_OtherTables q_OtherTables : Str} {N_OtherTables : Addr} {bs_OtherTables : List Value} {sn_OtherTables : List Str} {sub_OtherTables : List Value} {ab_OtherTables : Bool} {col_OtherTables : Option Bool} {dd_OtherTables : Option Addr} {m0_OtherTables m1_OtherTables m2_OtherTables m3_OtherTables m5_OtherTables : Option Value}
    (xL_OtherTables : K.lookup c_OtherTables = some (excClassObj nm_OtherTables q_OtherTables c_OtherTables N_OtherTables bs_OtherTables [.ref c_LoopError, .type "ValueError", .type "Exception", .type "BaseException", .type "object"] true sn_OtherTables sub_OtherTables ab_OtherTables col_OtherTables dd_OtherTables m0_OtherTables m1_OtherTables m2_OtherTables m3_OtherTables m5_OtherTables "ValueError.__new__"))
    (sa_OtherTables : PySem.W.findIn K (.ref c_OtherTables) "__setattr__" = some (some (.builtin "object.__setattr__"))) (tf_OtherTables : PySem.W.typeIn K (.ref f_OtherTables___init__) = some (.type "function")) (kC_OtherTables : PySem.W.keepIn K (.ref c_OtherTables) = true) (eC_OtherTables : PySem.W.subIn K (.ref c_OtherTables) (.type "BaseException") = some true) (tC_OtherTables : PySem.W.typeIn K (.ref c_OtherTables) = some (.type "type")) (iC_OtherTables : PySem.W.isClsIn K c_OtherTables = true) (sC_OtherTables : PySem.W.subIn K (.ref c_OtherTables) (.ref c_OtherTables) = some true)
    {nm_NoTables q_NoTables : Str} {N_NoTables : Addr} {bs_NoTables : List Value} {sn_NoTables : List Str} {sub_NoTables : List Value} {ab_NoTables : Bool} {col_NoTables : Option Bool} {dd_NoTables : Option Addr} {m0_NoTables m1_NoTables m2_NoTables m3_NoTables m5_NoTables : Option Value}
    (xL_NoTables : K.lookup c_NoTables = some (excClassObj nm_NoTables q_NoTables c_NoTables N_NoTables bs_NoTables [.ref c_LoopError, .type "ValueError", .type "Exception", .type "BaseException", .type "object"] true sn_NoTables sub_NoTables ab_NoTables col_NoTables dd_NoTables m0_NoTables m1_NoTables m2_NoTables m3_NoTables m5_NoTables "ValueError.__new__"))
    (sa_NoTables : PySem.W.findIn K (.ref c_NoTables) "__setattr__" = some (some (.builtin "object.__setattr__"))) (tf_NoTables : PySem.W.typeIn K (.ref f_NoTables___init__) = some (.type "function")) (kC_NoTables : PySem.W.keepIn K (.ref c_NoTables) = true) (eC_NoTables : PySem.W.subIn K (.ref c_NoTables) (.type "BaseException") = some true) (tC_NoTables : PySem.W.typeIn K (.ref c_NoTables) = some (.type "type")) (iC_NoTables : PySem.W.isClsIn K c_NoTables = true) (sC_NoTables : PySem.W.subIn K (.ref c_NoTables) (.ref c_NoTables) = some true)
    {nm_NoTable q_NoTable : Str} {N_NoTable : Addr} {bs_NoTable : List Value} {sn_NoTable : List Str} {sub_NoTable : List Value} {ab_NoTable : Bool} {col_NoTable : Option Bool} {dd_NoTable : Option Addr} {m0_NoTable m1_NoTable m2_NoTable m3_NoTable m5_NoTable : Option Value}
    (xL_NoTable : K.lookup c_NoTable = some (excClassObj nm_NoTable q_NoTable c_NoTable N_NoTable bs_NoTable [.ref c_LoopError, .type "ValueError", .type "Exception", .type "BaseException", .type "object"] true sn_NoTable sub_NoTable ab_NoTable col_NoTable dd_NoTable m0_NoTable m1_NoTable m2_NoTable m3_NoTable m5_NoTable "ValueError.__new__"))
    (sa_NoTable : PySem.W.findIn K (.ref c_NoTable) "__setattr__" = some (some (.builtin "object.__setattr__"))) (tf_NoTable : PySem.W.typeIn K (.ref f_NoTable___init__) = some (.type "function")) (kC_NoTable : PySem.W.keepIn K (.ref c_NoTable) = true) (eC_NoTable : PySem.W.subIn K (.ref c_NoTable) (.type "BaseException") = some true) (tC_NoTable : PySem.W.typeIn K (.ref c_NoTable) = some (.type "type")) (iC_NoTable : PySem.W.isClsIn K c_NoTable = true) (sC_NoTable : PySem.W.subIn K (.ref c_NoTable) (.ref c_NoTable) = some true)
    {nm_BadTree q_BadTree : Str} {N_BadTree : Addr} {bs_BadTree : List Value} {sn_BadTree : List Str} {sub_BadTree : List Value} {ab_BadTree : Bool} {col_BadTree : Option Bool} {dd_BadTree : Option Addr} {m0_BadTree m1_BadTree m2_BadTree m3_BadTree m5_BadTree : Option Value}
    (xL_BadTree : K.lookup c_BadTree = some (excClassObj nm_BadTree q_BadTree c_BadTree N_BadTree bs_BadTree [.ref c_LoopError, .type "ValueError", .type "Exception", .type "BaseException", .type "object"] true sn_BadTree sub_BadTree ab_BadTree col_BadTree dd_BadTree m0_BadTree m1_BadTree m2_BadTree m3_BadTree m5_BadTree "ValueError.__new__"))
    (sa_BadTree : PySem.W.findIn K (.ref c_BadTree) "__setattr__" = some (some (.builtin "object.__setattr__"))) (tf_BadTree : PySem.W.typeIn K (.ref f_BadTree___init__) = some (.type "function")) (kC_BadTree : PySem.W.keepIn K (.ref c_BadTree) = true) (eC_BadTree : PySem.W.subIn K (.ref c_BadTree) (.type "BaseException") = some true) (tC_BadTree : PySem.W.typeIn K (.ref c_BadTree) = some (.type "type")) (iC_BadTree : PySem.W.isClsIn K c_BadTree = true) (sC_BadTree : PySem.W.subIn K (.ref c_BadTree) (.ref c_BadTree) = some true)
    (n_BadTree_at : PySem.W.findIn K (.ref c_BadTree) "at" = some none)
    (xg_NoComers : PySem.W.findIn K (.ref c_NoComers) "__getattribute__" = some (some (.builtin "BaseException.__getattribute__"))) (xk_NoComers : PySem.W.findIn K (.ref c_NoComers) "__getattr__" = some none) (xd_NoComers : PySem.W.hasDictIn K c_NoComers = true) (xa_NoComers : PySem.W.findIn K (.ref c_NoComers) "__class__" = some (some (.builtin "object.__class__"))) (xn_NoComers : PySem.W.specialIn K (.builtin "object.__class__") "__get__" = some (some (.builtin "getset_descriptor.__get__"))) (xt_NoComers : PySem.W.takesIn K (.builtin "object.__class__") = some true) (xm_NoComers : PySem.W.mroIn K c_NoComers (.type "object") = some true) (xs_NoComers : PySem.W.subIn K (.ref c_NoComers) (.type "BaseException") = some true)
    (xg_NoBound : PySem.W.findIn K (.ref c_NoBound) "__getattribute__" = some (some (.builtin "BaseException.__getattribute__"))) (xk_NoBound : PySem.W.findIn K (.ref c_NoBound) "__getattr__" = some none) (xd_NoBound : PySem.W.hasDictIn K c_NoBound = true) (xa_NoBound : PySem.W.findIn K (.ref c_NoBound) "__class__" = some (some (.builtin "object.__class__"))) (xn_NoBound : PySem.W.specialIn K (.builtin "object.__class__") "__get__" = some (some (.builtin "getset_descriptor.__get__"))) (xt_NoBound : PySem.W.takesIn K (.builtin "object.__class__") = some true) (xm_NoBound : PySem.W.mroIn K c_NoBound (.type "object") = some true) (xs_NoBound : PySem.W.subIn K (.ref c_NoBound) (.type "BaseException") = some true)
    (xg_NoComings : PySem.W.findIn K (.ref c_NoComings) "__getattribute__" = some (some (.builtin "BaseException.__getattribute__"))) (xk_NoComings : PySem.W.findIn K (.ref c_NoComings) "__getattr__" = some none) (xd_NoComings : PySem.W.hasDictIn K c_NoComings = true) (xa_NoComings : PySem.W.findIn K (.ref c_NoComings) "__class__" = some (some (.builtin "object.__class__"))) (xn_NoComings : PySem.W.specialIn K (.builtin "object.__class__") "__get__" = some (some (.builtin "getset_descriptor.__get__"))) (xt_NoComings : PySem.W.takesIn K (.builtin "object.__class__") = some true) (xm_NoComings : PySem.W.mroIn K c_NoComings (.type "object") = some true) (xs_NoComings : PySem.W.subIn K (.ref c_NoComings) (.type "BaseException") = some true)
    (xg_NoSpot : PySem.W.findIn K (.ref c_NoSpot) "__getattribute__" = some (some (.builtin "BaseException.__getattribute__"))) (xk_NoSpot : PySem.W.findIn K (.ref c_NoSpot) "__getattr__" = some none) (xd_NoSpot : PySem.W.hasDictIn K c_NoSpot = true) (xa_NoSpot : PySem.W.findIn K (.ref c_NoSpot) "__class__" = some (some (.builtin "object.__class__"))) (xn_NoSpot : PySem.W.specialIn K (.builtin "object.__class__") "__get__" = some (some (.builtin "getset_descriptor.__get__"))) (xt_NoSpot : PySem.W.takesIn K (.builtin "object.__class__") = some true) (xm_NoSpot : PySem.W.mroIn K c_NoSpot (.type "object") = some true) (xs_NoSpot : PySem.W.subIn K (.ref c_NoSpot) (.type "BaseException") = some true)
    (xg_NoWalk : PySem.W.findIn K (.ref c_NoWalk) "__getattribute__" = some (some (.builtin "BaseException.__getattribute__"))) (xk_NoWalk : PySem.W.findIn K (.ref c_NoWalk) "__getattr__" = some none) (xd_NoWalk : PySem.W.hasDictIn K c_NoWalk = true) (xa_NoWalk : PySem.W.findIn K (.ref c_NoWalk) "__class__" = some (some (.builtin "object.__class__"))) (xn_NoWalk : PySem.W.specialIn K (.builtin "object.__class__") "__get__" = some (some (.builtin "getset_descriptor.__get__"))) (xt_NoWalk : PySem.W.takesIn K (.builtin "object.__class__") = some true) (xm_NoWalk : PySem.W.mroIn K c_NoWalk (.type "object") = some true) (xs_NoWalk : PySem.W.subIn K (.ref c_NoWalk) (.type "BaseException") = some true)
    (xg_NoTick : PySem.W.findIn K (.ref c_NoTick) "__getattribute__" = some (some (.builtin "BaseException.__getattribute__"))) (xk_NoTick : PySem.W.findIn K (.ref c_NoTick) "__getattr__" = some none) (xd_NoTick : PySem.W.hasDictIn K c_NoTick = true) (xa_NoTick : PySem.W.findIn K (.ref c_NoTick) "__class__" = some (some (.builtin "object.__class__"))) (xn_NoTick : PySem.W.specialIn K (.builtin "object.__class__") "__get__" = some (some (.builtin "getset_descriptor.__get__"))) (xt_NoTick : PySem.W.takesIn K (.builtin "object.__class__") = some true) (xm_NoTick : PySem.W.mroIn K c_NoTick (.type "object") = some true) (xs_NoTick : PySem.W.subIn K (.ref c_NoTick) (.type "BaseException") = some true)
    (xg_NoLoops : PySem.W.findIn K (.ref c_NoLoops) "__getattribute__" = some (some (.builtin "BaseException.__getattribute__"))) (xk_NoLoops : PySem.W.findIn K (.ref c_NoLoops) "__getattr__" = some none) (xd_NoLoops : PySem.W.hasDictIn K c_NoLoops = true) (xa_NoLoops : PySem.W.findIn K (.ref c_NoLoops) "__class__" = some (some (.builtin "object.__class__"))) (xn_NoLoops : PySem.W.specialIn K (.builtin "object.__class__") "__get__" = some (some (.builtin "getset_descriptor.__get__"))) (xt_NoLoops : PySem.W.takesIn K (.builtin "object.__class__") = some true) (xm_NoLoops : PySem.W.mroIn K c_NoLoops (.type "object") = some true) (xs_NoLoops : PySem.W.subIn K (.ref c_NoLoops) (.type "BaseException") = some true)
    (xg_NotDoubling : PySem.W.findIn K (.ref c_NotDoubling) "__getattribute__" = some (some (.builtin "BaseException.__getattribute__"))) (xk_NotDoubling : PySem.W.findIn K (.ref c_NotDoubling) "__getattr__" = some none) (xd_NotDoubling : PySem.W.hasDictIn K c_NotDoubling = true) (xa_NotDoubling : PySem.W.findIn K (.ref c_NotDoubling) "__class__" = some (some (.builtin "object.__class__"))) (xn_NotDoubling : PySem.W.specialIn K (.builtin "object.__class__") "__get__" = some (some (.builtin "getset_descriptor.__get__"))) (xt_NotDoubling : PySem.W.takesIn K (.builtin "object.__class__") = some true) (xm_NotDoubling : PySem.W.mroIn K c_NotDoubling (.type "object") = some true) (xs_NotDoubling : PySem.W.subIn K (.ref c_NotDoubling) (.type "BaseException") = some true)
    (xg_NoWait : PySem.W.findIn K (.ref c_NoWait) "__getattribute__" = some (some (.builtin "BaseException.__getattribute__"))) (xk_NoWait : PySem.W.findIn K (.ref c_NoWait) "__getattr__" = some none) (xd_NoWait : PySem.W.hasDictIn K c_NoWait = true) (xa_NoWait : PySem.W.findIn K (.ref c_NoWait) "__class__" = some (some (.builtin "object.__class__"))) (xn_NoWait : PySem.W.specialIn K (.builtin "object.__class__") "__get__" = some (some (.builtin "getset_descriptor.__get__"))) (xt_NoWait : PySem.W.takesIn K (.builtin "object.__class__") = some true) (xm_NoWait : PySem.W.mroIn K c_NoWait (.type "object") = some true) (xs_NoWait : PySem.W.subIn K (.ref c_NoWait) (.type "BaseException") = some true)
    (xg_NoTotal : PySem.W.findIn K (.ref c_NoTotal) "__getattribute__" = some (some (.builtin "BaseException.__getattribute__"))) (xk_NoTotal : PySem.W.findIn K (.ref c_NoTotal) "__getattr__" = some none) (xd_NoTotal : PySem.W.hasDictIn K c_NoTotal = true) (xa_NoTotal : PySem.W.findIn K (.ref c_NoTotal) "__class__" = some (some (.builtin "object.__class__"))) (xn_NoTotal : PySem.W.specialIn K (.builtin "object.__class__") "__get__" = some (some (.builtin "getset_descriptor.__get__"))) (xt_NoTotal : PySem.W.takesIn K (.builtin "object.__class__") = some true) (xm_NoTotal : PySem.W.mroIn K c_NoTotal (.type "object") = some true) (xs_NoTotal : PySem.W.subIn K (.ref c_NoTotal) (.type "BaseException") = some true)
    (xg_NoRow : PySem.W.findIn K (.ref c_NoRow) "__getattribute__" = some (some (.builtin "BaseException.__getattribute__"))) (xk_NoRow : PySem.W.findIn K (.ref c_NoRow) "__getattr__" = some none) (xd_NoRow : PySem.W.hasDictIn K c_NoRow = true) (xa_NoRow : PySem.W.findIn K (.ref c_NoRow) "__class__" = some (some (.builtin "object.__class__"))) (xn_NoRow : PySem.W.specialIn K (.builtin "object.__class__") "__get__" = some (some (.builtin "getset_descriptor.__get__"))) (xt_NoRow : PySem.W.takesIn K (.builtin "object.__class__") = some true) (xm_NoRow : PySem.W.mroIn K c_NoRow (.type "object") = some true) (xs_NoRow : PySem.W.subIn K (.ref c_NoRow) (.type "BaseException") = some true)
    (xg_NoTold : PySem.W.findIn K (.ref c_NoTold) "__getattribute__" = some (some (.builtin "BaseException.__getattribute__"))) (xk_NoTold : PySem.W.findIn K (.ref c_NoTold) "__getattr__" = some none) (xd_NoTold : PySem.W.hasDictIn K c_NoTold = true) (xa_NoTold : PySem.W.findIn K (.ref c_NoTold) "__class__" = some (some (.builtin "object.__class__"))) (xn_NoTold : PySem.W.specialIn K (.builtin "object.__class__") "__get__" = some (some (.builtin "getset_descriptor.__get__"))) (xt_NoTold : PySem.W.takesIn K (.builtin "object.__class__") = some true) (xm_NoTold : PySem.W.mroIn K c_NoTold (.type "object") = some true) (xs_NoTold : PySem.W.subIn K (.ref c_NoTold) (.type "BaseException") = some true)
    (xg_NoStand : PySem.W.findIn K (.ref c_NoStand) "__getattribute__" = some (some (.builtin "BaseException.__getattribute__"))) (xk_NoStand : PySem.W.findIn K (.ref c_NoStand) "__getattr__" = some none) (xd_NoStand : PySem.W.hasDictIn K c_NoStand = true) (xa_NoStand : PySem.W.findIn K (.ref c_NoStand) "__class__" = some (some (.builtin "object.__class__"))) (xn_NoStand : PySem.W.specialIn K (.builtin "object.__class__") "__get__" = some (some (.builtin "getset_descriptor.__get__"))) (xt_NoStand : PySem.W.takesIn K (.builtin "object.__class__") = some true) (xm_NoStand : PySem.W.mroIn K c_NoStand (.type "object") = some true) (xs_NoStand : PySem.W.subIn K (.ref c_NoStand) (.type "BaseException") = some true)
    (xg_NoNumber : PySem.W.findIn K (.ref c_NoNumber) "__getattribute__" = some (some (.builtin "BaseException.__getattribute__"))) (xk_NoNumber : PySem.W.findIn K (.ref c_NoNumber) "__getattr__" = some none) (xd_NoNumber : PySem.W.hasDictIn K c_NoNumber = true) (xa_NoNumber : PySem.W.findIn K (.ref c_NoNumber) "__class__" = some (some (.builtin "object.__class__"))) (xn_NoNumber : PySem.W.specialIn K (.builtin "object.__class__") "__get__" = some (some (.builtin "getset_descriptor.__get__"))) (xt_NoNumber : PySem.W.takesIn K (.builtin "object.__class__") = some true) (xm_NoNumber : PySem.W.mroIn K c_NoNumber (.type "object") = some true) (xs_NoNumber : PySem.W.subIn K (.ref c_NoNumber) (.type "BaseException") = some true)
    (xg_NoLaying : PySem.W.findIn K (.ref c_NoLaying) "__getattribute__" = some (some (.builtin "BaseException.__getattribute__"))) (xk_NoLaying : PySem.W.findIn K (.ref c_NoLaying) "__getattr__" = some none) (xd_NoLaying : PySem.W.hasDictIn K c_NoLaying = true) (xa_NoLaying : PySem.W.findIn K (.ref c_NoLaying) "__class__" = some (some (.builtin "object.__class__"))) (xn_NoLaying : PySem.W.specialIn K (.builtin "object.__class__") "__get__" = some (some (.builtin "getset_descriptor.__get__"))) (xt_NoLaying : PySem.W.takesIn K (.builtin "object.__class__") = some true) (xm_NoLaying : PySem.W.mroIn K c_NoLaying (.type "object") = some true) (xs_NoLaying : PySem.W.subIn K (.ref c_NoLaying) (.type "BaseException") = some true)
    (xg_NoPlan : PySem.W.findIn K (.ref c_NoPlan) "__getattribute__" = some (some (.builtin "BaseException.__getattribute__"))) (xk_NoPlan : PySem.W.findIn K (.ref c_NoPlan) "__getattr__" = some none) (xd_NoPlan : PySem.W.hasDictIn K c_NoPlan = true) (xa_NoPlan : PySem.W.findIn K (.ref c_NoPlan) "__class__" = some (some (.builtin "object.__class__"))) (xn_NoPlan : PySem.W.specialIn K (.builtin "object.__class__") "__get__" = some (some (.builtin "getset_descriptor.__get__"))) (xt_NoPlan : PySem.W.takesIn K (.builtin "object.__class__") = some true) (xm_NoPlan : PySem.W.mroIn K c_NoPlan (.type "object") = some true) (xs_NoPlan : PySem.W.subIn K (.ref c_NoPlan) (.type "BaseException") = some true)
    (xg_NotKept : PySem.W.findIn K (.ref c_NotKept) "__getattribute__" = some (some (.builtin "BaseException.__getattribute__"))) (xk_NotKept : PySem.W.findIn K (.ref c_NotKept) "__getattr__" = some none) (xd_NotKept : PySem.W.hasDictIn K c_NotKept = true) (xa_NotKept : PySem.W.findIn K (.ref c_NotKept) "__class__" = some (some (.builtin "object.__class__"))) (xn_NotKept : PySem.W.specialIn K (.builtin "object.__class__") "__get__" = some (some (.builtin "getset_descriptor.__get__"))) (xt_NotKept : PySem.W.takesIn K (.builtin "object.__class__") = some true) (xm_NotKept : PySem.W.mroIn K c_NotKept (.type "object") = some true) (xs_NotKept : PySem.W.subIn K (.ref c_NotKept) (.type "BaseException") = some true)
    (xg_NothingDone : PySem.W.findIn K (.ref c_NothingDone) "__getattribute__" = some (some (.builtin "BaseException.__getattribute__"))) (xk_NothingDone : PySem.W.findIn K (.ref c_NothingDone) "__getattr__" = some none) (xd_NothingDone : PySem.W.hasDictIn K c_NothingDone = true) (xa_NothingDone : PySem.W.findIn K (.ref c_NothingDone) "__class__" = some (some (.builtin "object.__class__"))) (xn_NothingDone : PySem.W.specialIn K (.builtin "object.__class__") "__get__" = some (some (.builtin "getset_descriptor.__get__"))) (xt_NothingDone : PySem.W.takesIn K (.builtin "object.__class__") = some true) (xm_NothingDone : PySem.W.mroIn K c_NothingDone (.type "object") = some true) (xs_NothingDone : PySem.W.subIn K (.ref c_NothingDone) (.type "BaseException") = some true)
    (xg_NotLost : PySem.W.findIn K (.ref c_NotLost) "__getattribute__" = some (some (.builtin "BaseException.__getattribute__"))) (xk_NotLost : PySem.W.findIn K (.ref c_NotLost) "__getattr__" = some none) (xd_NotLost : PySem.W.hasDictIn K c_NotLost = true) (xa_NotLost : PySem.W.findIn K (.ref c_NotLost) "__class__" = some (some (.builtin "object.__class__"))) (xn_NotLost : PySem.W.specialIn K (.builtin "object.__class__") "__get__" = some (some (.builtin "getset_descriptor.__get__"))) (xt_NotLost : PySem.W.takesIn K (.builtin "object.__class__") = some true) (xm_NotLost : PySem.W.mroIn K c_NotLost (.type "object") = some true) (xs_NotLost : PySem.W.subIn K (.ref c_NotLost) (.type "BaseException") = some true)
    (xg_Over : PySem.W.findIn K (.ref c_Over) "__getattribute__" = some (some (.builtin "BaseException.__getattribute__"))) (xk_Over : PySem.W.findIn K (.ref c_Over) "__getattr__" = some none) (xd_Over : PySem.W.hasDictIn K c_Over = true) (xa_Over : PySem.W.findIn K (.ref c_Over) "__class__" = some (some (.builtin "object.__class__"))) (xn_Over : PySem.W.specialIn K (.builtin "object.__class__") "__get__" = some (some (.builtin "getset_descriptor.__get__"))) (xt_Over : PySem.W.takesIn K (.builtin "object.__class__") = some true) (xm_Over : PySem.W.mroIn K c_Over (.type "object") = some true) (xs_Over : PySem.W.subIn K (.ref c_Over) (.type "BaseException") = some true)
    (xg_NoLoop : PySem.W.findIn K (.ref c_NoLoop) "__getattribute__" = some (some (.builtin "BaseException.__getattribute__"))) (xk_NoLoop : PySem.W.findIn K (.ref c_NoLoop) "__getattr__" = some none) (xd_NoLoop : PySem.W.hasDictIn K c_NoLoop = true) (xa_NoLoop : PySem.W.findIn K (.ref c_NoLoop) "__class__" = some (some (.builtin "object.__class__"))) (xn_NoLoop : PySem.W.specialIn K (.builtin "object.__class__") "__get__" = some (some (.builtin "getset_descriptor.__get__"))) (xt_NoLoop : PySem.W.takesIn K (.builtin "object.__class__") = some true) (xm_NoLoop : PySem.W.mroIn K c_NoLoop (.type "object") = some true) (xs_NoLoop : PySem.W.subIn K (.ref c_NoLoop) (.type "BaseException") = some true)
    (xg_NoWeights : PySem.W.findIn K (.ref c_NoWeights) "__getattribute__" = some (some (.builtin "BaseException.__getattribute__"))) (xk_NoWeights : PySem.W.findIn K (.ref c_NoWeights) "__getattr__" = some none) (xd_NoWeights : PySem.W.hasDictIn K c_NoWeights = true) (xa_NoWeights : PySem.W.findIn K (.ref c_NoWeights) "__class__" = some (some (.builtin "object.__class__"))) (xn_NoWeights : PySem.W.specialIn K (.builtin "object.__class__") "__get__" = some (some (.builtin "getset_descriptor.__get__"))) (xt_NoWeights : PySem.W.takesIn K (.builtin "object.__class__") = some true) (xm_NoWeights : PySem.W.mroIn K c_NoWeights (.type "object") = some true) (xs_NoWeights : PySem.W.subIn K (.ref c_NoWeights) (.type "BaseException") = some true)
    (xg_NoFraction : PySem.W.findIn K (.ref c_NoFraction) "__getattribute__" = some (some (.builtin "BaseException.__getattribute__"))) (xk_NoFraction : PySem.W.findIn K (.ref c_NoFraction) "__getattr__" = some none) (xd_NoFraction : PySem.W.hasDictIn K c_NoFraction = true) (xa_NoFraction : PySem.W.findIn K (.ref c_NoFraction) "__class__" = some (some (.builtin "object.__class__"))) (xn_NoFraction : PySem.W.specialIn K (.builtin "object.__class__") "__get__" = some (some (.builtin "getset_descriptor.__get__"))) (xt_NoFraction : PySem.W.takesIn K (.builtin "object.__class__") = some true) (xm_NoFraction : PySem.W.mroIn K c_NoFraction (.type "object") = some true) (xs_NoFraction : PySem.W.subIn K (.ref c_NoFraction) (.type "BaseException") = some true)
    (xg_OtherBounds : PySem.W.findIn K (.ref c_OtherBounds) "__getattribute__" = some (some (.builtin "BaseException.__getattribute__"))) (xk_OtherBounds : PySem.W.findIn K (.ref c_OtherBounds) "__getattr__" = some none) (xd_OtherBounds : PySem.W.hasDictIn K c_OtherBounds = true) (xa_OtherBounds : PySem.W.findIn K (.ref c_OtherBounds) "__class__" = some (some (.builtin "object.__class__"))) (xn_OtherBounds : PySem.W.specialIn K (.builtin "object.__class__") "__get__" = some (some (.builtin "getset_descriptor.__get__"))) (xt_OtherBounds : PySem.W.takesIn K (.builtin "object.__class__") = some true) (xm_OtherBounds : PySem.W.mroIn K c_OtherBounds (.type "object") = some true) (xs_OtherBounds : PySem.W.subIn K (.ref c_OtherBounds) (.type "BaseException") = some true)
    (xg_NoLetter : PySem.W.findIn K (.ref c_NoLetter) "__getattribute__" = some (some (.builtin "BaseException.__getattribute__"))) (xk_NoLetter : PySem.W.findIn K (.ref c_NoLetter) "__getattr__" = some none) (xd_NoLetter : PySem.W.hasDictIn K c_NoLetter = true) (xa_NoLetter : PySem.W.findIn K (.ref c_NoLetter) "__class__" = some (some (.builtin "object.__class__"))) (xn_NoLetter : PySem.W.specialIn K (.builtin "object.__class__") "__get__" = some (some (.builtin "getset_descriptor.__get__"))) (xt_NoLetter : PySem.W.takesIn K (.builtin "object.__class__") = some true) (xm_NoLetter : PySem.W.mroIn K c_NoLetter (.type "object") = some true) (xs_NoLetter : PySem.W.subIn K (.ref c_NoLetter) (.type "BaseException") = some true)
    (xg_NoDay : PySem.W.findIn K (.ref c_NoDay) "__getattribute__" = some (some (.builtin "BaseException.__getattribute__"))) (xk_NoDay : PySem.W.findIn K (.ref c_NoDay) "__getattr__" = some none) (xd_NoDay : PySem.W.hasDictIn K c_NoDay = true) (xa_NoDay : PySem.W.findIn K (.ref c_NoDay) "__class__" = some (some (.builtin "object.__class__"))) (xn_NoDay : PySem.W.specialIn K (.builtin "object.__class__") "__get__" = some (some (.builtin "getset_descriptor.__get__"))) (xt_NoDay : PySem.W.takesIn K (.builtin "object.__class__") = some true) (xm_NoDay : PySem.W.mroIn K c_NoDay (.type "object") = some true) (xs_NoDay : PySem.W.subIn K (.ref c_NoDay) (.type "BaseException") = some true)
    (xg_NoLine : PySem.W.findIn K (.ref c_NoLine) "__getattribute__" = some (some (.builtin "BaseException.__getattribute__"))) (xk_NoLine : PySem.W.findIn K (.ref c_NoLine) "__getattr__" = some none) (xd_NoLine : PySem.W.hasDictIn K c_NoLine = true) (xa_NoLine : PySem.W.findIn K (.ref c_NoLine) "__class__" = some (some (.builtin "object.__class__"))) (xn_NoLine : PySem.W.specialIn K (.builtin "object.__class__") "__get__" = some (some (.builtin "getset_descriptor.__get__"))) (xt_NoLine : PySem.W.takesIn K (.builtin "object.__class__") = some true) (xm_NoLine : PySem.W.mroIn K c_NoLine (.type "object") = some true) (xs_NoLine : PySem.W.subIn K (.ref c_NoLine) (.type "BaseException") = some true)
    (xg_BadTable : PySem.W.findIn K (.ref c_BadTable) "__getattribute__" = some (some (.builtin "BaseException.__getattribute__"))) (xk_BadTable : PySem.W.findIn K (.ref c_BadTable) "__getattr__" = some none) (xd_BadTable : PySem.W.hasDictIn K c_BadTable = true) (xa_BadTable : PySem.W.findIn K (.ref c_BadTable) "__class__" = some (some (.builtin "object.__class__"))) (xn_BadTable : PySem.W.specialIn K (.builtin "object.__class__") "__get__" = some (some (.builtin "getset_descriptor.__get__"))) (xt_BadTable : PySem.W.takesIn K (.builtin "object.__class__") = some true) (xm_BadTable : PySem.W.mroIn K c_BadTable (.type "object") = some true) (xs_BadTable : PySem.W.subIn K (.ref c_BadTable) (.type "BaseException") = some true)
    (xg_Meet : PySem.W.findIn K (.ref c_Meet) "__getattribute__" = some (some (.builtin "BaseException.__getattribute__"))) (xk_Meet : PySem.W.findIn K (.ref c_Meet) "__getattr__" = some none) (xd_Meet : PySem.W.hasDictIn K c_Meet = true) (xa_Meet : PySem.W.findIn K (.ref c_Meet) "__class__" = some (some (.builtin "object.__class__"))) (xn_Meet : PySem.W.specialIn K (.builtin "object.__class__") "__get__" = some (some (.builtin "getset_descriptor.__get__"))) (xt_Meet : PySem.W.takesIn K (.builtin "object.__class__") = some true) (xm_Meet : PySem.W.mroIn K c_Meet (.type "object") = some true) (xs_Meet : PySem.W.subIn K (.ref c_Meet) (.type "BaseException") = some true)
    (xg_TooMany : PySem.W.findIn K (.ref c_TooMany) "__getattribute__" = some (some (.builtin "BaseException.__getattribute__"))) (xk_TooMany : PySem.W.findIn K (.ref c_TooMany) "__getattr__" = some none) (xd_TooMany : PySem.W.hasDictIn K c_TooMany = true) (xa_TooMany : PySem.W.findIn K (.ref c_TooMany) "__class__" = some (some (.builtin "object.__class__"))) (xn_TooMany : PySem.W.specialIn K (.builtin "object.__class__") "__get__" = some (some (.builtin "getset_descriptor.__get__"))) (xt_TooMany : PySem.W.takesIn K (.builtin "object.__class__") = some true) (xm_TooMany : PySem.W.mroIn K c_TooMany (.type "object") = some true) (xs_TooMany : PySem.W.subIn K (.ref c_TooMany) (.type "BaseException") = some true)
    (xg_BadText : PySem.W.findIn K (.ref c_BadText) "__getattribute__" = some (some (.builtin "BaseException.__getattribute__"))) (xk_BadText : PySem.W.findIn K (.ref c_BadText) "__getattr__" = some none) (xd_BadText : PySem.W.hasDictIn K c_BadText = true) (xa_BadText : PySem.W.findIn K (.ref c_BadText) "__class__" = some (some (.builtin "object.__class__"))) (xn_BadText : PySem.W.specialIn K (.builtin "object.__class__") "__get__" = some (some (.builtin "getset_descriptor.__get__"))) (xt_BadText : PySem.W.takesIn K (.builtin "object.__class__") = some true) (xm_BadText : PySem.W.mroIn K c_BadText (.type "object") = some true) (xs_BadText : PySem.W.subIn K (.ref c_BadText) (.type "BaseException") = some true)
    (xg_NoName : PySem.W.findIn K (.ref c_NoName) "__getattribute__" = some (some (.builtin "BaseException.__getattribute__"))) (xk_NoName : PySem.W.findIn K (.ref c_NoName) "__getattr__" = some none) (xd_NoName : PySem.W.hasDictIn K c_NoName = true) (xa_NoName : PySem.W.findIn K (.ref c_NoName) "__class__" = some (some (.builtin "object.__class__"))) (xn_NoName : PySem.W.specialIn K (.builtin "object.__class__") "__get__" = some (some (.builtin "getset_descriptor.__get__"))) (xt_NoName : PySem.W.takesIn K (.builtin "object.__class__") = some true) (xm_NoName : PySem.W.mroIn K c_NoName (.type "object") = some true) (xs_NoName : PySem.W.subIn K (.ref c_NoName) (.type "BaseException") = some true)
    (xg_NoDoorings : PySem.W.findIn K (.ref c_NoDoorings) "__getattribute__" = some (some (.builtin "BaseException.__getattribute__"))) (xk_NoDoorings : PySem.W.findIn K (.ref c_NoDoorings) "__getattr__" = some none) (xd_NoDoorings : PySem.W.hasDictIn K c_NoDoorings = true) (xa_NoDoorings : PySem.W.findIn K (.ref c_NoDoorings) "__class__" = some (some (.builtin "object.__class__"))) (xn_NoDoorings : PySem.W.specialIn K (.builtin "object.__class__") "__get__" = some (some (.builtin "getset_descriptor.__get__"))) (xt_NoDoorings : PySem.W.takesIn K (.builtin "object.__class__") = some true) (xm_NoDoorings : PySem.W.mroIn K c_NoDoorings (.type "object") = some true) (xs_NoDoorings : PySem.W.subIn K (.ref c_NoDoorings) (.type "BaseException") = some true)
    (xg_NoLong : PySem.W.findIn K (.ref c_NoLong) "__getattribute__" = some (some (.builtin "BaseException.__getattribute__"))) (xk_NoLong : PySem.W.findIn K (.ref c_NoLong) "__getattr__" = some none) (xd_NoLong : PySem.W.hasDictIn K c_NoLong = true) (xa_NoLong : PySem.W.findIn K (.ref c_NoLong) "__class__" = some (some (.builtin "object.__class__"))) (xn_NoLong : PySem.W.specialIn K (.builtin "object.__class__") "__get__" = some (some (.builtin "getset_descriptor.__get__"))) (xt_NoLong : PySem.W.takesIn K (.builtin "object.__class__") = some true) (xm_NoLong : PySem.W.mroIn K c_NoLong (.type "object") = some true) (xs_NoLong : PySem.W.subIn K (.ref c_NoLong) (.type "BaseException") = some true)
    (xg_NoPrices : PySem.W.findIn K (.ref c_NoPrices) "__getattribute__" = some (some (.builtin "BaseException.__getattribute__"))) (xk_NoPrices : PySem.W.findIn K (.ref c_NoPrices) "__getattr__" = some none) (xd_NoPrices : PySem.W.hasDictIn K c_NoPrices = true) (xa_NoPrices : PySem.W.findIn K (.ref c_NoPrices) "__class__" = some (some (.builtin "object.__class__"))) (xn_NoPrices : PySem.W.specialIn K (.builtin "object.__class__") "__get__" = some (some (.builtin "getset_descriptor.__get__"))) (xt_NoPrices : PySem.W.takesIn K (.builtin "object.__class__") = some true) (xm_NoPrices : PySem.W.mroIn K c_NoPrices (.type "object") = some true) (xs_NoPrices : PySem.W.subIn K (.ref c_NoPrices) (.type "BaseException") = some true)
    (xg_OtherTables : PySem.W.findIn K (.ref c_OtherTables) "__getattribute__" = some (some (.builtin "BaseException.__getattribute__"))) (xk_OtherTables : PySem.W.findIn K (.ref c_OtherTables) "__getattr__" = some none) (xd_OtherTables : PySem.W.hasDictIn K c_OtherTables = true) (xa_OtherTables : PySem.W.findIn K (.ref c_OtherTables) "__class__" = some (some (.builtin "object.__class__"))) (xn_OtherTables : PySem.W.specialIn K (.builtin "object.__class__") "__get__" = some (some (.builtin "getset_descriptor.__get__"))) (xt_OtherTables : PySem.W.takesIn K (.builtin "object.__class__") = some true) (xm_OtherTables : PySem.W.mroIn K c_OtherTables (.type "object") = some true) (xs_OtherTables : PySem.W.subIn K (.ref c_OtherTables) (.type "BaseException") = some true)
    (xg_NoTables : PySem.W.findIn K (.ref c_NoTables) "__getattribute__" = some (some (.builtin "BaseException.__getattribute__"))) (xk_NoTables : PySem.W.findIn K (.ref c_NoTables) "__getattr__" = some none) (xd_NoTables : PySem.W.hasDictIn K c_NoTables = true) (xa_NoTables : PySem.W.findIn K (.ref c_NoTables) "__class__" = some (some (.builtin "object.__class__"))) (xn_NoTables : PySem.W.specialIn K (.builtin "object.__class__") "__get__" = some (some (.builtin "getset_descriptor.__get__"))) (xt_NoTables : PySem.W.takesIn K (.builtin "object.__class__") = some true) (xm_NoTables : PySem.W.mroIn K c_NoTables (.type "object") = some true) (xs_NoTables : PySem.W.subIn K (.ref c_NoTables) (.type "BaseException") = some true)
    (xg_NoTable : PySem.W.findIn K (.ref c_NoTable) "__getattribute__" = some (some (.builtin "BaseException.__getattribute__"))) (xk_NoTable : PySem.W.findIn K (.ref c_NoTable) "__getattr__" = some none) (xd_NoTable : PySem.W.hasDictIn K c_NoTable = true) (xa_NoTable : PySem.W.findIn K (.ref c_NoTable) "__class__" = some (some (.builtin "object.__class__"))) (xn_NoTable : PySem.W.specialIn K (.builtin "object.__class__") "__get__" = some (some (.builtin "getset_descriptor.__get__"))) (xt_NoTable : PySem.W.takesIn K (.builtin "object.__class__") = some true) (xm_NoTable : PySem.W.mroIn K c_NoTable (.type "object") = some true) (xs_NoTable : PySem.W.subIn K (.ref c_NoTable) (.type "BaseException") = some true)
    (xg_BadTree : PySem.W.findIn K (.ref c_BadTree) "__getattribute__" = some (some (.builtin "BaseException.__getattribute__"))) (xk_BadTree : PySem.W.findIn K (.ref c_BadTree) "__getattr__" = some none) (xd_BadTree : PySem.W.hasDictIn K c_BadTree = true) (xa_BadTree : PySem.W.findIn K (.ref c_BadTree) "__class__" = some (some (.builtin "object.__class__"))) (xn_BadTree : PySem.W.specialIn K (.builtin "object.__class__") "__get__" = some (some (.builtin "getset_descriptor.__get__"))) (xt_BadTree : PySem.W.takesIn K (.builtin "object.__class__") = some true) (xm_BadTree : PySem.W.mroIn K c_BadTree (.type "object") = some true) (xs_BadTree : PySem.W.subIn K (.ref c_BadTree) (.type "BaseException") = some true)
    (xg_LoopError : PySem.W.findIn K (.ref c_LoopError) "__getattribute__" = some (some (.builtin "BaseException.__getattribute__"))) (xk_LoopError : PySem.W.findIn K (.ref c_LoopError) "__getattr__" = some none) (xd_LoopError : PySem.W.hasDictIn K c_LoopError = true) (xa_LoopError : PySem.W.findIn K (.ref c_LoopError) "__class__" = some (some (.builtin "object.__class__"))) (xn_LoopError : PySem.W.specialIn K (.builtin "object.__class__") "__get__" = some (some (.builtin "getset_descriptor.__get__"))) (xt_LoopError : PySem.W.takesIn K (.builtin "object.__class__") = some true) (xm_LoopError : PySem.W.mroIn K c_LoopError (.type "object") = some true) (xs_LoopError : PySem.W.subIn K (.ref c_LoopError) (.type "BaseException") = some true)
    (ks_Meet_TooMany : PySem.W.subIn K (.ref c_Meet) (.ref c_TooMany) = some false) (kc_Meet_TooMany : PySem.W.isClsIn K c_TooMany = true) (ky_Meet_TooMany : PySem.W.typeIn K (.ref c_TooMany) = some (.type "type"))
    (kn_Meet_TooMany : (Value.ref c_Meet == Value.ref c_TooMany) = false)
    (ks_NoLoops_TooMany : PySem.W.subIn K (.ref c_NoLoops) (.ref c_TooMany) = some false) (kc_NoLoops_TooMany : PySem.W.isClsIn K c_TooMany = true) (ky_NoLoops_TooMany : PySem.W.typeIn K (.ref c_TooMany) = some (.type "type"))
    (kn_NoLoops_TooMany : (Value.ref c_NoLoops == Value.ref c_TooMany) = false)
    (ks_NoLoops_Meet : PySem.W.subIn K (.ref c_NoLoops) (.ref c_Meet) = some false) (kc_NoLoops_Meet : PySem.W.isClsIn K c_Meet = true) (ky_NoLoops_Meet : PySem.W.typeIn K (.ref c_Meet) = some (.type "type"))
    (kn_NoLoops_Meet : (Value.ref c_NoLoops == Value.ref c_Meet) = false)
    (ks_NoLoops_LoopError : PySem.W.subIn K (.ref c_NoLoops) (.ref c_LoopError) = some true) (kc_NoLoops_LoopError : PySem.W.isClsIn K c_LoopError = true) (ky_NoLoops_LoopError : PySem.W.typeIn K (.ref c_LoopError) = some (.type "type"))
    (nd_kts : ([c_NoComers, c_NoBound, c_NoComings, c_NoSpot, c_NoWalk, c_NoTick, c_NoLoops, c_NotDoubling, c_NoWait, c_NoTotal, c_NoRow, c_NoTold, c_NoStand, c_NoNumber, c_NoLaying, c_NoPlan, c_NotKept, c_NothingDone, c_NotLost, c_Over, c_NoLoop, c_NoWeights, c_NoFraction, c_OtherBounds, c_NoLetter, c_NoDay, c_NoLine, c_BadTable, c_Meet, c_TooMany, c_BadText, c_NoName, c_NoDoorings, c_NoLong, c_NoPrices, c_OtherTables, c_NoTables, c_NoTable, c_BadTree] : List Addr).Nodup) (nl_kts : c_LoopError ∉ ([c_NoComers, c_NoBound, c_NoComings, c_NoSpot, c_NoWalk, c_NoTick, c_NoLoops, c_NotDoubling, c_NoWait, c_NoTotal, c_NoRow, c_NoTold, c_NoStand, c_NoNumber, c_NoLaying, c_NoPlan, c_NotKept, c_NothingDone, c_NotLost, c_Over, c_NoLoop, c_NoWeights, c_NoFraction, c_OtherBounds, c_NoLetter, c_NoDay, c_NoLine, c_BadTable, c_Meet, c_TooMany, c_BadText, c_NoName, c_NoDoorings, c_NoLong, c_NoPrices, c_OtherTables, c_NoTables, c_NoTable, c_BadTree] : List Addr)) (lc_kts : PySem.W.isClsIn K c_LoopError = true) (lt_kts : PySem.W.typeIn K (.ref c_LoopError) = some (.type "type"))
    : ∃ T : Tx K mg, T.a_law = f_law ∧ T.d_law = PySem.W.fnOf "law" "law" (defArgs s_law) (defBody s_law) (defScope s_law) .none kV_law dc_law pm_law an_law cd_law ct_law :=
  ⟨{ a__law_tape := f__law_tape, d__law_tape := _, F__law_tape := fun_mk (st := s__law_tape) l__law_tape c__law_tape k__law_tape, b__law_tape := (fun_mk (st := s__law_tape) l__law_tape c__law_tape k__law_tape).binds (ps := ["script"]) (fun _ _ _ _ _ _ us hl => match us, hl with | [_], _ => rfl), g__law_tape := PySem.W.mg_of X G a__law_tape,
     a__law_pick := f__law_pick, d__law_pick := _, F__law_pick := fun_mk (st := s__law_pick) l__law_pick c__law_pick k__law_pick, b__law_pick := (fun_mk (st := s__law_pick) l__law_pick c__law_pick k__law_pick).binds (ps := ["tape", "size"]) (fun _ _ _ _ _ _ us hl => match us, hl with | [_, _], _ => rfl), g__law_pick := PySem.W.mg_of X G a__law_pick,
     a__law_flags := f__law_flags, d__law_flags := _, F__law_flags := fun_mk (st := s__law_flags) l__law_flags c__law_flags k__law_flags, b__law_flags := (fun_mk (st := s__law_flags) l__law_flags c__law_flags k__law_flags).binds (ps := ["e"]) (fun _ _ _ _ _ _ us hl => match us, hl with | [_], _ => rfl), g__law_flags := PySem.W.mg_of X G a__law_flags,
     a__law_made := f__law_made, d__law_made := _, F__law_made := fun_mk (st := s__law_made) l__law_made c__law_made k__law_made, b__law_made := (fun_mk (st := s__law_made) l__law_made c__law_made k__law_made).binds (ps := ["one", "other"]) (fun _ _ _ _ _ _ us hl => match us, hl with | [_, _], _ => rfl), g__law_made := PySem.W.mg_of X G a__law_made,
     a__law_caught := f__law_caught, d__law_caught := _, F__law_caught := fun_mk (st := s__law_caught) l__law_caught c__law_caught k__law_caught, b__law_caught := (fun_mk (st := s__law_caught) l__law_caught c__law_caught k__law_caught).binds (ps := ["kind", "thing"]) (fun _ _ _ _ _ _ us hl => match us, hl with | [_, _], _ => rfl), g__law_caught := PySem.W.mg_of X G a__law_caught,
     a_law := f_law, d_law := _, F_law := fun_mk (st := s_law) l_law c_law k_law, b_law := (fun_mk (st := s_law) l_law c_law k_law).binds (ps := ["script"]) (fun _ _ _ _ _ _ us hl => match us, hl with | [_], _ => rfl), g_law := PySem.W.mg_of X G a_law,
     m_ValueError := PySem.W.mg_none_of X G z_ValueError,
     m_bool := PySem.W.mg_none_of X G z_bool,
     m_int := PySem.W.mg_none_of X G z_int,
     m_isinstance := PySem.W.mg_none_of X G z_isinstance,
     m_len := PySem.W.mg_none_of X G z_len,
     m_list := PySem.W.mg_none_of X G z_list,
     m_range := PySem.W.mg_none_of X G z_range,
     c_BadTable := c_BadTable, g_BadTable := PySem.W.mg_of X G y_BadTable,
     c_BadText := c_BadText, g_BadText := PySem.W.mg_of X G y_BadText,
     c_BadTree := c_BadTree, g_BadTree := PySem.W.mg_of X G y_BadTree,
     c_LoopError := c_LoopError, g_LoopError := PySem.W.mg_of X G y_LoopError,
     c_Meet := c_Meet, g_Meet := PySem.W.mg_of X G y_Meet,
     c_NoBound := c_NoBound, g_NoBound := PySem.W.mg_of X G y_NoBound,
     c_NoComers := c_NoComers, g_NoComers := PySem.W.mg_of X G y_NoComers,
     c_NoComings := c_NoComings, g_NoComings := PySem.W.mg_of X G y_NoComings,
     c_NoDay := c_NoDay, g_NoDay := PySem.W.mg_of X G y_NoDay,
     c_NoDoorings := c_NoDoorings, g_NoDoorings := PySem.W.mg_of X G y_NoDoorings,
     c_NoFraction := c_NoFraction, g_NoFraction := PySem.W.mg_of X G y_NoFraction,
     c_NoLaying := c_NoLaying, g_NoLaying := PySem.W.mg_of X G y_NoLaying,
     c_NoLetter := c_NoLetter, g_NoLetter := PySem.W.mg_of X G y_NoLetter,
     c_NoLine := c_NoLine, g_NoLine := PySem.W.mg_of X G y_NoLine,
     c_NoLong := c_NoLong, g_NoLong := PySem.W.mg_of X G y_NoLong,
     c_NoLoop := c_NoLoop, g_NoLoop := PySem.W.mg_of X G y_NoLoop,
     c_NoLoops := c_NoLoops, g_NoLoops := PySem.W.mg_of X G y_NoLoops,
     c_NoName := c_NoName, g_NoName := PySem.W.mg_of X G y_NoName,
     c_NoNumber := c_NoNumber, g_NoNumber := PySem.W.mg_of X G y_NoNumber,
     c_NoPlan := c_NoPlan, g_NoPlan := PySem.W.mg_of X G y_NoPlan,
     c_NoPrices := c_NoPrices, g_NoPrices := PySem.W.mg_of X G y_NoPrices,
     c_NoRow := c_NoRow, g_NoRow := PySem.W.mg_of X G y_NoRow,
     c_NoSpot := c_NoSpot, g_NoSpot := PySem.W.mg_of X G y_NoSpot,
     c_NoStand := c_NoStand, g_NoStand := PySem.W.mg_of X G y_NoStand,
     c_NoTable := c_NoTable, g_NoTable := PySem.W.mg_of X G y_NoTable,
     c_NoTables := c_NoTables, g_NoTables := PySem.W.mg_of X G y_NoTables,
     c_NoTick := c_NoTick, g_NoTick := PySem.W.mg_of X G y_NoTick,
     c_NoTold := c_NoTold, g_NoTold := PySem.W.mg_of X G y_NoTold,
     c_NoTotal := c_NoTotal, g_NoTotal := PySem.W.mg_of X G y_NoTotal,
     c_NoWait := c_NoWait, g_NoWait := PySem.W.mg_of X G y_NoWait,
     c_NoWalk := c_NoWalk, g_NoWalk := PySem.W.mg_of X G y_NoWalk,
     c_NoWeights := c_NoWeights, g_NoWeights := PySem.W.mg_of X G y_NoWeights,
     c_NotDoubling := c_NotDoubling, g_NotDoubling := PySem.W.mg_of X G y_NotDoubling,
     c_NotKept := c_NotKept, g_NotKept := PySem.W.mg_of X G y_NotKept,
     c_NotLost := c_NotLost, g_NotLost := PySem.W.mg_of X G y_NotLost,
     c_NothingDone := c_NothingDone, g_NothingDone := PySem.W.mg_of X G y_NothingDone,
     c_OtherBounds := c_OtherBounds, g_OtherBounds := PySem.W.mg_of X G y_OtherBounds,
     c_OtherTables := c_OtherTables, g_OtherTables := PySem.W.mg_of X G y_OtherTables,
     c_Over := c_Over, g_Over := PySem.W.mg_of X G y_Over,
     c_TooMany := c_TooMany, g_TooMany := PySem.W.mg_of X G y_TooMany,
     a_NoComers___init__ := f_NoComers___init__, d_NoComers___init__ := _, F_NoComers___init__ := fun_mk (st := s_NoComers___init__) l_NoComers___init__ c_NoComers___init__ k_NoComers___init__, b_NoComers___init__ := (fun_mk (st := s_NoComers___init__) l_NoComers___init__ c_NoComers___init__ k_NoComers___init__).binds (ps := ["self"]) (fun _ _ _ _ _ _ us hl => match us, hl with | [_], _ => rfl),
     x_NoComers := ⟨⟨nm_NoComers, q_NoComers, N_NoComers, bs_NoComers, _, sn_NoComers, sub_NoComers, ab_NoComers, col_NoComers, dd_NoComers, m0_NoComers, m1_NoComers, m2_NoComers, m3_NoComers, m5_NoComers, xL_NoComers, rfl⟩, sa_NoComers, eC_NoComers, tC_NoComers, kC_NoComers⟩, i_NoComers := a_NoComers___init__, ti_NoComers := tf_NoComers, e_NoComers := exm_self eC_NoComers iC_NoComers tC_NoComers sC_NoComers,
     a_NoBound___init__ := f_NoBound___init__, d_NoBound___init__ := _, F_NoBound___init__ := fun_mk (st := s_NoBound___init__) l_NoBound___init__ c_NoBound___init__ k_NoBound___init__, b_NoBound___init__ := (fun_mk (st := s_NoBound___init__) l_NoBound___init__ c_NoBound___init__ k_NoBound___init__).binds (ps := ["self"]) (fun _ _ _ _ _ _ us hl => match us, hl with | [_], _ => rfl),
     x_NoBound := ⟨⟨nm_NoBound, q_NoBound, N_NoBound, bs_NoBound, _, sn_NoBound, sub_NoBound, ab_NoBound, col_NoBound, dd_NoBound, m0_NoBound, m1_NoBound, m2_NoBound, m3_NoBound, m5_NoBound, xL_NoBound, rfl⟩, sa_NoBound, eC_NoBound, tC_NoBound, kC_NoBound⟩, i_NoBound := a_NoBound___init__, ti_NoBound := tf_NoBound, e_NoBound := exm_self eC_NoBound iC_NoBound tC_NoBound sC_NoBound,
     a_NoComings___init__ := f_NoComings___init__, d_NoComings___init__ := _, F_NoComings___init__ := fun_mk (st := s_NoComings___init__) l_NoComings___init__ c_NoComings___init__ k_NoComings___init__, b_NoComings___init__ := (fun_mk (st := s_NoComings___init__) l_NoComings___init__ c_NoComings___init__ k_NoComings___init__).binds (ps := ["self"]) (fun _ _ _ _ _ _ us hl => match us, hl with | [_], _ => rfl),
     x_NoComings := ⟨⟨nm_NoComings, q_NoComings, N_NoComings, bs_NoComings, _, sn_NoComings, sub_NoComings, ab_NoComings, col_NoComings, dd_NoComings, m0_NoComings, m1_NoComings, m2_NoComings, m3_NoComings, m5_NoComings, xL_NoComings, rfl⟩, sa_NoComings, eC_NoComings, tC_NoComings, kC_NoComings⟩, i_NoComings := a_NoComings___init__, ti_NoComings := tf_NoComings, e_NoComings := exm_self eC_NoComings iC_NoComings tC_NoComings sC_NoComings,
     a_NoSpot___init__ := f_NoSpot___init__, d_NoSpot___init__ := _, F_NoSpot___init__ := fun_mk (st := s_NoSpot___init__) l_NoSpot___init__ c_NoSpot___init__ k_NoSpot___init__, b_NoSpot___init__ := (fun_mk (st := s_NoSpot___init__) l_NoSpot___init__ c_NoSpot___init__ k_NoSpot___init__).binds (ps := ["self"]) (fun _ _ _ _ _ _ us hl => match us, hl with | [_], _ => rfl),
     x_NoSpot := ⟨⟨nm_NoSpot, q_NoSpot, N_NoSpot, bs_NoSpot, _, sn_NoSpot, sub_NoSpot, ab_NoSpot, col_NoSpot, dd_NoSpot, m0_NoSpot, m1_NoSpot, m2_NoSpot, m3_NoSpot, m5_NoSpot, xL_NoSpot, rfl⟩, sa_NoSpot, eC_NoSpot, tC_NoSpot, kC_NoSpot⟩, i_NoSpot := a_NoSpot___init__, ti_NoSpot := tf_NoSpot, e_NoSpot := exm_self eC_NoSpot iC_NoSpot tC_NoSpot sC_NoSpot,
     a_NoWalk___init__ := f_NoWalk___init__, d_NoWalk___init__ := _, F_NoWalk___init__ := fun_mk (st := s_NoWalk___init__) l_NoWalk___init__ c_NoWalk___init__ k_NoWalk___init__, b_NoWalk___init__ := (fun_mk (st := s_NoWalk___init__) l_NoWalk___init__ c_NoWalk___init__ k_NoWalk___init__).binds (ps := ["self"]) (fun _ _ _ _ _ _ us hl => match us, hl with | [_], _ => rfl),
     x_NoWalk := ⟨⟨nm_NoWalk, q_NoWalk, N_NoWalk, bs_NoWalk, _, sn_NoWalk, sub_NoWalk, ab_NoWalk, col_NoWalk, dd_NoWalk, m0_NoWalk, m1_NoWalk, m2_NoWalk, m3_NoWalk, m5_NoWalk, xL_NoWalk, rfl⟩, sa_NoWalk, eC_NoWalk, tC_NoWalk, kC_NoWalk⟩, i_NoWalk := a_NoWalk___init__, ti_NoWalk := tf_NoWalk, e_NoWalk := exm_self eC_NoWalk iC_NoWalk tC_NoWalk sC_NoWalk,
     a_BadTable___init__ := f_BadTable___init__, d_BadTable___init__ := _, F_BadTable___init__ := fun_mk (st := s_BadTable___init__) l_BadTable___init__ c_BadTable___init__ k_BadTable___init__, b_BadTable___init__ := (fun_mk (st := s_BadTable___init__) l_BadTable___init__ c_BadTable___init__ k_BadTable___init__).binds (ps := ["self", "part", "at"]) (fun _ _ _ _ _ _ us hl => match us, hl with | [_, _, _], _ => rfl),
     x_BadTable := ⟨⟨nm_BadTable, q_BadTable, N_BadTable, bs_BadTable, _, sn_BadTable, sub_BadTable, ab_BadTable, col_BadTable, dd_BadTable, m0_BadTable, m1_BadTable, m2_BadTable, m3_BadTable, m5_BadTable, xL_BadTable, rfl⟩, sa_BadTable, eC_BadTable, tC_BadTable, kC_BadTable⟩, i_BadTable := a_BadTable___init__, ti_BadTable := tf_BadTable, e_BadTable := exm_self eC_BadTable iC_BadTable tC_BadTable sC_BadTable,
     n_BadTable_part := n_BadTable_part,
     n_BadTable_at := n_BadTable_at,
     a_Meet___init__ := f_Meet___init__, d_Meet___init__ := _, F_Meet___init__ := fun_mk (st := s_Meet___init__) l_Meet___init__ c_Meet___init__ k_Meet___init__, b_Meet___init__ := (fun_mk (st := s_Meet___init__) l_Meet___init__ c_Meet___init__ k_Meet___init__).binds (ps := ["self", "tick", "loop"]) (fun _ _ _ _ _ _ us hl => match us, hl with | [_, _, _], _ => rfl),
     x_Meet := ⟨⟨nm_Meet, q_Meet, N_Meet, bs_Meet, _, sn_Meet, sub_Meet, ab_Meet, col_Meet, dd_Meet, m0_Meet, m1_Meet, m2_Meet, m3_Meet, m5_Meet, xL_Meet, rfl⟩, sa_Meet, eC_Meet, tC_Meet, kC_Meet⟩, i_Meet := a_Meet___init__, ti_Meet := tf_Meet, e_Meet := exm_self eC_Meet iC_Meet tC_Meet sC_Meet,
     n_Meet_tick := n_Meet_tick,
     n_Meet_loop := n_Meet_loop,
     a_NoTick___init__ := f_NoTick___init__, d_NoTick___init__ := _, F_NoTick___init__ := fun_mk (st := s_NoTick___init__) l_NoTick___init__ c_NoTick___init__ k_NoTick___init__, b_NoTick___init__ := (fun_mk (st := s_NoTick___init__) l_NoTick___init__ c_NoTick___init__ k_NoTick___init__).binds (ps := ["self"]) (fun _ _ _ _ _ _ us hl => match us, hl with | [_], _ => rfl),
     x_NoTick := ⟨⟨nm_NoTick, q_NoTick, N_NoTick, bs_NoTick, _, sn_NoTick, sub_NoTick, ab_NoTick, col_NoTick, dd_NoTick, m0_NoTick, m1_NoTick, m2_NoTick, m3_NoTick, m5_NoTick, xL_NoTick, rfl⟩, sa_NoTick, eC_NoTick, tC_NoTick, kC_NoTick⟩, i_NoTick := a_NoTick___init__, ti_NoTick := tf_NoTick, e_NoTick := exm_self eC_NoTick iC_NoTick tC_NoTick sC_NoTick,
     a_NoLoops___init__ := f_NoLoops___init__, d_NoLoops___init__ := _, F_NoLoops___init__ := fun_mk (st := s_NoLoops___init__) l_NoLoops___init__ c_NoLoops___init__ k_NoLoops___init__, b_NoLoops___init__ := (fun_mk (st := s_NoLoops___init__) l_NoLoops___init__ c_NoLoops___init__ k_NoLoops___init__).binds (ps := ["self"]) (fun _ _ _ _ _ _ us hl => match us, hl with | [_], _ => rfl),
     x_NoLoops := ⟨⟨nm_NoLoops, q_NoLoops, N_NoLoops, bs_NoLoops, _, sn_NoLoops, sub_NoLoops, ab_NoLoops, col_NoLoops, dd_NoLoops, m0_NoLoops, m1_NoLoops, m2_NoLoops, m3_NoLoops, m5_NoLoops, xL_NoLoops, rfl⟩, sa_NoLoops, eC_NoLoops, tC_NoLoops, kC_NoLoops⟩, i_NoLoops := a_NoLoops___init__, ti_NoLoops := tf_NoLoops, e_NoLoops := exm_self eC_NoLoops iC_NoLoops tC_NoLoops sC_NoLoops,
     a_TooMany___init__ := f_TooMany___init__, d_TooMany___init__ := _, F_TooMany___init__ := fun_mk (st := s_TooMany___init__) l_TooMany___init__ c_TooMany___init__ k_TooMany___init__, b_TooMany___init__ := (fun_mk (st := s_TooMany___init__) l_TooMany___init__ c_TooMany___init__ k_TooMany___init__).binds (ps := ["self", "most"]) (fun _ _ _ _ _ _ us hl => match us, hl with | [_, _], _ => rfl),
     x_TooMany := ⟨⟨nm_TooMany, q_TooMany, N_TooMany, bs_TooMany, _, sn_TooMany, sub_TooMany, ab_TooMany, col_TooMany, dd_TooMany, m0_TooMany, m1_TooMany, m2_TooMany, m3_TooMany, m5_TooMany, xL_TooMany, rfl⟩, sa_TooMany, eC_TooMany, tC_TooMany, kC_TooMany⟩, i_TooMany := a_TooMany___init__, ti_TooMany := tf_TooMany, e_TooMany := exm_self eC_TooMany iC_TooMany tC_TooMany sC_TooMany,
     n_TooMany_most := n_TooMany_most,
     a_NotDoubling___init__ := f_NotDoubling___init__, d_NotDoubling___init__ := _, F_NotDoubling___init__ := fun_mk (st := s_NotDoubling___init__) l_NotDoubling___init__ c_NotDoubling___init__ k_NotDoubling___init__, b_NotDoubling___init__ := (fun_mk (st := s_NotDoubling___init__) l_NotDoubling___init__ c_NotDoubling___init__ k_NotDoubling___init__).binds (ps := ["self"]) (fun _ _ _ _ _ _ us hl => match us, hl with | [_], _ => rfl),
     x_NotDoubling := ⟨⟨nm_NotDoubling, q_NotDoubling, N_NotDoubling, bs_NotDoubling, _, sn_NotDoubling, sub_NotDoubling, ab_NotDoubling, col_NotDoubling, dd_NotDoubling, m0_NotDoubling, m1_NotDoubling, m2_NotDoubling, m3_NotDoubling, m5_NotDoubling, xL_NotDoubling, rfl⟩, sa_NotDoubling, eC_NotDoubling, tC_NotDoubling, kC_NotDoubling⟩, i_NotDoubling := a_NotDoubling___init__, ti_NotDoubling := tf_NotDoubling, e_NotDoubling := exm_self eC_NotDoubling iC_NotDoubling tC_NotDoubling sC_NotDoubling,
     a_NoWait___init__ := f_NoWait___init__, d_NoWait___init__ := _, F_NoWait___init__ := fun_mk (st := s_NoWait___init__) l_NoWait___init__ c_NoWait___init__ k_NoWait___init__, b_NoWait___init__ := (fun_mk (st := s_NoWait___init__) l_NoWait___init__ c_NoWait___init__ k_NoWait___init__).binds (ps := ["self"]) (fun _ _ _ _ _ _ us hl => match us, hl with | [_], _ => rfl),
     x_NoWait := ⟨⟨nm_NoWait, q_NoWait, N_NoWait, bs_NoWait, _, sn_NoWait, sub_NoWait, ab_NoWait, col_NoWait, dd_NoWait, m0_NoWait, m1_NoWait, m2_NoWait, m3_NoWait, m5_NoWait, xL_NoWait, rfl⟩, sa_NoWait, eC_NoWait, tC_NoWait, kC_NoWait⟩, i_NoWait := a_NoWait___init__, ti_NoWait := tf_NoWait, e_NoWait := exm_self eC_NoWait iC_NoWait tC_NoWait sC_NoWait,
     a_NoTotal___init__ := f_NoTotal___init__, d_NoTotal___init__ := _, F_NoTotal___init__ := fun_mk (st := s_NoTotal___init__) l_NoTotal___init__ c_NoTotal___init__ k_NoTotal___init__, b_NoTotal___init__ := (fun_mk (st := s_NoTotal___init__) l_NoTotal___init__ c_NoTotal___init__ k_NoTotal___init__).binds (ps := ["self"]) (fun _ _ _ _ _ _ us hl => match us, hl with | [_], _ => rfl),
     x_NoTotal := ⟨⟨nm_NoTotal, q_NoTotal, N_NoTotal, bs_NoTotal, _, sn_NoTotal, sub_NoTotal, ab_NoTotal, col_NoTotal, dd_NoTotal, m0_NoTotal, m1_NoTotal, m2_NoTotal, m3_NoTotal, m5_NoTotal, xL_NoTotal, rfl⟩, sa_NoTotal, eC_NoTotal, tC_NoTotal, kC_NoTotal⟩, i_NoTotal := a_NoTotal___init__, ti_NoTotal := tf_NoTotal, e_NoTotal := exm_self eC_NoTotal iC_NoTotal tC_NoTotal sC_NoTotal,
     a_NoRow___init__ := f_NoRow___init__, d_NoRow___init__ := _, F_NoRow___init__ := fun_mk (st := s_NoRow___init__) l_NoRow___init__ c_NoRow___init__ k_NoRow___init__, b_NoRow___init__ := (fun_mk (st := s_NoRow___init__) l_NoRow___init__ c_NoRow___init__ k_NoRow___init__).binds (ps := ["self"]) (fun _ _ _ _ _ _ us hl => match us, hl with | [_], _ => rfl),
     x_NoRow := ⟨⟨nm_NoRow, q_NoRow, N_NoRow, bs_NoRow, _, sn_NoRow, sub_NoRow, ab_NoRow, col_NoRow, dd_NoRow, m0_NoRow, m1_NoRow, m2_NoRow, m3_NoRow, m5_NoRow, xL_NoRow, rfl⟩, sa_NoRow, eC_NoRow, tC_NoRow, kC_NoRow⟩, i_NoRow := a_NoRow___init__, ti_NoRow := tf_NoRow, e_NoRow := exm_self eC_NoRow iC_NoRow tC_NoRow sC_NoRow,
     a_NoTold___init__ := f_NoTold___init__, d_NoTold___init__ := _, F_NoTold___init__ := fun_mk (st := s_NoTold___init__) l_NoTold___init__ c_NoTold___init__ k_NoTold___init__, b_NoTold___init__ := (fun_mk (st := s_NoTold___init__) l_NoTold___init__ c_NoTold___init__ k_NoTold___init__).binds (ps := ["self"]) (fun _ _ _ _ _ _ us hl => match us, hl with | [_], _ => rfl),
     x_NoTold := ⟨⟨nm_NoTold, q_NoTold, N_NoTold, bs_NoTold, _, sn_NoTold, sub_NoTold, ab_NoTold, col_NoTold, dd_NoTold, m0_NoTold, m1_NoTold, m2_NoTold, m3_NoTold, m5_NoTold, xL_NoTold, rfl⟩, sa_NoTold, eC_NoTold, tC_NoTold, kC_NoTold⟩, i_NoTold := a_NoTold___init__, ti_NoTold := tf_NoTold, e_NoTold := exm_self eC_NoTold iC_NoTold tC_NoTold sC_NoTold,
     a_NoStand___init__ := f_NoStand___init__, d_NoStand___init__ := _, F_NoStand___init__ := fun_mk (st := s_NoStand___init__) l_NoStand___init__ c_NoStand___init__ k_NoStand___init__, b_NoStand___init__ := (fun_mk (st := s_NoStand___init__) l_NoStand___init__ c_NoStand___init__ k_NoStand___init__).binds (ps := ["self"]) (fun _ _ _ _ _ _ us hl => match us, hl with | [_], _ => rfl),
     x_NoStand := ⟨⟨nm_NoStand, q_NoStand, N_NoStand, bs_NoStand, _, sn_NoStand, sub_NoStand, ab_NoStand, col_NoStand, dd_NoStand, m0_NoStand, m1_NoStand, m2_NoStand, m3_NoStand, m5_NoStand, xL_NoStand, rfl⟩, sa_NoStand, eC_NoStand, tC_NoStand, kC_NoStand⟩, i_NoStand := a_NoStand___init__, ti_NoStand := tf_NoStand, e_NoStand := exm_self eC_NoStand iC_NoStand tC_NoStand sC_NoStand,
     a_NoNumber___init__ := f_NoNumber___init__, d_NoNumber___init__ := _, F_NoNumber___init__ := fun_mk (st := s_NoNumber___init__) l_NoNumber___init__ c_NoNumber___init__ k_NoNumber___init__, b_NoNumber___init__ := (fun_mk (st := s_NoNumber___init__) l_NoNumber___init__ c_NoNumber___init__ k_NoNumber___init__).binds (ps := ["self"]) (fun _ _ _ _ _ _ us hl => match us, hl with | [_], _ => rfl),
     x_NoNumber := ⟨⟨nm_NoNumber, q_NoNumber, N_NoNumber, bs_NoNumber, _, sn_NoNumber, sub_NoNumber, ab_NoNumber, col_NoNumber, dd_NoNumber, m0_NoNumber, m1_NoNumber, m2_NoNumber, m3_NoNumber, m5_NoNumber, xL_NoNumber, rfl⟩, sa_NoNumber, eC_NoNumber, tC_NoNumber, kC_NoNumber⟩, i_NoNumber := a_NoNumber___init__, ti_NoNumber := tf_NoNumber, e_NoNumber := exm_self eC_NoNumber iC_NoNumber tC_NoNumber sC_NoNumber,
     a_NoLaying___init__ := f_NoLaying___init__, d_NoLaying___init__ := _, F_NoLaying___init__ := fun_mk (st := s_NoLaying___init__) l_NoLaying___init__ c_NoLaying___init__ k_NoLaying___init__, b_NoLaying___init__ := (fun_mk (st := s_NoLaying___init__) l_NoLaying___init__ c_NoLaying___init__ k_NoLaying___init__).binds (ps := ["self"]) (fun _ _ _ _ _ _ us hl => match us, hl with | [_], _ => rfl),
     x_NoLaying := ⟨⟨nm_NoLaying, q_NoLaying, N_NoLaying, bs_NoLaying, _, sn_NoLaying, sub_NoLaying, ab_NoLaying, col_NoLaying, dd_NoLaying, m0_NoLaying, m1_NoLaying, m2_NoLaying, m3_NoLaying, m5_NoLaying, xL_NoLaying, rfl⟩, sa_NoLaying, eC_NoLaying, tC_NoLaying, kC_NoLaying⟩, i_NoLaying := a_NoLaying___init__, ti_NoLaying := tf_NoLaying, e_NoLaying := exm_self eC_NoLaying iC_NoLaying tC_NoLaying sC_NoLaying,
     a_NoPlan___init__ := f_NoPlan___init__, d_NoPlan___init__ := _, F_NoPlan___init__ := fun_mk (st := s_NoPlan___init__) l_NoPlan___init__ c_NoPlan___init__ k_NoPlan___init__, b_NoPlan___init__ := (fun_mk (st := s_NoPlan___init__) l_NoPlan___init__ c_NoPlan___init__ k_NoPlan___init__).binds (ps := ["self"]) (fun _ _ _ _ _ _ us hl => match us, hl with | [_], _ => rfl),
     x_NoPlan := ⟨⟨nm_NoPlan, q_NoPlan, N_NoPlan, bs_NoPlan, _, sn_NoPlan, sub_NoPlan, ab_NoPlan, col_NoPlan, dd_NoPlan, m0_NoPlan, m1_NoPlan, m2_NoPlan, m3_NoPlan, m5_NoPlan, xL_NoPlan, rfl⟩, sa_NoPlan, eC_NoPlan, tC_NoPlan, kC_NoPlan⟩, i_NoPlan := a_NoPlan___init__, ti_NoPlan := tf_NoPlan, e_NoPlan := exm_self eC_NoPlan iC_NoPlan tC_NoPlan sC_NoPlan,
     a_NotKept___init__ := f_NotKept___init__, d_NotKept___init__ := _, F_NotKept___init__ := fun_mk (st := s_NotKept___init__) l_NotKept___init__ c_NotKept___init__ k_NotKept___init__, b_NotKept___init__ := (fun_mk (st := s_NotKept___init__) l_NotKept___init__ c_NotKept___init__ k_NotKept___init__).binds (ps := ["self"]) (fun _ _ _ _ _ _ us hl => match us, hl with | [_], _ => rfl),
     x_NotKept := ⟨⟨nm_NotKept, q_NotKept, N_NotKept, bs_NotKept, _, sn_NotKept, sub_NotKept, ab_NotKept, col_NotKept, dd_NotKept, m0_NotKept, m1_NotKept, m2_NotKept, m3_NotKept, m5_NotKept, xL_NotKept, rfl⟩, sa_NotKept, eC_NotKept, tC_NotKept, kC_NotKept⟩, i_NotKept := a_NotKept___init__, ti_NotKept := tf_NotKept, e_NotKept := exm_self eC_NotKept iC_NotKept tC_NotKept sC_NotKept,
     a_NothingDone___init__ := f_NothingDone___init__, d_NothingDone___init__ := _, F_NothingDone___init__ := fun_mk (st := s_NothingDone___init__) l_NothingDone___init__ c_NothingDone___init__ k_NothingDone___init__, b_NothingDone___init__ := (fun_mk (st := s_NothingDone___init__) l_NothingDone___init__ c_NothingDone___init__ k_NothingDone___init__).binds (ps := ["self"]) (fun _ _ _ _ _ _ us hl => match us, hl with | [_], _ => rfl),
     x_NothingDone := ⟨⟨nm_NothingDone, q_NothingDone, N_NothingDone, bs_NothingDone, _, sn_NothingDone, sub_NothingDone, ab_NothingDone, col_NothingDone, dd_NothingDone, m0_NothingDone, m1_NothingDone, m2_NothingDone, m3_NothingDone, m5_NothingDone, xL_NothingDone, rfl⟩, sa_NothingDone, eC_NothingDone, tC_NothingDone, kC_NothingDone⟩, i_NothingDone := a_NothingDone___init__, ti_NothingDone := tf_NothingDone, e_NothingDone := exm_self eC_NothingDone iC_NothingDone tC_NothingDone sC_NothingDone,
     a_NotLost___init__ := f_NotLost___init__, d_NotLost___init__ := _, F_NotLost___init__ := fun_mk (st := s_NotLost___init__) l_NotLost___init__ c_NotLost___init__ k_NotLost___init__, b_NotLost___init__ := (fun_mk (st := s_NotLost___init__) l_NotLost___init__ c_NotLost___init__ k_NotLost___init__).binds (ps := ["self"]) (fun _ _ _ _ _ _ us hl => match us, hl with | [_], _ => rfl),
     x_NotLost := ⟨⟨nm_NotLost, q_NotLost, N_NotLost, bs_NotLost, _, sn_NotLost, sub_NotLost, ab_NotLost, col_NotLost, dd_NotLost, m0_NotLost, m1_NotLost, m2_NotLost, m3_NotLost, m5_NotLost, xL_NotLost, rfl⟩, sa_NotLost, eC_NotLost, tC_NotLost, kC_NotLost⟩, i_NotLost := a_NotLost___init__, ti_NotLost := tf_NotLost, e_NotLost := exm_self eC_NotLost iC_NotLost tC_NotLost sC_NotLost,
     a_Over___init__ := f_Over___init__, d_Over___init__ := _, F_Over___init__ := fun_mk (st := s_Over___init__) l_Over___init__ c_Over___init__ k_Over___init__, b_Over___init__ := (fun_mk (st := s_Over___init__) l_Over___init__ c_Over___init__ k_Over___init__).binds (ps := ["self"]) (fun _ _ _ _ _ _ us hl => match us, hl with | [_], _ => rfl),
     x_Over := ⟨⟨nm_Over, q_Over, N_Over, bs_Over, _, sn_Over, sub_Over, ab_Over, col_Over, dd_Over, m0_Over, m1_Over, m2_Over, m3_Over, m5_Over, xL_Over, rfl⟩, sa_Over, eC_Over, tC_Over, kC_Over⟩, i_Over := a_Over___init__, ti_Over := tf_Over, e_Over := exm_self eC_Over iC_Over tC_Over sC_Over,
     a_NoLoop___init__ := f_NoLoop___init__, d_NoLoop___init__ := _, F_NoLoop___init__ := fun_mk (st := s_NoLoop___init__) l_NoLoop___init__ c_NoLoop___init__ k_NoLoop___init__, b_NoLoop___init__ := (fun_mk (st := s_NoLoop___init__) l_NoLoop___init__ c_NoLoop___init__ k_NoLoop___init__).binds (ps := ["self"]) (fun _ _ _ _ _ _ us hl => match us, hl with | [_], _ => rfl),
     x_NoLoop := ⟨⟨nm_NoLoop, q_NoLoop, N_NoLoop, bs_NoLoop, _, sn_NoLoop, sub_NoLoop, ab_NoLoop, col_NoLoop, dd_NoLoop, m0_NoLoop, m1_NoLoop, m2_NoLoop, m3_NoLoop, m5_NoLoop, xL_NoLoop, rfl⟩, sa_NoLoop, eC_NoLoop, tC_NoLoop, kC_NoLoop⟩, i_NoLoop := a_NoLoop___init__, ti_NoLoop := tf_NoLoop, e_NoLoop := exm_self eC_NoLoop iC_NoLoop tC_NoLoop sC_NoLoop,
     a_NoWeights___init__ := f_NoWeights___init__, d_NoWeights___init__ := _, F_NoWeights___init__ := fun_mk (st := s_NoWeights___init__) l_NoWeights___init__ c_NoWeights___init__ k_NoWeights___init__, b_NoWeights___init__ := (fun_mk (st := s_NoWeights___init__) l_NoWeights___init__ c_NoWeights___init__ k_NoWeights___init__).binds (ps := ["self"]) (fun _ _ _ _ _ _ us hl => match us, hl with | [_], _ => rfl),
     x_NoWeights := ⟨⟨nm_NoWeights, q_NoWeights, N_NoWeights, bs_NoWeights, _, sn_NoWeights, sub_NoWeights, ab_NoWeights, col_NoWeights, dd_NoWeights, m0_NoWeights, m1_NoWeights, m2_NoWeights, m3_NoWeights, m5_NoWeights, xL_NoWeights, rfl⟩, sa_NoWeights, eC_NoWeights, tC_NoWeights, kC_NoWeights⟩, i_NoWeights := a_NoWeights___init__, ti_NoWeights := tf_NoWeights, e_NoWeights := exm_self eC_NoWeights iC_NoWeights tC_NoWeights sC_NoWeights,
     a_NoFraction___init__ := f_NoFraction___init__, d_NoFraction___init__ := _, F_NoFraction___init__ := fun_mk (st := s_NoFraction___init__) l_NoFraction___init__ c_NoFraction___init__ k_NoFraction___init__, b_NoFraction___init__ := (fun_mk (st := s_NoFraction___init__) l_NoFraction___init__ c_NoFraction___init__ k_NoFraction___init__).binds (ps := ["self"]) (fun _ _ _ _ _ _ us hl => match us, hl with | [_], _ => rfl),
     x_NoFraction := ⟨⟨nm_NoFraction, q_NoFraction, N_NoFraction, bs_NoFraction, _, sn_NoFraction, sub_NoFraction, ab_NoFraction, col_NoFraction, dd_NoFraction, m0_NoFraction, m1_NoFraction, m2_NoFraction, m3_NoFraction, m5_NoFraction, xL_NoFraction, rfl⟩, sa_NoFraction, eC_NoFraction, tC_NoFraction, kC_NoFraction⟩, i_NoFraction := a_NoFraction___init__, ti_NoFraction := tf_NoFraction, e_NoFraction := exm_self eC_NoFraction iC_NoFraction tC_NoFraction sC_NoFraction,
     a_OtherBounds___init__ := f_OtherBounds___init__, d_OtherBounds___init__ := _, F_OtherBounds___init__ := fun_mk (st := s_OtherBounds___init__) l_OtherBounds___init__ c_OtherBounds___init__ k_OtherBounds___init__, b_OtherBounds___init__ := (fun_mk (st := s_OtherBounds___init__) l_OtherBounds___init__ c_OtherBounds___init__ k_OtherBounds___init__).binds (ps := ["self"]) (fun _ _ _ _ _ _ us hl => match us, hl with | [_], _ => rfl),
     x_OtherBounds := ⟨⟨nm_OtherBounds, q_OtherBounds, N_OtherBounds, bs_OtherBounds, _, sn_OtherBounds, sub_OtherBounds, ab_OtherBounds, col_OtherBounds, dd_OtherBounds, m0_OtherBounds, m1_OtherBounds, m2_OtherBounds, m3_OtherBounds, m5_OtherBounds, xL_OtherBounds, rfl⟩, sa_OtherBounds, eC_OtherBounds, tC_OtherBounds, kC_OtherBounds⟩, i_OtherBounds := a_OtherBounds___init__, ti_OtherBounds := tf_OtherBounds, e_OtherBounds := exm_self eC_OtherBounds iC_OtherBounds tC_OtherBounds sC_OtherBounds,
     a_NoLetter___init__ := f_NoLetter___init__, d_NoLetter___init__ := _, F_NoLetter___init__ := fun_mk (st := s_NoLetter___init__) l_NoLetter___init__ c_NoLetter___init__ k_NoLetter___init__, b_NoLetter___init__ := (fun_mk (st := s_NoLetter___init__) l_NoLetter___init__ c_NoLetter___init__ k_NoLetter___init__).binds (ps := ["self"]) (fun _ _ _ _ _ _ us hl => match us, hl with | [_], _ => rfl),
     x_NoLetter := ⟨⟨nm_NoLetter, q_NoLetter, N_NoLetter, bs_NoLetter, _, sn_NoLetter, sub_NoLetter, ab_NoLetter, col_NoLetter, dd_NoLetter, m0_NoLetter, m1_NoLetter, m2_NoLetter, m3_NoLetter, m5_NoLetter, xL_NoLetter, rfl⟩, sa_NoLetter, eC_NoLetter, tC_NoLetter, kC_NoLetter⟩, i_NoLetter := a_NoLetter___init__, ti_NoLetter := tf_NoLetter, e_NoLetter := exm_self eC_NoLetter iC_NoLetter tC_NoLetter sC_NoLetter,
     a_NoDay___init__ := f_NoDay___init__, d_NoDay___init__ := _, F_NoDay___init__ := fun_mk (st := s_NoDay___init__) l_NoDay___init__ c_NoDay___init__ k_NoDay___init__, b_NoDay___init__ := (fun_mk (st := s_NoDay___init__) l_NoDay___init__ c_NoDay___init__ k_NoDay___init__).binds (ps := ["self"]) (fun _ _ _ _ _ _ us hl => match us, hl with | [_], _ => rfl),
     x_NoDay := ⟨⟨nm_NoDay, q_NoDay, N_NoDay, bs_NoDay, _, sn_NoDay, sub_NoDay, ab_NoDay, col_NoDay, dd_NoDay, m0_NoDay, m1_NoDay, m2_NoDay, m3_NoDay, m5_NoDay, xL_NoDay, rfl⟩, sa_NoDay, eC_NoDay, tC_NoDay, kC_NoDay⟩, i_NoDay := a_NoDay___init__, ti_NoDay := tf_NoDay, e_NoDay := exm_self eC_NoDay iC_NoDay tC_NoDay sC_NoDay,
     a_BadText___init__ := f_BadText___init__, d_BadText___init__ := _, F_BadText___init__ := fun_mk (st := s_BadText___init__) l_BadText___init__ c_BadText___init__ k_BadText___init__, b_BadText___init__ := (fun_mk (st := s_BadText___init__) l_BadText___init__ c_BadText___init__ k_BadText___init__).binds (ps := ["self", "line"]) (fun _ _ _ _ _ _ us hl => match us, hl with | [_, _], _ => rfl),
     x_BadText := ⟨⟨nm_BadText, q_BadText, N_BadText, bs_BadText, _, sn_BadText, sub_BadText, ab_BadText, col_BadText, dd_BadText, m0_BadText, m1_BadText, m2_BadText, m3_BadText, m5_BadText, xL_BadText, rfl⟩, sa_BadText, eC_BadText, tC_BadText, kC_BadText⟩, i_BadText := a_BadText___init__, ti_BadText := tf_BadText, e_BadText := exm_self eC_BadText iC_BadText tC_BadText sC_BadText,
     n_BadText_line := n_BadText_line,
     a_NoLine___init__ := f_NoLine___init__, d_NoLine___init__ := _, F_NoLine___init__ := fun_mk (st := s_NoLine___init__) l_NoLine___init__ c_NoLine___init__ k_NoLine___init__, b_NoLine___init__ := (fun_mk (st := s_NoLine___init__) l_NoLine___init__ c_NoLine___init__ k_NoLine___init__).binds (ps := ["self"]) (fun _ _ _ _ _ _ us hl => match us, hl with | [_], _ => rfl),
     x_NoLine := ⟨⟨nm_NoLine, q_NoLine, N_NoLine, bs_NoLine, _, sn_NoLine, sub_NoLine, ab_NoLine, col_NoLine, dd_NoLine, m0_NoLine, m1_NoLine, m2_NoLine, m3_NoLine, m5_NoLine, xL_NoLine, rfl⟩, sa_NoLine, eC_NoLine, tC_NoLine, kC_NoLine⟩, i_NoLine := a_NoLine___init__, ti_NoLine := tf_NoLine, e_NoLine := exm_self eC_NoLine iC_NoLine tC_NoLine sC_NoLine,
     a_NoName___init__ := f_NoName___init__, d_NoName___init__ := _, F_NoName___init__ := fun_mk (st := s_NoName___init__) l_NoName___init__ c_NoName___init__ k_NoName___init__, b_NoName___init__ := (fun_mk (st := s_NoName___init__) l_NoName___init__ c_NoName___init__ k_NoName___init__).binds (ps := ["self", "name"]) (fun _ _ _ _ _ _ us hl => match us, hl with | [_, _], _ => rfl),
     x_NoName := ⟨⟨nm_NoName, q_NoName, N_NoName, bs_NoName, _, sn_NoName, sub_NoName, ab_NoName, col_NoName, dd_NoName, m0_NoName, m1_NoName, m2_NoName, m3_NoName, m5_NoName, xL_NoName, rfl⟩, sa_NoName, eC_NoName, tC_NoName, kC_NoName⟩, i_NoName := a_NoName___init__, ti_NoName := tf_NoName, e_NoName := exm_self eC_NoName iC_NoName tC_NoName sC_NoName,
     n_NoName_name := n_NoName_name,
     a_BadTree___init__ := f_BadTree___init__, d_BadTree___init__ := _, F_BadTree___init__ := fun_mk (st := s_BadTree___init__) l_BadTree___init__ c_BadTree___init__ k_BadTree___init__, b_BadTree___init__ := (fun_mk (st := s_BadTree___init__) l_BadTree___init__ c_BadTree___init__ k_BadTree___init__).binds (ps := ["self", "at"]) (fun _ _ _ _ _ _ us hl => match us, hl with | [_, _], _ => rfl),
     x_BadTree := ⟨⟨nm_BadTree, q_BadTree, N_BadTree, bs_BadTree, _, sn_BadTree, sub_BadTree, ab_BadTree, col_BadTree, dd_BadTree, m0_BadTree, m1_BadTree, m2_BadTree, m3_BadTree, m5_BadTree, xL_BadTree, rfl⟩, sa_BadTree, eC_BadTree, tC_BadTree, kC_BadTree⟩, i_BadTree := a_BadTree___init__, ti_BadTree := tf_BadTree, e_BadTree := exm_self eC_BadTree iC_BadTree tC_BadTree sC_BadTree,
     n_BadTree_at := n_BadTree_at,
     a_NoDoorings___init__ := f_NoDoorings___init__, d_NoDoorings___init__ := _, F_NoDoorings___init__ := fun_mk (st := s_NoDoorings___init__) l_NoDoorings___init__ c_NoDoorings___init__ k_NoDoorings___init__, b_NoDoorings___init__ := (fun_mk (st := s_NoDoorings___init__) l_NoDoorings___init__ c_NoDoorings___init__ k_NoDoorings___init__).binds (ps := ["self"]) (fun _ _ _ _ _ _ us hl => match us, hl with | [_], _ => rfl),
     x_NoDoorings := ⟨⟨nm_NoDoorings, q_NoDoorings, N_NoDoorings, bs_NoDoorings, _, sn_NoDoorings, sub_NoDoorings, ab_NoDoorings, col_NoDoorings, dd_NoDoorings, m0_NoDoorings, m1_NoDoorings, m2_NoDoorings, m3_NoDoorings, m5_NoDoorings, xL_NoDoorings, rfl⟩, sa_NoDoorings, eC_NoDoorings, tC_NoDoorings, kC_NoDoorings⟩, i_NoDoorings := a_NoDoorings___init__, ti_NoDoorings := tf_NoDoorings, e_NoDoorings := exm_self eC_NoDoorings iC_NoDoorings tC_NoDoorings sC_NoDoorings,
     a_NoLong___init__ := f_NoLong___init__, d_NoLong___init__ := _, F_NoLong___init__ := fun_mk (st := s_NoLong___init__) l_NoLong___init__ c_NoLong___init__ k_NoLong___init__, b_NoLong___init__ := (fun_mk (st := s_NoLong___init__) l_NoLong___init__ c_NoLong___init__ k_NoLong___init__).binds (ps := ["self"]) (fun _ _ _ _ _ _ us hl => match us, hl with | [_], _ => rfl),
     x_NoLong := ⟨⟨nm_NoLong, q_NoLong, N_NoLong, bs_NoLong, _, sn_NoLong, sub_NoLong, ab_NoLong, col_NoLong, dd_NoLong, m0_NoLong, m1_NoLong, m2_NoLong, m3_NoLong, m5_NoLong, xL_NoLong, rfl⟩, sa_NoLong, eC_NoLong, tC_NoLong, kC_NoLong⟩, i_NoLong := a_NoLong___init__, ti_NoLong := tf_NoLong, e_NoLong := exm_self eC_NoLong iC_NoLong tC_NoLong sC_NoLong,
     a_NoPrices___init__ := f_NoPrices___init__, d_NoPrices___init__ := _, F_NoPrices___init__ := fun_mk (st := s_NoPrices___init__) l_NoPrices___init__ c_NoPrices___init__ k_NoPrices___init__, b_NoPrices___init__ := (fun_mk (st := s_NoPrices___init__) l_NoPrices___init__ c_NoPrices___init__ k_NoPrices___init__).binds (ps := ["self"]) (fun _ _ _ _ _ _ us hl => match us, hl with | [_], _ => rfl),
     x_NoPrices := ⟨⟨nm_NoPrices, q_NoPrices, N_NoPrices, bs_NoPrices, _, sn_NoPrices, sub_NoPrices, ab_NoPrices, col_NoPrices, dd_NoPrices, m0_NoPrices, m1_NoPrices, m2_NoPrices, m3_NoPrices, m5_NoPrices, xL_NoPrices, rfl⟩, sa_NoPrices, eC_NoPrices, tC_NoPrices, kC_NoPrices⟩, i_NoPrices := a_NoPrices___init__, ti_NoPrices := tf_NoPrices, e_NoPrices := exm_self eC_NoPrices iC_NoPrices tC_NoPrices sC_NoPrices,
     a_OtherTables___init__ := f_OtherTables___init__, d_OtherTables___init__ := _, F_OtherTables___init__ := fun_mk (st := s_OtherTables___init__) l_OtherTables___init__ c_OtherTables___init__ k_OtherTables___init__, b_OtherTables___init__ := (fun_mk (st := s_OtherTables___init__) l_OtherTables___init__ c_OtherTables___init__ k_OtherTables___init__).binds (ps := ["self"]) (fun _ _ _ _ _ _ us hl => match us, hl with | [_], _ => rfl),
     x_OtherTables := ⟨⟨nm_OtherTables, q_OtherTables, N_OtherTables, bs_OtherTables, _, sn_OtherTables, sub_OtherTables, ab_OtherTables, col_OtherTables, dd_OtherTables, m0_OtherTables, m1_OtherTables, m2_OtherTables, m3_OtherTables, m5_OtherTables, xL_OtherTables, rfl⟩, sa_OtherTables, eC_OtherTables, tC_OtherTables, kC_OtherTables⟩, i_OtherTables := a_OtherTables___init__, ti_OtherTables := tf_OtherTables, e_OtherTables := exm_self eC_OtherTables iC_OtherTables tC_OtherTables sC_OtherTables,
     a_NoTables___init__ := f_NoTables___init__, d_NoTables___init__ := _, F_NoTables___init__ := fun_mk (st := s_NoTables___init__) l_NoTables___init__ c_NoTables___init__ k_NoTables___init__, b_NoTables___init__ := (fun_mk (st := s_NoTables___init__) l_NoTables___init__ c_NoTables___init__ k_NoTables___init__).binds (ps := ["self"]) (fun _ _ _ _ _ _ us hl => match us, hl with | [_], _ => rfl),
     x_NoTables := ⟨⟨nm_NoTables, q_NoTables, N_NoTables, bs_NoTables, _, sn_NoTables, sub_NoTables, ab_NoTables, col_NoTables, dd_NoTables, m0_NoTables, m1_NoTables, m2_NoTables, m3_NoTables, m5_NoTables, xL_NoTables, rfl⟩, sa_NoTables, eC_NoTables, tC_NoTables, kC_NoTables⟩, i_NoTables := a_NoTables___init__, ti_NoTables := tf_NoTables, e_NoTables := exm_self eC_NoTables iC_NoTables tC_NoTables sC_NoTables,
     a_NoTable___init__ := f_NoTable___init__, d_NoTable___init__ := _, F_NoTable___init__ := fun_mk (st := s_NoTable___init__) l_NoTable___init__ c_NoTable___init__ k_NoTable___init__, b_NoTable___init__ := (fun_mk (st := s_NoTable___init__) l_NoTable___init__ c_NoTable___init__ k_NoTable___init__).binds (ps := ["self"]) (fun _ _ _ _ _ _ us hl => match us, hl with | [_], _ => rfl),
     x_NoTable := ⟨⟨nm_NoTable, q_NoTable, N_NoTable, bs_NoTable, _, sn_NoTable, sub_NoTable, ab_NoTable, col_NoTable, dd_NoTable, m0_NoTable, m1_NoTable, m2_NoTable, m3_NoTable, m5_NoTable, xL_NoTable, rfl⟩, sa_NoTable, eC_NoTable, tC_NoTable, kC_NoTable⟩, i_NoTable := a_NoTable___init__, ti_NoTable := tf_NoTable, e_NoTable := exm_self eC_NoTable iC_NoTable tC_NoTable sC_NoTable,
     ec_NoComers := ⟨xg_NoComers, xk_NoComers, xs_NoComers, xd_NoComers, xa_NoComers, xn_NoComers, xt_NoComers, xm_NoComers⟩,
     ec_NoBound := ⟨xg_NoBound, xk_NoBound, xs_NoBound, xd_NoBound, xa_NoBound, xn_NoBound, xt_NoBound, xm_NoBound⟩,
     ec_NoComings := ⟨xg_NoComings, xk_NoComings, xs_NoComings, xd_NoComings, xa_NoComings, xn_NoComings, xt_NoComings, xm_NoComings⟩,
     ec_NoSpot := ⟨xg_NoSpot, xk_NoSpot, xs_NoSpot, xd_NoSpot, xa_NoSpot, xn_NoSpot, xt_NoSpot, xm_NoSpot⟩,
     ec_NoWalk := ⟨xg_NoWalk, xk_NoWalk, xs_NoWalk, xd_NoWalk, xa_NoWalk, xn_NoWalk, xt_NoWalk, xm_NoWalk⟩,
     ec_NoTick := ⟨xg_NoTick, xk_NoTick, xs_NoTick, xd_NoTick, xa_NoTick, xn_NoTick, xt_NoTick, xm_NoTick⟩,
     ec_NoLoops := ⟨xg_NoLoops, xk_NoLoops, xs_NoLoops, xd_NoLoops, xa_NoLoops, xn_NoLoops, xt_NoLoops, xm_NoLoops⟩,
     ec_NotDoubling := ⟨xg_NotDoubling, xk_NotDoubling, xs_NotDoubling, xd_NotDoubling, xa_NotDoubling, xn_NotDoubling, xt_NotDoubling, xm_NotDoubling⟩,
     ec_NoWait := ⟨xg_NoWait, xk_NoWait, xs_NoWait, xd_NoWait, xa_NoWait, xn_NoWait, xt_NoWait, xm_NoWait⟩,
     ec_NoTotal := ⟨xg_NoTotal, xk_NoTotal, xs_NoTotal, xd_NoTotal, xa_NoTotal, xn_NoTotal, xt_NoTotal, xm_NoTotal⟩,
     ec_NoRow := ⟨xg_NoRow, xk_NoRow, xs_NoRow, xd_NoRow, xa_NoRow, xn_NoRow, xt_NoRow, xm_NoRow⟩,
     ec_NoTold := ⟨xg_NoTold, xk_NoTold, xs_NoTold, xd_NoTold, xa_NoTold, xn_NoTold, xt_NoTold, xm_NoTold⟩,
     ec_NoStand := ⟨xg_NoStand, xk_NoStand, xs_NoStand, xd_NoStand, xa_NoStand, xn_NoStand, xt_NoStand, xm_NoStand⟩,
     ec_NoNumber := ⟨xg_NoNumber, xk_NoNumber, xs_NoNumber, xd_NoNumber, xa_NoNumber, xn_NoNumber, xt_NoNumber, xm_NoNumber⟩,
     ec_NoLaying := ⟨xg_NoLaying, xk_NoLaying, xs_NoLaying, xd_NoLaying, xa_NoLaying, xn_NoLaying, xt_NoLaying, xm_NoLaying⟩,
     ec_NoPlan := ⟨xg_NoPlan, xk_NoPlan, xs_NoPlan, xd_NoPlan, xa_NoPlan, xn_NoPlan, xt_NoPlan, xm_NoPlan⟩,
     ec_NotKept := ⟨xg_NotKept, xk_NotKept, xs_NotKept, xd_NotKept, xa_NotKept, xn_NotKept, xt_NotKept, xm_NotKept⟩,
     ec_NothingDone := ⟨xg_NothingDone, xk_NothingDone, xs_NothingDone, xd_NothingDone, xa_NothingDone, xn_NothingDone, xt_NothingDone, xm_NothingDone⟩,
     ec_NotLost := ⟨xg_NotLost, xk_NotLost, xs_NotLost, xd_NotLost, xa_NotLost, xn_NotLost, xt_NotLost, xm_NotLost⟩,
     ec_Over := ⟨xg_Over, xk_Over, xs_Over, xd_Over, xa_Over, xn_Over, xt_Over, xm_Over⟩,
     ec_NoLoop := ⟨xg_NoLoop, xk_NoLoop, xs_NoLoop, xd_NoLoop, xa_NoLoop, xn_NoLoop, xt_NoLoop, xm_NoLoop⟩,
     ec_NoWeights := ⟨xg_NoWeights, xk_NoWeights, xs_NoWeights, xd_NoWeights, xa_NoWeights, xn_NoWeights, xt_NoWeights, xm_NoWeights⟩,
     ec_NoFraction := ⟨xg_NoFraction, xk_NoFraction, xs_NoFraction, xd_NoFraction, xa_NoFraction, xn_NoFraction, xt_NoFraction, xm_NoFraction⟩,
     ec_OtherBounds := ⟨xg_OtherBounds, xk_OtherBounds, xs_OtherBounds, xd_OtherBounds, xa_OtherBounds, xn_OtherBounds, xt_OtherBounds, xm_OtherBounds⟩,
     ec_NoLetter := ⟨xg_NoLetter, xk_NoLetter, xs_NoLetter, xd_NoLetter, xa_NoLetter, xn_NoLetter, xt_NoLetter, xm_NoLetter⟩,
     ec_NoDay := ⟨xg_NoDay, xk_NoDay, xs_NoDay, xd_NoDay, xa_NoDay, xn_NoDay, xt_NoDay, xm_NoDay⟩,
     ec_NoLine := ⟨xg_NoLine, xk_NoLine, xs_NoLine, xd_NoLine, xa_NoLine, xn_NoLine, xt_NoLine, xm_NoLine⟩,
     ec_BadTable := ⟨xg_BadTable, xk_BadTable, xs_BadTable, xd_BadTable, xa_BadTable, xn_BadTable, xt_BadTable, xm_BadTable⟩,
     ec_Meet := ⟨xg_Meet, xk_Meet, xs_Meet, xd_Meet, xa_Meet, xn_Meet, xt_Meet, xm_Meet⟩,
     ec_TooMany := ⟨xg_TooMany, xk_TooMany, xs_TooMany, xd_TooMany, xa_TooMany, xn_TooMany, xt_TooMany, xm_TooMany⟩,
     ec_BadText := ⟨xg_BadText, xk_BadText, xs_BadText, xd_BadText, xa_BadText, xn_BadText, xt_BadText, xm_BadText⟩,
     ec_NoName := ⟨xg_NoName, xk_NoName, xs_NoName, xd_NoName, xa_NoName, xn_NoName, xt_NoName, xm_NoName⟩,
     ec_NoDoorings := ⟨xg_NoDoorings, xk_NoDoorings, xs_NoDoorings, xd_NoDoorings, xa_NoDoorings, xn_NoDoorings, xt_NoDoorings, xm_NoDoorings⟩,
     ec_NoLong := ⟨xg_NoLong, xk_NoLong, xs_NoLong, xd_NoLong, xa_NoLong, xn_NoLong, xt_NoLong, xm_NoLong⟩,
     ec_NoPrices := ⟨xg_NoPrices, xk_NoPrices, xs_NoPrices, xd_NoPrices, xa_NoPrices, xn_NoPrices, xt_NoPrices, xm_NoPrices⟩,
     ec_OtherTables := ⟨xg_OtherTables, xk_OtherTables, xs_OtherTables, xd_OtherTables, xa_OtherTables, xn_OtherTables, xt_OtherTables, xm_OtherTables⟩,
     ec_NoTables := ⟨xg_NoTables, xk_NoTables, xs_NoTables, xd_NoTables, xa_NoTables, xn_NoTables, xt_NoTables, xm_NoTables⟩,
     ec_NoTable := ⟨xg_NoTable, xk_NoTable, xs_NoTable, xd_NoTable, xa_NoTable, xn_NoTable, xt_NoTable, xm_NoTable⟩,
     ec_BadTree := ⟨xg_BadTree, xk_BadTree, xs_BadTree, xd_BadTree, xa_BadTree, xn_BadTree, xt_BadTree, xm_BadTree⟩,
     ec_LoopError := ⟨xg_LoopError, xk_LoopError, xs_LoopError, xd_LoopError, xa_LoopError, xn_LoopError, xt_LoopError, xm_LoopError⟩,
     kt_Meet_TooMany := EX6.kit_ownN ks_Meet_TooMany kc_Meet_TooMany ky_Meet_TooMany kn_Meet_TooMany,
     kt_NoLoops_TooMany := EX6.kit_ownN ks_NoLoops_TooMany kc_NoLoops_TooMany ky_NoLoops_TooMany kn_NoLoops_TooMany,
     kt_NoLoops_Meet := EX6.kit_ownN ks_NoLoops_Meet kc_NoLoops_Meet ky_NoLoops_Meet kn_NoLoops_Meet,
     kt_NoLoops_LoopError := EX6.kit_own ks_NoLoops_LoopError kc_NoLoops_LoopError ky_NoLoops_LoopError,
     kts := EX15.kts_of (⟨⟨⟨nm_NoComers, q_NoComers, N_NoComers, bs_NoComers, sn_NoComers, sub_NoComers, ab_NoComers, col_NoComers, dd_NoComers, m0_NoComers, m1_NoComers, m2_NoComers, m3_NoComers, m5_NoComers, xL_NoComers⟩, tC_NoComers, ⟨xg_NoComers, xk_NoComers, xs_NoComers, xd_NoComers, xa_NoComers, xn_NoComers, xt_NoComers, xm_NoComers⟩⟩, ⟨⟨nm_NoBound, q_NoBound, N_NoBound, bs_NoBound, sn_NoBound, sub_NoBound, ab_NoBound, col_NoBound, dd_NoBound, m0_NoBound, m1_NoBound, m2_NoBound, m3_NoBound, m5_NoBound, xL_NoBound⟩, tC_NoBound, ⟨xg_NoBound, xk_NoBound, xs_NoBound, xd_NoBound, xa_NoBound, xn_NoBound, xt_NoBound, xm_NoBound⟩⟩, ⟨⟨nm_NoComings, q_NoComings, N_NoComings, bs_NoComings, sn_NoComings, sub_NoComings, ab_NoComings, col_NoComings, dd_NoComings, m0_NoComings, m1_NoComings, m2_NoComings, m3_NoComings, m5_NoComings, xL_NoComings⟩, tC_NoComings, ⟨xg_NoComings, xk_NoComings, xs_NoComings, xd_NoComings, xa_NoComings, xn_NoComings, xt_NoComings, xm_NoComings⟩⟩, ⟨⟨nm_NoSpot, q_NoSpot, N_NoSpot, bs_NoSpot, sn_NoSpot, sub_NoSpot, ab_NoSpot, col_NoSpot, dd_NoSpot, m0_NoSpot, m1_NoSpot, m2_NoSpot, m3_NoSpot, m5_NoSpot, xL_NoSpot⟩, tC_NoSpot, ⟨xg_NoSpot, xk_NoSpot, xs_NoSpot, xd_NoSpot, xa_NoSpot, xn_NoSpot, xt_NoSpot, xm_NoSpot⟩⟩, ⟨⟨nm_NoWalk, q_NoWalk, N_NoWalk, bs_NoWalk, sn_NoWalk, sub_NoWalk, ab_NoWalk, col_NoWalk, dd_NoWalk, m0_NoWalk, m1_NoWalk, m2_NoWalk, m3_NoWalk, m5_NoWalk, xL_NoWalk⟩, tC_NoWalk, ⟨xg_NoWalk, xk_NoWalk, xs_NoWalk, xd_NoWalk, xa_NoWalk, xn_NoWalk, xt_NoWalk, xm_NoWalk⟩⟩, ⟨⟨nm_NoTick, q_NoTick, N_NoTick, bs_NoTick, sn_NoTick, sub_NoTick, ab_NoTick, col_NoTick, dd_NoTick, m0_NoTick, m1_NoTick, m2_NoTick, m3_NoTick, m5_NoTick, xL_NoTick⟩, tC_NoTick, ⟨xg_NoTick, xk_NoTick, xs_NoTick, xd_NoTick, xa_NoTick, xn_NoTick, xt_NoTick, xm_NoTick⟩⟩, ⟨⟨nm_NoLoops, q_NoLoops, N_NoLoops, bs_NoLoops, sn_NoLoops, sub_NoLoops, ab_NoLoops, col_NoLoops, dd_NoLoops, m0_NoLoops, m1_NoLoops, m2_NoLoops, m3_NoLoops, m5_NoLoops, xL_NoLoops⟩, tC_NoLoops, ⟨xg_NoLoops, xk_NoLoops, xs_NoLoops, xd_NoLoops, xa_NoLoops, xn_NoLoops, xt_NoLoops, xm_NoLoops⟩⟩, ⟨⟨nm_NotDoubling, q_NotDoubling, N_NotDoubling, bs_NotDoubling, sn_NotDoubling, sub_NotDoubling, ab_NotDoubling, col_NotDoubling, dd_NotDoubling, m0_NotDoubling, m1_NotDoubling, m2_NotDoubling, m3_NotDoubling, m5_NotDoubling, xL_NotDoubling⟩, tC_NotDoubling, ⟨xg_NotDoubling, xk_NotDoubling, xs_NotDoubling, xd_NotDoubling, xa_NotDoubling, xn_NotDoubling, xt_NotDoubling, xm_NotDoubling⟩⟩, ⟨⟨nm_NoWait, q_NoWait, N_NoWait, bs_NoWait, sn_NoWait, sub_NoWait, ab_NoWait, col_NoWait, dd_NoWait, m0_NoWait, m1_NoWait, m2_NoWait, m3_NoWait, m5_NoWait, xL_NoWait⟩, tC_NoWait, ⟨xg_NoWait, xk_NoWait, xs_NoWait, xd_NoWait, xa_NoWait, xn_NoWait, xt_NoWait, xm_NoWait⟩⟩, ⟨⟨nm_NoTotal, q_NoTotal, N_NoTotal, bs_NoTotal, sn_NoTotal, sub_NoTotal, ab_NoTotal, col_NoTotal, dd_NoTotal, m0_NoTotal, m1_NoTotal, m2_NoTotal, m3_NoTotal, m5_NoTotal, xL_NoTotal⟩, tC_NoTotal, ⟨xg_NoTotal, xk_NoTotal, xs_NoTotal, xd_NoTotal, xa_NoTotal, xn_NoTotal, xt_NoTotal, xm_NoTotal⟩⟩, ⟨⟨nm_NoRow, q_NoRow, N_NoRow, bs_NoRow, sn_NoRow, sub_NoRow, ab_NoRow, col_NoRow, dd_NoRow, m0_NoRow, m1_NoRow, m2_NoRow, m3_NoRow, m5_NoRow, xL_NoRow⟩, tC_NoRow, ⟨xg_NoRow, xk_NoRow, xs_NoRow, xd_NoRow, xa_NoRow, xn_NoRow, xt_NoRow, xm_NoRow⟩⟩, ⟨⟨nm_NoTold, q_NoTold, N_NoTold, bs_NoTold, sn_NoTold, sub_NoTold, ab_NoTold, col_NoTold, dd_NoTold, m0_NoTold, m1_NoTold, m2_NoTold, m3_NoTold, m5_NoTold, xL_NoTold⟩, tC_NoTold, ⟨xg_NoTold, xk_NoTold, xs_NoTold, xd_NoTold, xa_NoTold, xn_NoTold, xt_NoTold, xm_NoTold⟩⟩, ⟨⟨nm_NoStand, q_NoStand, N_NoStand, bs_NoStand, sn_NoStand, sub_NoStand, ab_NoStand, col_NoStand, dd_NoStand, m0_NoStand, m1_NoStand, m2_NoStand, m3_NoStand, m5_NoStand, xL_NoStand⟩, tC_NoStand, ⟨xg_NoStand, xk_NoStand, xs_NoStand, xd_NoStand, xa_NoStand, xn_NoStand, xt_NoStand, xm_NoStand⟩⟩, ⟨⟨nm_NoNumber, q_NoNumber, N_NoNumber, bs_NoNumber, sn_NoNumber, sub_NoNumber, ab_NoNumber, col_NoNumber, dd_NoNumber, m0_NoNumber, m1_NoNumber, m2_NoNumber, m3_NoNumber, m5_NoNumber, xL_NoNumber⟩, tC_NoNumber, ⟨xg_NoNumber, xk_NoNumber, xs_NoNumber, xd_NoNumber, xa_NoNumber, xn_NoNumber, xt_NoNumber, xm_NoNumber⟩⟩, ⟨⟨nm_NoLaying, q_NoLaying, N_NoLaying, bs_NoLaying, sn_NoLaying, sub_NoLaying, ab_NoLaying, col_NoLaying, dd_NoLaying, m0_NoLaying, m1_NoLaying, m2_NoLaying, m3_NoLaying, m5_NoLaying, xL_NoLaying⟩, tC_NoLaying, ⟨xg_NoLaying, xk_NoLaying, xs_NoLaying, xd_NoLaying, xa_NoLaying, xn_NoLaying, xt_NoLaying, xm_NoLaying⟩⟩, ⟨⟨nm_NoPlan, q_NoPlan, N_NoPlan, bs_NoPlan, sn_NoPlan, sub_NoPlan, ab_NoPlan, col_NoPlan, dd_NoPlan, m0_NoPlan, m1_NoPlan, m2_NoPlan, m3_NoPlan, m5_NoPlan, xL_NoPlan⟩, tC_NoPlan, ⟨xg_NoPlan, xk_NoPlan, xs_NoPlan, xd_NoPlan, xa_NoPlan, xn_NoPlan, xt_NoPlan, xm_NoPlan⟩⟩, ⟨⟨nm_NotKept, q_NotKept, N_NotKept, bs_NotKept, sn_NotKept, sub_NotKept, ab_NotKept, col_NotKept, dd_NotKept, m0_NotKept, m1_NotKept, m2_NotKept, m3_NotKept, m5_NotKept, xL_NotKept⟩, tC_NotKept, ⟨xg_NotKept, xk_NotKept, xs_NotKept, xd_NotKept, xa_NotKept, xn_NotKept, xt_NotKept, xm_NotKept⟩⟩, ⟨⟨nm_NothingDone, q_NothingDone, N_NothingDone, bs_NothingDone, sn_NothingDone, sub_NothingDone, ab_NothingDone, col_NothingDone, dd_NothingDone, m0_NothingDone, m1_NothingDone, m2_NothingDone, m3_NothingDone, m5_NothingDone, xL_NothingDone⟩, tC_NothingDone, ⟨xg_NothingDone, xk_NothingDone, xs_NothingDone, xd_NothingDone, xa_NothingDone, xn_NothingDone, xt_NothingDone, xm_NothingDone⟩⟩, ⟨⟨nm_NotLost, q_NotLost, N_NotLost, bs_NotLost, sn_NotLost, sub_NotLost, ab_NotLost, col_NotLost, dd_NotLost, m0_NotLost, m1_NotLost, m2_NotLost, m3_NotLost, m5_NotLost, xL_NotLost⟩, tC_NotLost, ⟨xg_NotLost, xk_NotLost, xs_NotLost, xd_NotLost, xa_NotLost, xn_NotLost, xt_NotLost, xm_NotLost⟩⟩, ⟨⟨nm_Over, q_Over, N_Over, bs_Over, sn_Over, sub_Over, ab_Over, col_Over, dd_Over, m0_Over, m1_Over, m2_Over, m3_Over, m5_Over, xL_Over⟩, tC_Over, ⟨xg_Over, xk_Over, xs_Over, xd_Over, xa_Over, xn_Over, xt_Over, xm_Over⟩⟩, ⟨⟨nm_NoLoop, q_NoLoop, N_NoLoop, bs_NoLoop, sn_NoLoop, sub_NoLoop, ab_NoLoop, col_NoLoop, dd_NoLoop, m0_NoLoop, m1_NoLoop, m2_NoLoop, m3_NoLoop, m5_NoLoop, xL_NoLoop⟩, tC_NoLoop, ⟨xg_NoLoop, xk_NoLoop, xs_NoLoop, xd_NoLoop, xa_NoLoop, xn_NoLoop, xt_NoLoop, xm_NoLoop⟩⟩, ⟨⟨nm_NoWeights, q_NoWeights, N_NoWeights, bs_NoWeights, sn_NoWeights, sub_NoWeights, ab_NoWeights, col_NoWeights, dd_NoWeights, m0_NoWeights, m1_NoWeights, m2_NoWeights, m3_NoWeights, m5_NoWeights, xL_NoWeights⟩, tC_NoWeights, ⟨xg_NoWeights, xk_NoWeights, xs_NoWeights, xd_NoWeights, xa_NoWeights, xn_NoWeights, xt_NoWeights, xm_NoWeights⟩⟩, ⟨⟨nm_NoFraction, q_NoFraction, N_NoFraction, bs_NoFraction, sn_NoFraction, sub_NoFraction, ab_NoFraction, col_NoFraction, dd_NoFraction, m0_NoFraction, m1_NoFraction, m2_NoFraction, m3_NoFraction, m5_NoFraction, xL_NoFraction⟩, tC_NoFraction, ⟨xg_NoFraction, xk_NoFraction, xs_NoFraction, xd_NoFraction, xa_NoFraction, xn_NoFraction, xt_NoFraction, xm_NoFraction⟩⟩, ⟨⟨nm_OtherBounds, q_OtherBounds, N_OtherBounds, bs_OtherBounds, sn_OtherBounds, sub_OtherBounds, ab_OtherBounds, col_OtherBounds, dd_OtherBounds, m0_OtherBounds, m1_OtherBounds, m2_OtherBounds, m3_OtherBounds, m5_OtherBounds, xL_OtherBounds⟩, tC_OtherBounds, ⟨xg_OtherBounds, xk_OtherBounds, xs_OtherBounds, xd_OtherBounds, xa_OtherBounds, xn_OtherBounds, xt_OtherBounds, xm_OtherBounds⟩⟩, ⟨⟨nm_NoLetter, q_NoLetter, N_NoLetter, bs_NoLetter, sn_NoLetter, sub_NoLetter, ab_NoLetter, col_NoLetter, dd_NoLetter, m0_NoLetter, m1_NoLetter, m2_NoLetter, m3_NoLetter, m5_NoLetter, xL_NoLetter⟩, tC_NoLetter, ⟨xg_NoLetter, xk_NoLetter, xs_NoLetter, xd_NoLetter, xa_NoLetter, xn_NoLetter, xt_NoLetter, xm_NoLetter⟩⟩, ⟨⟨nm_NoDay, q_NoDay, N_NoDay, bs_NoDay, sn_NoDay, sub_NoDay, ab_NoDay, col_NoDay, dd_NoDay, m0_NoDay, m1_NoDay, m2_NoDay, m3_NoDay, m5_NoDay, xL_NoDay⟩, tC_NoDay, ⟨xg_NoDay, xk_NoDay, xs_NoDay, xd_NoDay, xa_NoDay, xn_NoDay, xt_NoDay, xm_NoDay⟩⟩, ⟨⟨nm_NoLine, q_NoLine, N_NoLine, bs_NoLine, sn_NoLine, sub_NoLine, ab_NoLine, col_NoLine, dd_NoLine, m0_NoLine, m1_NoLine, m2_NoLine, m3_NoLine, m5_NoLine, xL_NoLine⟩, tC_NoLine, ⟨xg_NoLine, xk_NoLine, xs_NoLine, xd_NoLine, xa_NoLine, xn_NoLine, xt_NoLine, xm_NoLine⟩⟩, ⟨⟨nm_BadTable, q_BadTable, N_BadTable, bs_BadTable, sn_BadTable, sub_BadTable, ab_BadTable, col_BadTable, dd_BadTable, m0_BadTable, m1_BadTable, m2_BadTable, m3_BadTable, m5_BadTable, xL_BadTable⟩, tC_BadTable, ⟨xg_BadTable, xk_BadTable, xs_BadTable, xd_BadTable, xa_BadTable, xn_BadTable, xt_BadTable, xm_BadTable⟩⟩, ⟨⟨nm_Meet, q_Meet, N_Meet, bs_Meet, sn_Meet, sub_Meet, ab_Meet, col_Meet, dd_Meet, m0_Meet, m1_Meet, m2_Meet, m3_Meet, m5_Meet, xL_Meet⟩, tC_Meet, ⟨xg_Meet, xk_Meet, xs_Meet, xd_Meet, xa_Meet, xn_Meet, xt_Meet, xm_Meet⟩⟩, ⟨⟨nm_TooMany, q_TooMany, N_TooMany, bs_TooMany, sn_TooMany, sub_TooMany, ab_TooMany, col_TooMany, dd_TooMany, m0_TooMany, m1_TooMany, m2_TooMany, m3_TooMany, m5_TooMany, xL_TooMany⟩, tC_TooMany, ⟨xg_TooMany, xk_TooMany, xs_TooMany, xd_TooMany, xa_TooMany, xn_TooMany, xt_TooMany, xm_TooMany⟩⟩, ⟨⟨nm_BadText, q_BadText, N_BadText, bs_BadText, sn_BadText, sub_BadText, ab_BadText, col_BadText, dd_BadText, m0_BadText, m1_BadText, m2_BadText, m3_BadText, m5_BadText, xL_BadText⟩, tC_BadText, ⟨xg_BadText, xk_BadText, xs_BadText, xd_BadText, xa_BadText, xn_BadText, xt_BadText, xm_BadText⟩⟩, ⟨⟨nm_NoName, q_NoName, N_NoName, bs_NoName, sn_NoName, sub_NoName, ab_NoName, col_NoName, dd_NoName, m0_NoName, m1_NoName, m2_NoName, m3_NoName, m5_NoName, xL_NoName⟩, tC_NoName, ⟨xg_NoName, xk_NoName, xs_NoName, xd_NoName, xa_NoName, xn_NoName, xt_NoName, xm_NoName⟩⟩, ⟨⟨nm_NoDoorings, q_NoDoorings, N_NoDoorings, bs_NoDoorings, sn_NoDoorings, sub_NoDoorings, ab_NoDoorings, col_NoDoorings, dd_NoDoorings, m0_NoDoorings, m1_NoDoorings, m2_NoDoorings, m3_NoDoorings, m5_NoDoorings, xL_NoDoorings⟩, tC_NoDoorings, ⟨xg_NoDoorings, xk_NoDoorings, xs_NoDoorings, xd_NoDoorings, xa_NoDoorings, xn_NoDoorings, xt_NoDoorings, xm_NoDoorings⟩⟩, ⟨⟨nm_NoLong, q_NoLong, N_NoLong, bs_NoLong, sn_NoLong, sub_NoLong, ab_NoLong, col_NoLong, dd_NoLong, m0_NoLong, m1_NoLong, m2_NoLong, m3_NoLong, m5_NoLong, xL_NoLong⟩, tC_NoLong, ⟨xg_NoLong, xk_NoLong, xs_NoLong, xd_NoLong, xa_NoLong, xn_NoLong, xt_NoLong, xm_NoLong⟩⟩, ⟨⟨nm_NoPrices, q_NoPrices, N_NoPrices, bs_NoPrices, sn_NoPrices, sub_NoPrices, ab_NoPrices, col_NoPrices, dd_NoPrices, m0_NoPrices, m1_NoPrices, m2_NoPrices, m3_NoPrices, m5_NoPrices, xL_NoPrices⟩, tC_NoPrices, ⟨xg_NoPrices, xk_NoPrices, xs_NoPrices, xd_NoPrices, xa_NoPrices, xn_NoPrices, xt_NoPrices, xm_NoPrices⟩⟩, ⟨⟨nm_OtherTables, q_OtherTables, N_OtherTables, bs_OtherTables, sn_OtherTables, sub_OtherTables, ab_OtherTables, col_OtherTables, dd_OtherTables, m0_OtherTables, m1_OtherTables, m2_OtherTables, m3_OtherTables, m5_OtherTables, xL_OtherTables⟩, tC_OtherTables, ⟨xg_OtherTables, xk_OtherTables, xs_OtherTables, xd_OtherTables, xa_OtherTables, xn_OtherTables, xt_OtherTables, xm_OtherTables⟩⟩, ⟨⟨nm_NoTables, q_NoTables, N_NoTables, bs_NoTables, sn_NoTables, sub_NoTables, ab_NoTables, col_NoTables, dd_NoTables, m0_NoTables, m1_NoTables, m2_NoTables, m3_NoTables, m5_NoTables, xL_NoTables⟩, tC_NoTables, ⟨xg_NoTables, xk_NoTables, xs_NoTables, xd_NoTables, xa_NoTables, xn_NoTables, xt_NoTables, xm_NoTables⟩⟩, ⟨⟨nm_NoTable, q_NoTable, N_NoTable, bs_NoTable, sn_NoTable, sub_NoTable, ab_NoTable, col_NoTable, dd_NoTable, m0_NoTable, m1_NoTable, m2_NoTable, m3_NoTable, m5_NoTable, xL_NoTable⟩, tC_NoTable, ⟨xg_NoTable, xk_NoTable, xs_NoTable, xd_NoTable, xa_NoTable, xn_NoTable, xt_NoTable, xm_NoTable⟩⟩, ⟨⟨nm_BadTree, q_BadTree, N_BadTree, bs_BadTree, sn_BadTree, sub_BadTree, ab_BadTree, col_BadTree, dd_BadTree, m0_BadTree, m1_BadTree, m2_BadTree, m3_BadTree, m5_BadTree, xL_BadTree⟩, tC_BadTree, ⟨xg_BadTree, xk_BadTree, xs_BadTree, xd_BadTree, xa_BadTree, xn_BadTree, xt_BadTree, xm_BadTree⟩⟩, trivial⟩) nd_kts nl_kts lc_kts lt_kts,
     xm_Meet_TooMany := PySem.W.exm_ref xs_TooMany xd_TooMany ky_Meet_TooMany ks_Meet_TooMany,
     xm_NoLoops_TooMany := PySem.W.exm_ref xs_TooMany xd_TooMany ky_NoLoops_TooMany ks_NoLoops_TooMany,
     xm_NoLoops_Meet := PySem.W.exm_ref xs_Meet xd_Meet ky_NoLoops_Meet ks_NoLoops_Meet,
     xm_NoLoops_LoopError := PySem.W.exm_ref xs_LoopError xd_LoopError ky_NoLoops_LoopError ks_NoLoops_LoopError }, rfl, rfl⟩
end My
open PySem PySem.W PyProof.Rows
set_option maxHeartbeats 0 in
theorem PySem.Challenge.cw_loopstore_k00_errors_of_the_package_holds : PySem.Challenge.rw_loopstore_k00_errors_of_the_package.Holds := by
  w_on; o_law; k_headL; (case hw => w_witness2)
  k_fill
  refine L2.walk_of (l := PySem.Challenge.rw_loopstore_k00_errors_of_the_package) (n := 63) (k := My.lawLevel) (x := "script") (CX := fun _ => L2.CX0) (sp := fun w => My.spLaw _) rfl (by decide) rfl ⟨rfl, by decide, by decide⟩ (fun w h Y => PySem.W.kIn_of Y) ?F (fun _ _ a ns hl _ hS => ⟨a, ns, rfl, hS, hl, fun _ => rfl⟩) (fun _ _ _ _ _ h => h)
  case F =>
    intro w mg fa h KX G hmg
    refine' My.fin_mk KX G hmg (My.all_mk (w := w) KX G ?a__law_tape ?l__law_tape ?c__law_tape ?k__law_tape ?a__law_pick ?l__law_pick ?c__law_pick ?k__law_pick ?a__law_flags ?l__law_flags ?c__law_flags ?k__law_flags ?a__law_made ?l__law_made ?c__law_made ?k__law_made ?a__law_caught ?l__law_caught ?c__law_caught ?k__law_caught ?a_law ?l_law ?c_law ?k_law ?a_NoComers___init__ ?i_NoComers___init__ ?l_NoComers___init__ ?c_NoComers___init__ ?k_NoComers___init__ ?a_NoBound___init__ ?i_NoBound___init__ ?l_NoBound___init__ ?c_NoBound___init__ ?k_NoBound___init__ ?a_NoComings___init__ ?i_NoComings___init__ ?l_NoComings___init__ ?c_NoComings___init__ ?k_NoComings___init__ ?a_NoSpot___init__ ?i_NoSpot___init__ ?l_NoSpot___init__ ?c_NoSpot___init__ ?k_NoSpot___init__ ?a_NoWalk___init__ ?i_NoWalk___init__ ?l_NoWalk___init__ ?c_NoWalk___init__ ?k_NoWalk___init__ ?a_BadTable___init__ ?i_BadTable___init__ ?l_BadTable___init__ ?c_BadTable___init__ ?k_BadTable___init__ ?a_Meet___init__ ?i_Meet___init__ ?l_Meet___init__ ?c_Meet___init__ ?k_Meet___init__ ?a_NoTick___init__ ?i_NoTick___init__ ?l_NoTick___init__ ?c_NoTick___init__ ?k_NoTick___init__ ?a_NoLoops___init__ ?i_NoLoops___init__ ?l_NoLoops___init__ ?c_NoLoops___init__ ?k_NoLoops___init__ ?a_TooMany___init__ ?i_TooMany___init__ ?l_TooMany___init__ ?c_TooMany___init__ ?k_TooMany___init__ ?a_NotDoubling___init__ ?i_NotDoubling___init__ ?l_NotDoubling___init__ ?c_NotDoubling___init__ ?k_NotDoubling___init__ ?a_NoWait___init__ ?i_NoWait___init__ ?l_NoWait___init__ ?c_NoWait___init__ ?k_NoWait___init__ ?a_NoTotal___init__ ?i_NoTotal___init__ ?l_NoTotal___init__ ?c_NoTotal___init__ ?k_NoTotal___init__ ?a_NoRow___init__ ?i_NoRow___init__ ?l_NoRow___init__ ?c_NoRow___init__ ?k_NoRow___init__ ?a_NoTold___init__ ?i_NoTold___init__ ?l_NoTold___init__ ?c_NoTold___init__ ?k_NoTold___init__ ?a_NoStand___init__ ?i_NoStand___init__ ?l_NoStand___init__ ?c_NoStand___init__ ?k_NoStand___init__ ?a_NoNumber___init__ ?i_NoNumber___init__ ?l_NoNumber___init__ ?c_NoNumber___init__ ?k_NoNumber___init__ ?a_NoLaying___init__ ?i_NoLaying___init__ ?l_NoLaying___init__ ?c_NoLaying___init__ ?k_NoLaying___init__ ?a_NoPlan___init__ ?i_NoPlan___init__ ?l_NoPlan___init__ ?c_NoPlan___init__ ?k_NoPlan___init__ ?a_NotKept___init__ ?i_NotKept___init__ ?l_NotKept___init__ ?c_NotKept___init__ ?k_NotKept___init__ ?a_NothingDone___init__ ?i_NothingDone___init__ ?l_NothingDone___init__ ?c_NothingDone___init__ ?k_NothingDone___init__ ?a_NotLost___init__ ?i_NotLost___init__ ?l_NotLost___init__ ?c_NotLost___init__ ?k_NotLost___init__ ?a_Over___init__ ?i_Over___init__ ?l_Over___init__ ?c_Over___init__ ?k_Over___init__ ?a_NoLoop___init__ ?i_NoLoop___init__ ?l_NoLoop___init__ ?c_NoLoop___init__ ?k_NoLoop___init__ ?a_NoWeights___init__ ?i_NoWeights___init__ ?l_NoWeights___init__ ?c_NoWeights___init__ ?k_NoWeights___init__ ?a_NoFraction___init__ ?i_NoFraction___init__ ?l_NoFraction___init__ ?c_NoFraction___init__ ?k_NoFraction___init__ ?a_OtherBounds___init__ ?i_OtherBounds___init__ ?l_OtherBounds___init__ ?c_OtherBounds___init__ ?k_OtherBounds___init__ ?a_NoLetter___init__ ?i_NoLetter___init__ ?l_NoLetter___init__ ?c_NoLetter___init__ ?k_NoLetter___init__ ?a_NoDay___init__ ?i_NoDay___init__ ?l_NoDay___init__ ?c_NoDay___init__ ?k_NoDay___init__ ?a_BadText___init__ ?i_BadText___init__ ?l_BadText___init__ ?c_BadText___init__ ?k_BadText___init__ ?a_NoLine___init__ ?i_NoLine___init__ ?l_NoLine___init__ ?c_NoLine___init__ ?k_NoLine___init__ ?a_NoName___init__ ?i_NoName___init__ ?l_NoName___init__ ?c_NoName___init__ ?k_NoName___init__ ?a_BadTree___init__ ?i_BadTree___init__ ?l_BadTree___init__ ?c_BadTree___init__ ?k_BadTree___init__ ?a_NoDoorings___init__ ?i_NoDoorings___init__ ?l_NoDoorings___init__ ?c_NoDoorings___init__ ?k_NoDoorings___init__ ?a_NoLong___init__ ?i_NoLong___init__ ?l_NoLong___init__ ?c_NoLong___init__ ?k_NoLong___init__ ?a_NoPrices___init__ ?i_NoPrices___init__ ?l_NoPrices___init__ ?c_NoPrices___init__ ?k_NoPrices___init__ ?a_OtherTables___init__ ?i_OtherTables___init__ ?l_OtherTables___init__ ?c_OtherTables___init__ ?k_OtherTables___init__ ?a_NoTables___init__ ?i_NoTables___init__ ?l_NoTables___init__ ?c_NoTables___init__ ?k_NoTables___init__ ?a_NoTable___init__ ?i_NoTable___init__ ?l_NoTable___init__ ?c_NoTable___init__ ?k_NoTable___init__ ?z_ValueError ?z_bool ?z_int ?z_isinstance ?z_len ?z_list ?z_range ?y_BadTable ?y_BadText ?y_BadTree ?y_LoopError ?y_Meet ?y_NoBound ?y_NoComers ?y_NoComings ?y_NoDay ?y_NoDoorings ?y_NoFraction ?y_NoLaying ?y_NoLetter ?y_NoLine ?y_NoLong ?y_NoLoop ?y_NoLoops ?y_NoName ?y_NoNumber ?y_NoPlan ?y_NoPrices ?y_NoRow ?y_NoSpot ?y_NoStand ?y_NoTable ?y_NoTables ?y_NoTick ?y_NoTold ?y_NoTotal ?y_NoWait ?y_NoWalk ?y_NoWeights ?y_NotDoubling ?y_NotKept ?y_NotLost ?y_NothingDone ?y_OtherBounds ?y_OtherTables ?y_Over ?y_TooMany ?xL_NoComers ?sa_NoComers ?tf_NoComers ?kC_NoComers ?eC_NoComers ?tC_NoComers ?iC_NoComers ?sC_NoComers ?xL_NoBound ?sa_NoBound ?tf_NoBound ?kC_NoBound ?eC_NoBound ?tC_NoBound ?iC_NoBound ?sC_NoBound ?xL_NoComings ?sa_NoComings ?tf_NoComings ?kC_NoComings ?eC_NoComings ?tC_NoComings ?iC_NoComings ?sC_NoComings ?xL_NoSpot ?sa_NoSpot ?tf_NoSpot ?kC_NoSpot ?eC_NoSpot ?tC_NoSpot ?iC_NoSpot ?sC_NoSpot ?xL_NoWalk ?sa_NoWalk ?tf_NoWalk ?kC_NoWalk ?eC_NoWalk ?tC_NoWalk ?iC_NoWalk ?sC_NoWalk ?xL_NoTick ?sa_NoTick ?tf_NoTick ?kC_NoTick ?eC_NoTick ?tC_NoTick ?iC_NoTick ?sC_NoTick ?xL_NoLoops ?sa_NoLoops ?tf_NoLoops ?kC_NoLoops ?eC_NoLoops ?tC_NoLoops ?iC_NoLoops ?sC_NoLoops ?xL_NotDoubling ?sa_NotDoubling ?tf_NotDoubling ?kC_NotDoubling ?eC_NotDoubling ?tC_NotDoubling ?iC_NotDoubling ?sC_NotDoubling ?xL_NoWait ?sa_NoWait ?tf_NoWait ?kC_NoWait ?eC_NoWait ?tC_NoWait ?iC_NoWait ?sC_NoWait ?xL_NoTotal ?sa_NoTotal ?tf_NoTotal ?kC_NoTotal ?eC_NoTotal ?tC_NoTotal ?iC_NoTotal ?sC_NoTotal ?xL_NoRow ?sa_NoRow ?tf_NoRow ?kC_NoRow ?eC_NoRow ?tC_NoRow ?iC_NoRow ?sC_NoRow ?xL_NoTold ?sa_NoTold ?tf_NoTold ?kC_NoTold ?eC_NoTold ?tC_NoTold ?iC_NoTold ?sC_NoTold ?xL_NoStand ?sa_NoStand ?tf_NoStand ?kC_NoStand ?eC_NoStand ?tC_NoStand ?iC_NoStand ?sC_NoStand ?xL_NoNumber ?sa_NoNumber ?tf_NoNumber ?kC_NoNumber ?eC_NoNumber ?tC_NoNumber ?iC_NoNumber ?sC_NoNumber ?xL_NoLaying ?sa_NoLaying ?tf_NoLaying ?kC_NoLaying ?eC_NoLaying ?tC_NoLaying ?iC_NoLaying ?sC_NoLaying ?xL_NoPlan ?sa_NoPlan ?tf_NoPlan ?kC_NoPlan ?eC_NoPlan ?tC_NoPlan ?iC_NoPlan ?sC_NoPlan ?xL_NotKept ?sa_NotKept ?tf_NotKept ?kC_NotKept ?eC_NotKept ?tC_NotKept ?iC_NotKept ?sC_NotKept ?xL_NothingDone ?sa_NothingDone ?tf_NothingDone ?kC_NothingDone ?eC_NothingDone ?tC_NothingDone ?iC_NothingDone ?sC_NothingDone ?xL_NotLost ?sa_NotLost ?tf_NotLost ?kC_NotLost ?eC_NotLost ?tC_NotLost ?iC_NotLost ?sC_NotLost ?xL_Over ?sa_Over ?tf_Over ?kC_Over ?eC_Over ?tC_Over ?iC_Over ?sC_Over ?xL_NoLoop ?sa_NoLoop ?tf_NoLoop ?kC_NoLoop ?eC_NoLoop ?tC_NoLoop ?iC_NoLoop ?sC_NoLoop ?xL_NoWeights ?sa_NoWeights ?tf_NoWeights ?kC_NoWeights ?eC_NoWeights ?tC_NoWeights ?iC_NoWeights ?sC_NoWeights ?xL_NoFraction ?sa_NoFraction ?tf_NoFraction ?kC_NoFraction ?eC_NoFraction ?tC_NoFraction ?iC_NoFraction ?sC_NoFraction ?xL_OtherBounds ?sa_OtherBounds ?tf_OtherBounds ?kC_OtherBounds ?eC_OtherBounds ?tC_OtherBounds ?iC_OtherBounds ?sC_OtherBounds ?xL_NoLetter ?sa_NoLetter ?tf_NoLetter ?kC_NoLetter ?eC_NoLetter ?tC_NoLetter ?iC_NoLetter ?sC_NoLetter ?xL_NoDay ?sa_NoDay ?tf_NoDay ?kC_NoDay ?eC_NoDay ?tC_NoDay ?iC_NoDay ?sC_NoDay ?xL_NoLine ?sa_NoLine ?tf_NoLine ?kC_NoLine ?eC_NoLine ?tC_NoLine ?iC_NoLine ?sC_NoLine ?xL_BadTable ?sa_BadTable ?tf_BadTable ?kC_BadTable ?eC_BadTable ?tC_BadTable ?iC_BadTable ?sC_BadTable ?n_BadTable_part ?n_BadTable_at ?xL_Meet ?sa_Meet ?tf_Meet ?kC_Meet ?eC_Meet ?tC_Meet ?iC_Meet ?sC_Meet ?n_Meet_tick ?n_Meet_loop ?xL_TooMany ?sa_TooMany ?tf_TooMany ?kC_TooMany ?eC_TooMany ?tC_TooMany ?iC_TooMany ?sC_TooMany ?n_TooMany_most ?xL_BadText ?sa_BadText ?tf_BadText ?kC_BadText ?eC_BadText ?tC_BadText ?iC_BadText ?sC_BadText ?n_BadText_line ?xL_NoName ?sa_NoName ?tf_NoName ?kC_NoName ?eC_NoName ?tC_NoName ?iC_NoName ?sC_NoName ?n_NoName_name ?xL_NoDoorings ?sa_NoDoorings ?tf_NoDoorings ?kC_NoDoorings ?eC_NoDoorings ?tC_NoDoorings ?iC_NoDoorings ?sC_NoDoorings ?xL_NoLong ?sa_NoLong ?tf_NoLong ?kC_NoLong ?eC_NoLong ?tC_NoLong ?iC_NoLong ?sC_NoLong ?xL_NoPrices ?sa_NoPrices ?tf_NoPrices ?kC_NoPrices ?eC_NoPrices ?tC_NoPrices ?iC_NoPrices ?sC_NoPrices ?xL_OtherTables ?sa_OtherTables ?tf_OtherTables ?kC_OtherTables ?eC_OtherTables ?tC_OtherTables ?iC_OtherTables ?sC_OtherTables ?xL_NoTables ?sa_NoTables ?tf_NoTables ?kC_NoTables ?eC_NoTables ?tC_NoTables ?iC_NoTables ?sC_NoTables ?xL_NoTable ?sa_NoTable ?tf_NoTable ?kC_NoTable ?eC_NoTable ?tC_NoTable ?iC_NoTable ?sC_NoTable ?xL_BadTree ?sa_BadTree ?tf_BadTree ?kC_BadTree ?eC_BadTree ?tC_BadTree ?iC_BadTree ?sC_BadTree ?n_BadTree_at ?xg_NoComers ?xk_NoComers ?xd_NoComers ?xa_NoComers ?xn_NoComers ?xt_NoComers ?xm_NoComers ?xs_NoComers ?xg_NoBound ?xk_NoBound ?xd_NoBound ?xa_NoBound ?xn_NoBound ?xt_NoBound ?xm_NoBound ?xs_NoBound ?xg_NoComings ?xk_NoComings ?xd_NoComings ?xa_NoComings ?xn_NoComings ?xt_NoComings ?xm_NoComings ?xs_NoComings ?xg_NoSpot ?xk_NoSpot ?xd_NoSpot ?xa_NoSpot ?xn_NoSpot ?xt_NoSpot ?xm_NoSpot ?xs_NoSpot ?xg_NoWalk ?xk_NoWalk ?xd_NoWalk ?xa_NoWalk ?xn_NoWalk ?xt_NoWalk ?xm_NoWalk ?xs_NoWalk ?xg_NoTick ?xk_NoTick ?xd_NoTick ?xa_NoTick ?xn_NoTick ?xt_NoTick ?xm_NoTick ?xs_NoTick ?xg_NoLoops ?xk_NoLoops ?xd_NoLoops ?xa_NoLoops ?xn_NoLoops ?xt_NoLoops ?xm_NoLoops ?xs_NoLoops ?xg_NotDoubling ?xk_NotDoubling ?xd_NotDoubling ?xa_NotDoubling ?xn_NotDoubling ?xt_NotDoubling ?xm_NotDoubling ?xs_NotDoubling ?xg_NoWait ?xk_NoWait ?xd_NoWait ?xa_NoWait ?xn_NoWait ?xt_NoWait ?xm_NoWait ?xs_NoWait ?xg_NoTotal ?xk_NoTotal ?xd_NoTotal ?xa_NoTotal ?xn_NoTotal ?xt_NoTotal ?xm_NoTotal ?xs_NoTotal ?xg_NoRow ?xk_NoRow ?xd_NoRow ?xa_NoRow ?xn_NoRow ?xt_NoRow ?xm_NoRow ?xs_NoRow ?xg_NoTold ?xk_NoTold ?xd_NoTold ?xa_NoTold ?xn_NoTold ?xt_NoTold ?xm_NoTold ?xs_NoTold ?xg_NoStand ?xk_NoStand ?xd_NoStand ?xa_NoStand ?xn_NoStand ?xt_NoStand ?xm_NoStand ?xs_NoStand ?xg_NoNumber ?xk_NoNumber ?xd_NoNumber ?xa_NoNumber ?xn_NoNumber ?xt_NoNumber ?xm_NoNumber ?xs_NoNumber ?xg_NoLaying ?xk_NoLaying ?xd_NoLaying ?xa_NoLaying ?xn_NoLaying ?xt_NoLaying ?xm_NoLaying ?xs_NoLaying ?xg_NoPlan ?xk_NoPlan ?xd_NoPlan ?xa_NoPlan ?xn_NoPlan ?xt_NoPlan ?xm_NoPlan ?xs_NoPlan ?xg_NotKept ?xk_NotKept ?xd_NotKept ?xa_NotKept ?xn_NotKept ?xt_NotKept ?xm_NotKept ?xs_NotKept ?xg_NothingDone ?xk_NothingDone ?xd_NothingDone ?xa_NothingDone ?xn_NothingDone ?xt_NothingDone ?xm_NothingDone ?xs_NothingDone ?xg_NotLost ?xk_NotLost ?xd_NotLost ?xa_NotLost ?xn_NotLost ?xt_NotLost ?xm_NotLost ?xs_NotLost ?xg_Over ?xk_Over ?xd_Over ?xa_Over ?xn_Over ?xt_Over ?xm_Over ?xs_Over ?xg_NoLoop ?xk_NoLoop ?xd_NoLoop ?xa_NoLoop ?xn_NoLoop ?xt_NoLoop ?xm_NoLoop ?xs_NoLoop ?xg_NoWeights ?xk_NoWeights ?xd_NoWeights ?xa_NoWeights ?xn_NoWeights ?xt_NoWeights ?xm_NoWeights ?xs_NoWeights ?xg_NoFraction ?xk_NoFraction ?xd_NoFraction ?xa_NoFraction ?xn_NoFraction ?xt_NoFraction ?xm_NoFraction ?xs_NoFraction ?xg_OtherBounds ?xk_OtherBounds ?xd_OtherBounds ?xa_OtherBounds ?xn_OtherBounds ?xt_OtherBounds ?xm_OtherBounds ?xs_OtherBounds ?xg_NoLetter ?xk_NoLetter ?xd_NoLetter ?xa_NoLetter ?xn_NoLetter ?xt_NoLetter ?xm_NoLetter ?xs_NoLetter ?xg_NoDay ?xk_NoDay ?xd_NoDay ?xa_NoDay ?xn_NoDay ?xt_NoDay ?xm_NoDay ?xs_NoDay ?xg_NoLine ?xk_NoLine ?xd_NoLine ?xa_NoLine ?xn_NoLine ?xt_NoLine ?xm_NoLine ?xs_NoLine ?xg_BadTable ?xk_BadTable ?xd_BadTable ?xa_BadTable ?xn_BadTable ?xt_BadTable ?xm_BadTable ?xs_BadTable ?xg_Meet ?xk_Meet ?xd_Meet ?xa_Meet ?xn_Meet ?xt_Meet ?xm_Meet ?xs_Meet ?xg_TooMany ?xk_TooMany ?xd_TooMany ?xa_TooMany ?xn_TooMany ?xt_TooMany ?xm_TooMany ?xs_TooMany ?xg_BadText ?xk_BadText ?xd_BadText ?xa_BadText ?xn_BadText ?xt_BadText ?xm_BadText ?xs_BadText ?xg_NoName ?xk_NoName ?xd_NoName ?xa_NoName ?xn_NoName ?xt_NoName ?xm_NoName ?xs_NoName ?xg_NoDoorings ?xk_NoDoorings ?xd_NoDoorings ?xa_NoDoorings ?xn_NoDoorings ?xt_NoDoorings ?xm_NoDoorings ?xs_NoDoorings ?xg_NoLong ?xk_NoLong ?xd_NoLong ?xa_NoLong ?xn_NoLong ?xt_NoLong ?xm_NoLong ?xs_NoLong ?xg_NoPrices ?xk_NoPrices ?xd_NoPrices ?xa_NoPrices ?xn_NoPrices ?xt_NoPrices ?xm_NoPrices ?xs_NoPrices ?xg_OtherTables ?xk_OtherTables ?xd_OtherTables ?xa_OtherTables ?xn_OtherTables ?xt_OtherTables ?xm_OtherTables ?xs_OtherTables ?xg_NoTables ?xk_NoTables ?xd_NoTables ?xa_NoTables ?xn_NoTables ?xt_NoTables ?xm_NoTables ?xs_NoTables ?xg_NoTable ?xk_NoTable ?xd_NoTable ?xa_NoTable ?xn_NoTable ?xt_NoTable ?xm_NoTable ?xs_NoTable ?xg_BadTree ?xk_BadTree ?xd_BadTree ?xa_BadTree ?xn_BadTree ?xt_BadTree ?xm_BadTree ?xs_BadTree ?xg_LoopError ?xk_LoopError ?xd_LoopError ?xa_LoopError ?xn_LoopError ?xt_LoopError ?xm_LoopError ?xs_LoopError ?ks_Meet_TooMany ?kc_Meet_TooMany ?ky_Meet_TooMany ?kn_Meet_TooMany ?ks_NoLoops_TooMany ?kc_NoLoops_TooMany ?ky_NoLoops_TooMany ?kn_NoLoops_TooMany ?ks_NoLoops_Meet ?kc_NoLoops_Meet ?ky_NoLoops_Meet ?kn_NoLoops_Meet ?ks_NoLoops_LoopError ?kc_NoLoops_LoopError ?ky_NoLoops_LoopError ?nd_kts ?nl_kts ?lc_kts ?lt_kts)
    (case y_BadTable => k_is); (case y_BadText => k_is); (case y_BadTree => k_is); (case y_LoopError => k_is); (case y_Meet => k_is); (case y_NoBound => k_is); (case y_NoComers => k_is); (case y_NoComings => k_is); (case y_NoDay => k_is); (case y_NoDoorings => k_is); (case y_NoFraction => k_is); (case y_NoLaying => k_is); (case y_NoLetter => k_is); (case y_NoLine => k_is); (case y_NoLong => k_is); (case y_NoLoop => k_is); (case y_NoLoops => k_is); (case y_NoName => k_is); (case y_NoNumber => k_is); (case y_NoPlan => k_is); (case y_NoPrices => k_is); (case y_NoRow => k_is); (case y_NoSpot => k_is); (case y_NoStand => k_is); (case y_NoTable => k_is); (case y_NoTables => k_is); (case y_NoTick => k_is); (case y_NoTold => k_is); (case y_NoTotal => k_is); (case y_NoWait => k_is); (case y_NoWalk => k_is); (case y_NoWeights => k_is); (case y_NotDoubling => k_is); (case y_NotKept => k_is); (case y_NotLost => k_is); (case y_NothingDone => k_is); (case y_OtherBounds => k_is); (case y_OtherTables => k_is); (case y_Over => k_is); (case y_TooMany => k_is); (case a__law_tape => k_is); (case l__law_tape => k_is); (case c__law_tape => k_is); (case k__law_tape => k_is); (case a__law_pick => k_is); (case l__law_pick => k_is); (case c__law_pick => k_is); (case k__law_pick => k_is); (case a__law_flags => k_is); (case l__law_flags => k_is); (case c__law_flags => k_is); (case k__law_flags => k_is); (case a__law_made => k_is); (case l__law_made => k_is); (case c__law_made => k_is); (case k__law_made => k_is); (case a__law_caught => k_is); (case l__law_caught => k_is); (case c__law_caught => k_is); (case k__law_caught => k_is); (case a_law => k_is); (case l_law => k_is); (case c_law => k_is); (case k_law => k_is); (case a_NoComers___init__ => k_is); (case i_NoComers___init__ => k_is); (case l_NoComers___init__ => k_is); (case c_NoComers___init__ => k_is); (case k_NoComers___init__ => k_is); (case a_NoBound___init__ => k_is); (case i_NoBound___init__ => k_is); (case l_NoBound___init__ => k_is); (case c_NoBound___init__ => k_is); (case k_NoBound___init__ => k_is); (case a_NoComings___init__ => k_is); (case i_NoComings___init__ => k_is); (case l_NoComings___init__ => k_is); (case c_NoComings___init__ => k_is); (case k_NoComings___init__ => k_is); (case a_NoSpot___init__ => k_is); (case i_NoSpot___init__ => k_is); (case l_NoSpot___init__ => k_is); (case c_NoSpot___init__ => k_is); (case k_NoSpot___init__ => k_is); (case a_NoWalk___init__ => k_is); (case i_NoWalk___init__ => k_is); (case l_NoWalk___init__ => k_is); (case c_NoWalk___init__ => k_is); (case k_NoWalk___init__ => k_is); (case a_BadTable___init__ => k_is); (case i_BadTable___init__ => k_is); (case l_BadTable___init__ => k_is); (case c_BadTable___init__ => k_is); (case k_BadTable___init__ => k_is); (case a_Meet___init__ => k_is); (case i_Meet___init__ => k_is); (case l_Meet___init__ => k_is); (case c_Meet___init__ => k_is); (case k_Meet___init__ => k_is); (case a_NoTick___init__ => k_is); (case i_NoTick___init__ => k_is); (case l_NoTick___init__ => k_is); (case c_NoTick___init__ => k_is); (case k_NoTick___init__ => k_is); (case a_NoLoops___init__ => k_is); (case i_NoLoops___init__ => k_is); (case l_NoLoops___init__ => k_is); (case c_NoLoops___init__ => k_is); (case k_NoLoops___init__ => k_is); (case a_TooMany___init__ => k_is); (case i_TooMany___init__ => k_is); (case l_TooMany___init__ => k_is); (case c_TooMany___init__ => k_is); (case k_TooMany___init__ => k_is); (case a_NotDoubling___init__ => k_is); (case i_NotDoubling___init__ => k_is); (case l_NotDoubling___init__ => k_is); (case c_NotDoubling___init__ => k_is); (case k_NotDoubling___init__ => k_is); (case a_NoWait___init__ => k_is); (case i_NoWait___init__ => k_is); (case l_NoWait___init__ => k_is); (case c_NoWait___init__ => k_is); (case k_NoWait___init__ => k_is); (case a_NoTotal___init__ => k_is); (case i_NoTotal___init__ => k_is); (case l_NoTotal___init__ => k_is); (case c_NoTotal___init__ => k_is); (case k_NoTotal___init__ => k_is); (case a_NoRow___init__ => k_is); (case i_NoRow___init__ => k_is); (case l_NoRow___init__ => k_is); (case c_NoRow___init__ => k_is); (case k_NoRow___init__ => k_is); (case a_NoTold___init__ => k_is); (case i_NoTold___init__ => k_is); (case l_NoTold___init__ => k_is); (case c_NoTold___init__ => k_is); (case k_NoTold___init__ => k_is); (case a_NoStand___init__ => k_is); (case i_NoStand___init__ => k_is); (case l_NoStand___init__ => k_is); (case c_NoStand___init__ => k_is); (case k_NoStand___init__ => k_is); (case a_NoNumber___init__ => k_is); (case i_NoNumber___init__ => k_is); (case l_NoNumber___init__ => k_is); (case c_NoNumber___init__ => k_is); (case k_NoNumber___init__ => k_is); (case a_NoLaying___init__ => k_is); (case i_NoLaying___init__ => k_is); (case l_NoLaying___init__ => k_is); (case c_NoLaying___init__ => k_is); (case k_NoLaying___init__ => k_is); (case a_NoPlan___init__ => k_is); (case i_NoPlan___init__ => k_is); (case l_NoPlan___init__ => k_is); (case c_NoPlan___init__ => k_is); (case k_NoPlan___init__ => k_is); (case a_NotKept___init__ => k_is); (case i_NotKept___init__ => k_is); (case l_NotKept___init__ => k_is); (case c_NotKept___init__ => k_is); (case k_NotKept___init__ => k_is); (case a_NothingDone___init__ => k_is); (case i_NothingDone___init__ => k_is); (case l_NothingDone___init__ => k_is); (case c_NothingDone___init__ => k_is); (case k_NothingDone___init__ => k_is); (case a_NotLost___init__ => k_is); (case i_NotLost___init__ => k_is); (case l_NotLost___init__ => k_is); (case c_NotLost___init__ => k_is); (case k_NotLost___init__ => k_is); (case a_Over___init__ => k_is); (case i_Over___init__ => k_is); (case l_Over___init__ => k_is); (case c_Over___init__ => k_is); (case k_Over___init__ => k_is); (case a_NoLoop___init__ => k_is); (case i_NoLoop___init__ => k_is); (case l_NoLoop___init__ => k_is); (case c_NoLoop___init__ => k_is); (case k_NoLoop___init__ => k_is); (case a_NoWeights___init__ => k_is); (case i_NoWeights___init__ => k_is); (case l_NoWeights___init__ => k_is); (case c_NoWeights___init__ => k_is); (case k_NoWeights___init__ => k_is); (case a_NoFraction___init__ => k_is); (case i_NoFraction___init__ => k_is); (case l_NoFraction___init__ => k_is); (case c_NoFraction___init__ => k_is); (case k_NoFraction___init__ => k_is); (case a_OtherBounds___init__ => k_is); (case i_OtherBounds___init__ => k_is); (case l_OtherBounds___init__ => k_is); (case c_OtherBounds___init__ => k_is); (case k_OtherBounds___init__ => k_is); (case a_NoLetter___init__ => k_is); (case i_NoLetter___init__ => k_is); (case l_NoLetter___init__ => k_is); (case c_NoLetter___init__ => k_is); (case k_NoLetter___init__ => k_is); (case a_NoDay___init__ => k_is); (case i_NoDay___init__ => k_is); (case l_NoDay___init__ => k_is); (case c_NoDay___init__ => k_is); (case k_NoDay___init__ => k_is); (case a_BadText___init__ => k_is); (case i_BadText___init__ => k_is); (case l_BadText___init__ => k_is); (case c_BadText___init__ => k_is); (case k_BadText___init__ => k_is); (case a_NoLine___init__ => k_is); (case i_NoLine___init__ => k_is); (case l_NoLine___init__ => k_is); (case c_NoLine___init__ => k_is); (case k_NoLine___init__ => k_is); (case a_NoName___init__ => k_is); (case i_NoName___init__ => k_is); (case l_NoName___init__ => k_is); (case c_NoName___init__ => k_is); (case k_NoName___init__ => k_is); (case a_BadTree___init__ => k_is); (case i_BadTree___init__ => k_is); (case l_BadTree___init__ => k_is); (case c_BadTree___init__ => k_is); (case k_BadTree___init__ => k_is); (case a_NoDoorings___init__ => k_is); (case i_NoDoorings___init__ => k_is); (case l_NoDoorings___init__ => k_is); (case c_NoDoorings___init__ => k_is); (case k_NoDoorings___init__ => k_is); (case a_NoLong___init__ => k_is); (case i_NoLong___init__ => k_is); (case l_NoLong___init__ => k_is); (case c_NoLong___init__ => k_is); (case k_NoLong___init__ => k_is); (case a_NoPrices___init__ => k_is); (case i_NoPrices___init__ => k_is); (case l_NoPrices___init__ => k_is); (case c_NoPrices___init__ => k_is); (case k_NoPrices___init__ => k_is); (case a_OtherTables___init__ => k_is); (case i_OtherTables___init__ => k_is); (case l_OtherTables___init__ => k_is); (case c_OtherTables___init__ => k_is); (case k_OtherTables___init__ => k_is); (case a_NoTables___init__ => k_is); (case i_NoTables___init__ => k_is); (case l_NoTables___init__ => k_is); (case c_NoTables___init__ => k_is); (case k_NoTables___init__ => k_is); (case a_NoTable___init__ => k_is); (case i_NoTable___init__ => k_is); (case l_NoTable___init__ => k_is); (case c_NoTable___init__ => k_is); (case k_NoTable___init__ => k_is); (case z_ValueError => k_is); (case z_bool => k_is); (case z_int => k_is); (case z_isinstance => k_is); (case z_len => k_is); (case z_list => k_is); (case z_range => k_is); (case xL_NoComers => k_is); (case sa_NoComers => k_is); (case tf_NoComers => k_is); (case kC_NoComers => k_is); (case eC_NoComers => k_is); (case tC_NoComers => k_is); (case iC_NoComers => k_is); (case sC_NoComers => k_is); (case xL_NoBound => k_is); (case sa_NoBound => k_is); (case tf_NoBound => k_is); (case kC_NoBound => k_is); (case eC_NoBound => k_is); (case tC_NoBound => k_is); (case iC_NoBound => k_is); (case sC_NoBound => k_is); (case xL_NoComings => k_is); (case sa_NoComings => k_is); (case tf_NoComings => k_is); (case kC_NoComings => k_is); (case eC_NoComings => k_is); (case tC_NoComings => k_is); (case iC_NoComings => k_is); (case sC_NoComings => k_is); (case xL_NoSpot => k_is); (case sa_NoSpot => k_is); (case tf_NoSpot => k_is); (case kC_NoSpot => k_is); (case eC_NoSpot => k_is); (case tC_NoSpot => k_is); (case iC_NoSpot => k_is); (case sC_NoSpot => k_is); (case xL_NoWalk => k_is); (case sa_NoWalk => k_is); (case tf_NoWalk => k_is); (case kC_NoWalk => k_is); (case eC_NoWalk => k_is); (case tC_NoWalk => k_is); (case iC_NoWalk => k_is); (case sC_NoWalk => k_is); (case xL_NoTick => k_is); (case sa_NoTick => k_is); (case tf_NoTick => k_is); (case kC_NoTick => k_is); (case eC_NoTick => k_is); (case tC_NoTick => k_is); (case iC_NoTick => k_is); (case sC_NoTick => k_is); (case xL_NoLoops => k_is); (case sa_NoLoops => k_is); (case tf_NoLoops => k_is); (case kC_NoLoops => k_is); (case eC_NoLoops => k_is); (case tC_NoLoops => k_is); (case iC_NoLoops => k_is); (case sC_NoLoops => k_is); (case xL_NotDoubling => k_is); (case sa_NotDoubling => k_is); (case tf_NotDoubling => k_is); (case kC_NotDoubling => k_is); (case eC_NotDoubling => k_is); (case tC_NotDoubling => k_is); (case iC_NotDoubling => k_is); (case sC_NotDoubling => k_is); (case xL_NoWait => k_is); (case sa_NoWait => k_is); (case tf_NoWait => k_is); (case kC_NoWait => k_is); (case eC_NoWait => k_is); (case tC_NoWait => k_is); (case iC_NoWait => k_is); (case sC_NoWait => k_is); (case xL_NoTotal => k_is); (case sa_NoTotal => k_is); (case tf_NoTotal => k_is); (case kC_NoTotal => k_is); (case eC_NoTotal => k_is); (case tC_NoTotal => k_is); (case iC_NoTotal => k_is); (case sC_NoTotal => k_is); (case xL_NoRow => k_is); (case sa_NoRow => k_is); (case tf_NoRow => k_is); (case kC_NoRow => k_is); (case eC_NoRow => k_is); (case tC_NoRow => k_is); (case iC_NoRow => k_is); (case sC_NoRow => k_is); (case xL_NoTold => k_is); (case sa_NoTold => k_is); (case tf_NoTold => k_is); (case kC_NoTold => k_is); (case eC_NoTold => k_is); (case tC_NoTold => k_is); (case iC_NoTold => k_is); (case sC_NoTold => k_is); (case xL_NoStand => k_is); (case sa_NoStand => k_is); (case tf_NoStand => k_is); (case kC_NoStand => k_is); (case eC_NoStand => k_is); (case tC_NoStand => k_is); (case iC_NoStand => k_is); (case sC_NoStand => k_is); (case xL_NoNumber => k_is); (case sa_NoNumber => k_is); (case tf_NoNumber => k_is); (case kC_NoNumber => k_is); (case eC_NoNumber => k_is); (case tC_NoNumber => k_is); (case iC_NoNumber => k_is); (case sC_NoNumber => k_is); (case xL_NoLaying => k_is); (case sa_NoLaying => k_is); (case tf_NoLaying => k_is); (case kC_NoLaying => k_is); (case eC_NoLaying => k_is); (case tC_NoLaying => k_is); (case iC_NoLaying => k_is); (case sC_NoLaying => k_is); (case xL_NoPlan => k_is); (case sa_NoPlan => k_is); (case tf_NoPlan => k_is); (case kC_NoPlan => k_is); (case eC_NoPlan => k_is); (case tC_NoPlan => k_is); (case iC_NoPlan => k_is); (case sC_NoPlan => k_is); (case xL_NotKept => k_is); (case sa_NotKept => k_is); (case tf_NotKept => k_is); (case kC_NotKept => k_is); (case eC_NotKept => k_is); (case tC_NotKept => k_is); (case iC_NotKept => k_is); (case sC_NotKept => k_is); (case xL_NothingDone => k_is); (case sa_NothingDone => k_is); (case tf_NothingDone => k_is); (case kC_NothingDone => k_is); (case eC_NothingDone => k_is); (case tC_NothingDone => k_is); (case iC_NothingDone => k_is); (case sC_NothingDone => k_is); (case xL_NotLost => k_is); (case sa_NotLost => k_is); (case tf_NotLost => k_is); (case kC_NotLost => k_is); (case eC_NotLost => k_is); (case tC_NotLost => k_is); (case iC_NotLost => k_is); (case sC_NotLost => k_is); (case xL_Over => k_is); (case sa_Over => k_is); (case tf_Over => k_is); (case kC_Over => k_is); (case eC_Over => k_is); (case tC_Over => k_is); (case iC_Over => k_is); (case sC_Over => k_is); (case xL_NoLoop => k_is); (case sa_NoLoop => k_is); (case tf_NoLoop => k_is); (case kC_NoLoop => k_is); (case eC_NoLoop => k_is); (case tC_NoLoop => k_is); (case iC_NoLoop => k_is); (case sC_NoLoop => k_is); (case xL_NoWeights => k_is); (case sa_NoWeights => k_is); (case tf_NoWeights => k_is); (case kC_NoWeights => k_is); (case eC_NoWeights => k_is); (case tC_NoWeights => k_is); (case iC_NoWeights => k_is); (case sC_NoWeights => k_is); (case xL_NoFraction => k_is); (case sa_NoFraction => k_is); (case tf_NoFraction => k_is); (case kC_NoFraction => k_is); (case eC_NoFraction => k_is); (case tC_NoFraction => k_is); (case iC_NoFraction => k_is); (case sC_NoFraction => k_is); (case xL_OtherBounds => k_is); (case sa_OtherBounds => k_is); (case tf_OtherBounds => k_is); (case kC_OtherBounds => k_is); (case eC_OtherBounds => k_is); (case tC_OtherBounds => k_is); (case iC_OtherBounds => k_is); (case sC_OtherBounds => k_is); (case xL_NoLetter => k_is); (case sa_NoLetter => k_is); (case tf_NoLetter => k_is); (case kC_NoLetter => k_is); (case eC_NoLetter => k_is); (case tC_NoLetter => k_is); (case iC_NoLetter => k_is); (case sC_NoLetter => k_is); (case xL_NoDay => k_is); (case sa_NoDay => k_is); (case tf_NoDay => k_is); (case kC_NoDay => k_is); (case eC_NoDay => k_is); (case tC_NoDay => k_is); (case iC_NoDay => k_is); (case sC_NoDay => k_is); (case xL_NoLine => k_is); (case sa_NoLine => k_is); (case tf_NoLine => k_is); (case kC_NoLine => k_is); (case eC_NoLine => k_is); (case tC_NoLine => k_is); (case iC_NoLine => k_is); (case sC_NoLine => k_is); (case xL_BadTable => k_is); (case sa_BadTable => k_is); (case tf_BadTable => k_is); (case kC_BadTable => k_is); (case eC_BadTable => k_is); (case tC_BadTable => k_is); (case iC_BadTable => k_is); (case sC_BadTable => k_is); (case n_BadTable_part => k_is); (case n_BadTable_at => k_is); (case xL_Meet => k_is); (case sa_Meet => k_is); (case tf_Meet => k_is); (case kC_Meet => k_is); (case eC_Meet => k_is); (case tC_Meet => k_is); (case iC_Meet => k_is); (case sC_Meet => k_is); (case n_Meet_tick => k_is); (case n_Meet_loop => k_is); (case xL_TooMany => k_is); (case sa_TooMany => k_is); (case tf_TooMany => k_is); (case kC_TooMany => k_is); (case eC_TooMany => k_is); (case tC_TooMany => k_is); (case iC_TooMany => k_is); (case sC_TooMany => k_is); (case n_TooMany_most => k_is); (case xL_BadText => k_is); (case sa_BadText => k_is); (case tf_BadText => k_is); (case kC_BadText => k_is); (case eC_BadText => k_is); (case tC_BadText => k_is); (case iC_BadText => k_is); (case sC_BadText => k_is); (case n_BadText_line => k_is); (case xL_NoName => k_is); (case sa_NoName => k_is); (case tf_NoName => k_is); (case kC_NoName => k_is); (case eC_NoName => k_is); (case tC_NoName => k_is); (case iC_NoName => k_is); (case sC_NoName => k_is); (case n_NoName_name => k_is); (case xL_NoDoorings => k_is); (case sa_NoDoorings => k_is); (case tf_NoDoorings => k_is); (case kC_NoDoorings => k_is); (case eC_NoDoorings => k_is); (case tC_NoDoorings => k_is); (case iC_NoDoorings => k_is); (case sC_NoDoorings => k_is); (case xL_NoLong => k_is); (case sa_NoLong => k_is); (case tf_NoLong => k_is); (case kC_NoLong => k_is); (case eC_NoLong => k_is); (case tC_NoLong => k_is); (case iC_NoLong => k_is); (case sC_NoLong => k_is); (case xL_NoPrices => k_is); (case sa_NoPrices => k_is); (case tf_NoPrices => k_is); (case kC_NoPrices => k_is); (case eC_NoPrices => k_is); (case tC_NoPrices => k_is); (case iC_NoPrices => k_is); (case sC_NoPrices => k_is); (case xL_OtherTables => k_is); (case sa_OtherTables => k_is); (case tf_OtherTables => k_is); (case kC_OtherTables => k_is); (case eC_OtherTables => k_is); (case tC_OtherTables => k_is); (case iC_OtherTables => k_is); (case sC_OtherTables => k_is); (case xL_NoTables => k_is); (case sa_NoTables => k_is); (case tf_NoTables => k_is); (case kC_NoTables => k_is); (case eC_NoTables => k_is); (case tC_NoTables => k_is); (case iC_NoTables => k_is); (case sC_NoTables => k_is); (case xL_NoTable => k_is); (case sa_NoTable => k_is); (case tf_NoTable => k_is); (case kC_NoTable => k_is); (case eC_NoTable => k_is); (case tC_NoTable => k_is); (case iC_NoTable => k_is); (case sC_NoTable => k_is); (case xL_BadTree => k_is); (case sa_BadTree => k_is); (case tf_BadTree => k_is); (case kC_BadTree => k_is); (case eC_BadTree => k_is); (case tC_BadTree => k_is); (case iC_BadTree => k_is); (case sC_BadTree => k_is); (case n_BadTree_at => k_is); (case xg_NoComers => k_is); (case xk_NoComers => k_is); (case xd_NoComers => k_is); (case xa_NoComers => k_is); (case xn_NoComers => k_is); (case xt_NoComers => k_is); (case xm_NoComers => k_is); (case xs_NoComers => k_is); (case xg_NoBound => k_is); (case xk_NoBound => k_is); (case xd_NoBound => k_is); (case xa_NoBound => k_is); (case xn_NoBound => k_is); (case xt_NoBound => k_is); (case xm_NoBound => k_is); (case xs_NoBound => k_is); (case xg_NoComings => k_is); (case xk_NoComings => k_is); (case xd_NoComings => k_is); (case xa_NoComings => k_is); (case xn_NoComings => k_is); (case xt_NoComings => k_is); (case xm_NoComings => k_is); (case xs_NoComings => k_is); (case xg_NoSpot => k_is); (case xk_NoSpot => k_is); (case xd_NoSpot => k_is); (case xa_NoSpot => k_is); (case xn_NoSpot => k_is); (case xt_NoSpot => k_is); (case xm_NoSpot => k_is); (case xs_NoSpot => k_is); (case xg_NoWalk => k_is); (case xk_NoWalk => k_is); (case xd_NoWalk => k_is); (case xa_NoWalk => k_is); (case xn_NoWalk => k_is); (case xt_NoWalk => k_is); (case xm_NoWalk => k_is); (case xs_NoWalk => k_is); (case xg_NoTick => k_is); (case xk_NoTick => k_is); (case xd_NoTick => k_is); (case xa_NoTick => k_is); (case xn_NoTick => k_is); (case xt_NoTick => k_is); (case xm_NoTick => k_is); (case xs_NoTick => k_is); (case xg_NoLoops => k_is); (case xk_NoLoops => k_is); (case xd_NoLoops => k_is); (case xa_NoLoops => k_is); (case xn_NoLoops => k_is); (case xt_NoLoops => k_is); (case xm_NoLoops => k_is); (case xs_NoLoops => k_is); (case xg_NotDoubling => k_is); (case xk_NotDoubling => k_is); (case xd_NotDoubling => k_is); (case xa_NotDoubling => k_is); (case xn_NotDoubling => k_is); (case xt_NotDoubling => k_is); (case xm_NotDoubling => k_is); (case xs_NotDoubling => k_is); (case xg_NoWait => k_is); (case xk_NoWait => k_is); (case xd_NoWait => k_is); (case xa_NoWait => k_is); (case xn_NoWait => k_is); (case xt_NoWait => k_is); (case xm_NoWait => k_is); (case xs_NoWait => k_is); (case xg_NoTotal => k_is); (case xk_NoTotal => k_is); (case xd_NoTotal => k_is); (case xa_NoTotal => k_is); (case xn_NoTotal => k_is); (case xt_NoTotal => k_is); (case xm_NoTotal => k_is); (case xs_NoTotal => k_is); (case xg_NoRow => k_is); (case xk_NoRow => k_is); (case xd_NoRow => k_is); (case xa_NoRow => k_is); (case xn_NoRow => k_is); (case xt_NoRow => k_is); (case xm_NoRow => k_is); (case xs_NoRow => k_is); (case xg_NoTold => k_is); (case xk_NoTold => k_is); (case xd_NoTold => k_is); (case xa_NoTold => k_is); (case xn_NoTold => k_is); (case xt_NoTold => k_is); (case xm_NoTold => k_is); (case xs_NoTold => k_is); (case xg_NoStand => k_is); (case xk_NoStand => k_is); (case xd_NoStand => k_is); (case xa_NoStand => k_is); (case xn_NoStand => k_is); (case xt_NoStand => k_is); (case xm_NoStand => k_is); (case xs_NoStand => k_is); (case xg_NoNumber => k_is); (case xk_NoNumber => k_is); (case xd_NoNumber => k_is); (case xa_NoNumber => k_is); (case xn_NoNumber => k_is); (case xt_NoNumber => k_is); (case xm_NoNumber => k_is); (case xs_NoNumber => k_is); (case xg_NoLaying => k_is); (case xk_NoLaying => k_is); (case xd_NoLaying => k_is); (case xa_NoLaying => k_is); (case xn_NoLaying => k_is); (case xt_NoLaying => k_is); (case xm_NoLaying => k_is); (case xs_NoLaying => k_is); (case xg_NoPlan => k_is); (case xk_NoPlan => k_is); (case xd_NoPlan => k_is); (case xa_NoPlan => k_is); (case xn_NoPlan => k_is); (case xt_NoPlan => k_is); (case xm_NoPlan => k_is); (case xs_NoPlan => k_is); (case xg_NotKept => k_is); (case xk_NotKept => k_is); (case xd_NotKept => k_is); (case xa_NotKept => k_is); (case xn_NotKept => k_is); (case xt_NotKept => k_is); (case xm_NotKept => k_is); (case xs_NotKept => k_is); (case xg_NothingDone => k_is); (case xk_NothingDone => k_is); (case xd_NothingDone => k_is); (case xa_NothingDone => k_is); (case xn_NothingDone => k_is); (case xt_NothingDone => k_is); (case xm_NothingDone => k_is); (case xs_NothingDone => k_is); (case xg_NotLost => k_is); (case xk_NotLost => k_is); (case xd_NotLost => k_is); (case xa_NotLost => k_is); (case xn_NotLost => k_is); (case xt_NotLost => k_is); (case xm_NotLost => k_is); (case xs_NotLost => k_is); (case xg_Over => k_is); (case xk_Over => k_is); (case xd_Over => k_is); (case xa_Over => k_is); (case xn_Over => k_is); (case xt_Over => k_is); (case xm_Over => k_is); (case xs_Over => k_is); (case xg_NoLoop => k_is); (case xk_NoLoop => k_is); (case xd_NoLoop => k_is); (case xa_NoLoop => k_is); (case xn_NoLoop => k_is); (case xt_NoLoop => k_is); (case xm_NoLoop => k_is); (case xs_NoLoop => k_is); (case xg_NoWeights => k_is); (case xk_NoWeights => k_is); (case xd_NoWeights => k_is); (case xa_NoWeights => k_is); (case xn_NoWeights => k_is); (case xt_NoWeights => k_is); (case xm_NoWeights => k_is); (case xs_NoWeights => k_is); (case xg_NoFraction => k_is); (case xk_NoFraction => k_is); (case xd_NoFraction => k_is); (case xa_NoFraction => k_is); (case xn_NoFraction => k_is); (case xt_NoFraction => k_is); (case xm_NoFraction => k_is); (case xs_NoFraction => k_is); (case xg_OtherBounds => k_is); (case xk_OtherBounds => k_is); (case xd_OtherBounds => k_is); (case xa_OtherBounds => k_is); (case xn_OtherBounds => k_is); (case xt_OtherBounds => k_is); (case xm_OtherBounds => k_is); (case xs_OtherBounds => k_is); (case xg_NoLetter => k_is); (case xk_NoLetter => k_is); (case xd_NoLetter => k_is); (case xa_NoLetter => k_is); (case xn_NoLetter => k_is); (case xt_NoLetter => k_is); (case xm_NoLetter => k_is); (case xs_NoLetter => k_is); (case xg_NoDay => k_is); (case xk_NoDay => k_is); (case xd_NoDay => k_is); (case xa_NoDay => k_is); (case xn_NoDay => k_is); (case xt_NoDay => k_is); (case xm_NoDay => k_is); (case xs_NoDay => k_is); (case xg_NoLine => k_is); (case xk_NoLine => k_is); (case xd_NoLine => k_is); (case xa_NoLine => k_is); (case xn_NoLine => k_is); (case xt_NoLine => k_is); (case xm_NoLine => k_is); (case xs_NoLine => k_is); (case xg_BadTable => k_is); (case xk_BadTable => k_is); (case xd_BadTable => k_is); (case xa_BadTable => k_is); (case xn_BadTable => k_is); (case xt_BadTable => k_is); (case xm_BadTable => k_is); (case xs_BadTable => k_is); (case xg_Meet => k_is); (case xk_Meet => k_is); (case xd_Meet => k_is); (case xa_Meet => k_is); (case xn_Meet => k_is); (case xt_Meet => k_is); (case xm_Meet => k_is); (case xs_Meet => k_is); (case xg_TooMany => k_is); (case xk_TooMany => k_is); (case xd_TooMany => k_is); (case xa_TooMany => k_is); (case xn_TooMany => k_is); (case xt_TooMany => k_is); (case xm_TooMany => k_is); (case xs_TooMany => k_is); (case xg_BadText => k_is); (case xk_BadText => k_is); (case xd_BadText => k_is); (case xa_BadText => k_is); (case xn_BadText => k_is); (case xt_BadText => k_is); (case xm_BadText => k_is); (case xs_BadText => k_is); (case xg_NoName => k_is); (case xk_NoName => k_is); (case xd_NoName => k_is); (case xa_NoName => k_is); (case xn_NoName => k_is); (case xt_NoName => k_is); (case xm_NoName => k_is); (case xs_NoName => k_is); (case xg_NoDoorings => k_is); (case xk_NoDoorings => k_is); (case xd_NoDoorings => k_is); (case xa_NoDoorings => k_is); (case xn_NoDoorings => k_is); (case xt_NoDoorings => k_is); (case xm_NoDoorings => k_is); (case xs_NoDoorings => k_is); (case xg_NoLong => k_is); (case xk_NoLong => k_is); (case xd_NoLong => k_is); (case xa_NoLong => k_is); (case xn_NoLong => k_is); (case xt_NoLong => k_is); (case xm_NoLong => k_is); (case xs_NoLong => k_is); (case xg_NoPrices => k_is); (case xk_NoPrices => k_is); (case xd_NoPrices => k_is); (case xa_NoPrices => k_is); (case xn_NoPrices => k_is); (case xt_NoPrices => k_is); (case xm_NoPrices => k_is); (case xs_NoPrices => k_is); (case xg_OtherTables => k_is); (case xk_OtherTables => k_is); (case xd_OtherTables => k_is); (case xa_OtherTables => k_is); (case xn_OtherTables => k_is); (case xt_OtherTables => k_is); (case xm_OtherTables => k_is); (case xs_OtherTables => k_is); (case xg_NoTables => k_is); (case xk_NoTables => k_is); (case xd_NoTables => k_is); (case xa_NoTables => k_is); (case xn_NoTables => k_is); (case xt_NoTables => k_is); (case xm_NoTables => k_is); (case xs_NoTables => k_is); (case xg_NoTable => k_is); (case xk_NoTable => k_is); (case xd_NoTable => k_is); (case xa_NoTable => k_is); (case xn_NoTable => k_is); (case xt_NoTable => k_is); (case xm_NoTable => k_is); (case xs_NoTable => k_is); (case xg_BadTree => k_is); (case xk_BadTree => k_is); (case xd_BadTree => k_is); (case xa_BadTree => k_is); (case xn_BadTree => k_is); (case xt_BadTree => k_is); (case xm_BadTree => k_is); (case xs_BadTree => k_is); (case xg_LoopError => k_is); (case xk_LoopError => k_is); (case xd_LoopError => k_is); (case xa_LoopError => k_is); (case xn_LoopError => k_is); (case xt_LoopError => k_is); (case xm_LoopError => k_is); (case xs_LoopError => k_is); (case ks_Meet_TooMany => k_is); (case kc_Meet_TooMany => k_is); (case ky_Meet_TooMany => k_is); (case kn_Meet_TooMany => decide); (case ks_NoLoops_TooMany => k_is); (case kc_NoLoops_TooMany => k_is); (case ky_NoLoops_TooMany => k_is); (case kn_NoLoops_TooMany => decide); (case ks_NoLoops_Meet => k_is); (case kc_NoLoops_Meet => k_is); (case ky_NoLoops_Meet => k_is); (case kn_NoLoops_Meet => decide); (case ks_NoLoops_LoopError => k_is); (case kc_NoLoops_LoopError => k_is); (case ky_NoLoops_LoopError => k_is); (case nd_kts => decide); (case nl_kts => decide); (case lc_kts => k_is); (case lt_kts => k_is)

