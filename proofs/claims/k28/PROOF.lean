import PyProof.Rows.All
import Wide.All
import OpenK.AllK
import Wide.FinOn
import HandS.ForMost
import HandS.Wide
import HandS.IsInst
import HandS.TupMul
import HandS.TupAny
import HandS.SortInts
import HandS.SortRule
import HandS.Strs
import HandS.Style
import HandS.Evl
import HandS.Iter
import HandS.Walk
import HandS.More
import HandS.Dict
import HandS.DictTup
import HandS.Keys
import HandS.Lambda
import HandS.Conv
import HandS.SortKw
import HandS.EndTab
import KE.SortKeyHeap
import KE.SortData
import KE.KNest
import PySem.Challenge.RW_loopstore_k28_whole_greedy_digits
set_option Elab.async false
set_option linter.all false
set_option maxRecDepth 100000
set_option maxHeartbeats 4000000
/-! ## rules that the layer lacks -/
namespace RR
open PySem PySem.Spec PyProof.Rows L2 HT
section
variable {prog : Program} {w : World} {A : Around} {E : Value → Shared → Prop} {s : Shared}
/-- a tuple's items gathered -/
theorem collect_tuple {l : Addr} {vs : List Value} {Q : List Value → Shared → Prop} (hl : IsTup s.heap l vs.toArray)
    (h : Q vs { s with heap := (s.heap.push (seqObj "list" #[] 0)).update s.heap.objs.size (Obj.mapSeq (· ++ vs.toArray)) }) (hsz : vs.length ≤ sizeLine) :
    wpAny (model prog w) A (collect (.ref l)) Q E s := by
  obtain ⟨o, ho, hc, n, hd⟩ := id hl
  unfold collect
  refine wpAny_bind (wpAny_runValue (codeAny_builtin entry_proto_collect' ?_))
  show wpAny _ _ (do again (.builtin "list.__iadd__" ⟨[← newList [], .ref l], []⟩)) _ _ s
  refine wpAny_bind (wpAny_newList (wpAny_pure ⟨Code.quiet_builtin _ (by decide +kernel), codeAny_builtin entry_list_iadd' ?_⟩))
  show wpAny _ _ (Builtin.List.listExtendWith (.ref s.heap.objs.size) (.ref l) (.ref s.heap.objs.size)) _ _ { s with heap := s.heap.push (seqObj "list" #[] 0) }
  unfold Builtin.List.listExtendWith
  have ho' : (s.heap.push (seqObj "list" #[] 0)).get? l = some o := Heap.get?_push_of_some _ ho
  refine wpAny_bind (wpAny_typeOf (T := "tuple") ⟨o, ho', hc⟩ ?_)
  have ht : (Value.type "tuple" == Value.type "tuple") = true := by rfl
  rw [if_pos (by rw [ht]; simp)]
  refine wpAny_bind (listItems_at ho' hd ?_)
  refine wpAny_bind (listItems_at (xs := #[]) (n := 0) (Heap.get?_push_size _ rfl) rfl ?_)
  rw [if_neg (by simp)]
  refine wpAny_bind (listUpdate_at (xs := #[]) (n := 0) (Heap.get?_push_size _ rfl) rfl ?_ (Nat.zero_le _) (by show (#[] ++ vs.toArray).size ≤ sizeLine + 1; simp only [Array.size_append, List.size_toArray, List.length_nil]; omega))
  refine wpAny_pure ?_
  show wpAny (model prog w) A (do
      let o ← load s.heap.objs.size
      match o.data with
      | .seq xs _ => pure xs.toList
      | _ => unsupported "internal:collect") Q E { s with heap := (s.heap.push (seqObj "list" #[] 0)).update s.heap.objs.size (Obj.mapSeq (· ++ vs.toArray)) }
  refine wpAny_bind (wpAny_load (get?_update_seq (Heap.get?_push_size _ rfl) _) ?_)
  show wpAny _ _ (pure ((#[] : Array Value) ++ vs.toArray).toList) Q E _
  rw [show ((#[] : Array Value) ++ vs.toArray).toList = vs by simp]
  exact wpAny_pure h
theorem sorted_ordT {l : Addr} {vs : List Value} {ltv : Value → Value → Bool} {Q : Value → Shared → Prop} (O : SrtO.Swo ltv) (hl : IsTup s.heap l vs.toArray) (hz : vs.length ≤ sizeLine)
    (hS : 2 ≤ vs.length → ∀ (h₁ : Heap) (a : Addr), h₁.get? a = some (seqObj "list" vs.toArray 0) → (∀ b o, s.heap.get? b = some o → b ≠ a ∧ h₁.get? b = some o) → SrtO.SortableO prog w A.in1.in1 { s with heap := h₁ } a vs ltv)
    (h : ∀ out : List Value, SrtO.Srtd ltv out → SrtO.Stb ltv out vs → Q (.ref (s.heap.objs.size + 1)) { s with heap := sortedAll s.heap vs out.toArray }) :
    wpAny (model prog w) A (call (.builtin "sorted") [.ref l]) Q E s := by
  refine Calls.call_function_entry kind_sorted plain_sorted entry_sorted (args_sorted1 _) ?_
  unfold Builtin.«sorted»
  refine wpAny_bind (m := checkCount "sorted" 1 1 _) (wpAny_pure ?_)
  refine wpAny_bind (collect_tuple hl ?_ hz)
  refine wpAny_bind (wpAny_newList ?_ hz)
  have hsz : ((s.heap.push (seqObj "list" #[] 0)).update s.heap.objs.size (Obj.mapSeq (· ++ vs.toArray))).objs.size = s.heap.objs.size + 1 := by
    rw [Heap.size_update, size_push']
  have hoL : (((s.heap.push (seqObj "list" #[] 0)).update s.heap.objs.size (Obj.mapSeq (· ++ vs.toArray))).push (seqObj "list" vs.toArray 0)).get? (s.heap.objs.size + 1) = some (seqObj "list" vs.toArray 0) := by
    rw [← hsz]; exact Heap.get?_push_size _ rfl
  have keep : ∀ b o, s.heap.get? b = some o → b ≠ s.heap.objs.size + 1 ∧ (((s.heap.push (seqObj "list" #[] 0)).update s.heap.objs.size (Obj.mapSeq (· ++ vs.toArray))).push (seqObj "list" vs.toArray 0)).get? b = some o := fun b o q => by
    have hlt : b < s.heap.objs.size := Heap.lt_size q
    refine ⟨Nat.ne_of_lt (Nat.lt_succ_of_lt hlt), Heap.get?_push_of_some _ ?_⟩
    rw [Heap.get?_update_ne _ _ _ _ (Nat.ne_of_lt hlt)]
    exact Heap.get?_push_of_some _ q
  show wpAny _ _ _ _ _ { s with heap := ((s.heap.push (seqObj "list" #[] 0)).update s.heap.objs.size (Obj.mapSeq (· ++ vs.toArray))).push (seqObj "list" vs.toArray 0) }
  rw [hsz]
  refine wpAny_bind (wpAny_holding (wpAny_call_entry slot_list_sort ⟨_, hoL, rfl⟩ entry_list_sort (SrtO.list_sort_ord O hoL hz (fun h2 => hS h2 _ _ hoL keep) fun out hs hb => ⟨_, rfl, ?_⟩) (args_list_sort _)))
  exact wpAny_pure ⟨_, rfl, h out hs hb⟩
end
def rSortedU (K : PySem.W.Frag) : List V → Hp → VK → Prop := fun vs H Q => ∃ (a : Addr) (ns : List Int), vs = [V.ref a] ∧ SqT K H a (ns.map V.int) ∧
  ∀ (ns' : List Int) (p : Addr), ns'.Perm ns → ns'.Pairwise (· ≤ ·) → H p = none → Q (.ref p) (upd H p (.lst (ns'.map V.int)))
section
variable {X : Cx}
/-- sorted(t), t a tuple of ints -/
theorem cr_sortedU : CallR X (.builtin "sorted") (rSortedU X.K) := by
  intro pins s σ H vs us Q I r h
  obtain ⟨a, ns, rfl, hs, q⟩ := h
  obtain ⟨its, rv, hl, hz⟩ := I.tuple hs
  rw [Vals.ref1 r]
  have hi := rv.ints
  refine sorted_ordT SrtO.swo_int hl (by rw [← rv.length]; exact hz) (fun h2 h₁ a' _ _ => SrtO.ints_sortable hi h2) fun out h1 h2 => ?_
  obtain ⟨k1, k2, k3⟩ := SrtO.ints_out hi h1 h2
  obtain ⟨ep, he'⟩ := PyProof.Rows.sortedAll_at s.heap its out.toArray
  have hlen : ((out.map SrtO.iv).map V.int).length ≤ sizeLine := by
    rw [List.length_map, k2.length_eq]
    rw [List.length_map] at hz
    exact hz
  exact ⟨.ref _, upd H (s.heap.objs.size + 1) (.lst ((out.map SrtO.iv).map V.int)), I.laid (t' := s.toks) (fun _ _ => PyProof.Rows.sortedAll_old) (Nat.le_succ _) ⟨hlen, out, ep, vals_of_ints k1, he'⟩, rfl, q _ _ k2 k3 (I.hok.fresh (Nat.le_succ _))⟩
end
/-! ### t[::-1] -/
theorem adj_rev (n : Nat) : Builtin.Slice.sliceAdjust none none (-1) (n : Int) = ((n : Int) - 1, -1) := rfl
theorem pl_rev (n : Nat) : Builtin.Slice.slicePlaces ((n : Int) - 1) (-1) (-1) = n := by
  unfold Builtin.Slice.slicePlaces
  have h1 : ¬ ((-1 : Int) > 0) := by omega
  simp only [h1, if_false]
  split <;> simp <;> omega
theorem pick_rev (xs : List Value) : ((List.range xs.length).filterMap fun (m : Nat) => xs.toArray[(((xs.length : Int) - 1) + (m : Int) * (-1)).toNat]?) = xs.reverse := by
  have key : ∀ m, m ≤ xs.length → ((List.range m).filterMap fun (k : Nat) => xs.toArray[(((xs.length : Int) - 1) + (k : Int) * (-1)).toNat]?) = xs.reverse.take m := by
    intro m
    induction m with
    | zero => intro _; rfl
    | succ m ih =>
      intro hm
      rw [List.range_succ, List.filterMap_append, ih (by omega), List.take_add_one]
      have e : (((xs.length : Int) - 1) + (m : Int) * (-1)).toNat = xs.length - 1 - m := by omega
      have hl : m < xs.reverse.length := by rw [List.length_reverse]; omega
      have e2 : xs.toArray[xs.length - 1 - m]? = some (xs.reverse[m]) := by
        rw [List.getElem?_toArray, List.getElem_reverse, List.getElem?_eq_getElem]
      rw [List.getElem?_eq_getElem hl]
      simp only [List.filterMap_cons, List.filterMap_nil, e, e2, Option.toList_some]
  have := key xs.length (Nat.le_refl _)
  rw [this, List.take_of_length_le (by rw [List.length_reverse]; exact Nat.le_refl _)]
section
variable {prog : Program} {w : World} {A : Around} {E : Value → Shared → Prop} {s : Shared}
theorem sliceApplied_rev {sl : Addr} {vl vu vs : Value} {n : Nat} {Q : Int × Int × Nat → Shared → Prop} (hs : s.heap.IsSliceOf sl vl vu vs) (pl : IsPart vl none) (pu : IsPart vu none) (ps : IsPart vs (some (-1)))
    (h : Q ((n : Int) - 1, -1, n) s) : wpAny (model prog w) A (Builtin.Slice.sliceApplied (.ref sl) (pure (n : Int))) Q E s := by
  obtain ⟨os, hos, hcs, hds⟩ := id hs
  unfold Builtin.Slice.sliceApplied Builtin.Slice.sliceFields
  refine wpAny_bind (wpAny_bind (wpAny_field hos hds (x := vl) rfl (wpAny_bind (wpAny_field hos hds (x := vu) rfl (wpAny_bind (wpAny_field hos hds (x := vs) rfl (wpAny_pure ?_)))))))
  refine wpAny_bind (slicePart_ ps ?_)
  show wpAny _ _ (if ((-1 : Int) == 0) = true then _ else _) _ _ s
  rw [if_neg (by decide)]
  refine wpAny_bind (slicePart_ pl (wpAny_bind (slicePart_ pu (wpAny_bind (wpAny_pure ?_)))))
  show wpAny _ _ (match Builtin.Slice.sliceAdjust none none (-1) (n : Int) with | (lo, hi) => pure (lo, (-1 : Int), Builtin.Slice.slicePlaces lo hi (-1))) _ _ s
  rw [adj_rev n]
  show wpAny _ _ (pure ((n : Int) - 1, (-1 : Int), Builtin.Slice.slicePlaces ((n : Int) - 1) (-1) (-1))) _ _ s
  rw [pl_rev]
  exact wpAny_pure h
theorem getItem_tuple_rev {t sl : Addr} {items : List Value} {vl vu vs : Value} {Q : Value → Shared → Prop} (ht : IsTup s.heap t items.toArray) (hs : s.heap.IsSliceOf sl vl vu vs) (pl : IsPart vl none) (pu : IsPart vu none) (ps : IsPart vs (some (-1)))
    (h : Q (.ref s.heap.objs.size) { s with heap := s.heap.push { cls := .type "tuple", data := .seq items.reverse.toArray } })
    (hsz : items.length ≤ sizeLine) : wpAny (model prog w) A (getItem (.ref t) (.ref sl)) Q E s := by
  have htake : sizeOk (.seq items.reverse.toArray) := by
    show items.reverse.toArray.size ≤ sizeLine
    rw [List.size_toArray, List.length_reverse]
    omega
  obtain ⟨os, hos, hcs, hds⟩ := id hs
  have hTs : s.TypeIs (.ref sl) "slice" := ⟨os, hos, hcs⟩
  unfold getItem
  try with_reducible refine wpAny_holding ?_
  first | refine wpAny_bind (wpAny_pure ?_) | skip
  refine wpAny_bind (wpAny_sequenceKey ht.typeIs (by decide) ?_)
  refine wpAny_bind (wpAny_callSpecial?_slot (name := Str.ofString "__getitem__") ht.typeIs PyProof.Rows.slot_tuple_getitem
    (wpAny_call_entry PyProof.Rows.slot_tuple_getitem ht.typeIs entry_tuple_getitem ?_ (args_tuple_getitem _ _)))
  show wpAny _ _ (Builtin.Tuple.tupleItemsOf (.ref t) >>= _) _ _ s
  refine wpAny_bind (tupleItemsOf_ ht ?_)
  refine wpAny_bind (wpAny_typeOf hTs ?_)
  rw [if_pos (by decide)]
  rw [List.size_toArray]
  refine wpAny_bind (sliceApplied_rev hs pl pu ps ?_)
  have hno : ¬ ((((items.length : Int) - 1) == 0 && (-1 : Int) == 1 && items.length == items.length) = true) := by
    rw [show ((-1 : Int) == 1) = false from rfl, Bool.and_false, Bool.false_and]
    exact Bool.false_ne_true
  show wpAny _ _ (if (((items.length : Int) - 1) == 0 && (-1 : Int) == 1 && items.length == items.length) = true then _ else _) _ _ s
  rw [if_neg hno, pick_rev]
  first
    | exact wpAny_bind (m := Builtin.Tuple.tupleExact _) (wpAny_newObj_type (wpAny_pure ⟨_, rfl, wpAny_pure h⟩) htake)
    | exact wpAny_bind (m := Builtin.Tuple.tupleExact _) (wpAny_newObj_type (wpAny_bind (wpAny_pure (wpAny_pure ⟨_, rfl, wpAny_pure h⟩))) htake)
    | exact wpAny_bind (wpAny_bind (m := Builtin.Tuple.tupleExact _) (wpAny_newObj_type (wpAny_pure (wpAny_pure ⟨_, rfl, wpAny_pure h⟩)) htake))
    | exact wpAny_bind (wpAny_bind (m := Builtin.Tuple.tupleExact _) (wpAny_newObj_type (wpAny_pure ⟨_, rfl, wpAny_pure h⟩) htake))
end
def tRevT (K : PySem.W.Frag) (te : TE) : TE := fun σ H Q => te σ H fun x H1 => ∃ a xs, x = .ref a ∧ SqT K H1 a xs ∧ ∀ p, H1 p = none → Q (.ref p) (upd H1 p (.tup xs.reverse))
section
variable {X : Cx}
theorem pe_revT {e : Expr} {te : TE} {k : Nat} {p1 p2 p3 pos : Pos} (he : PE X e te) : PE X (.Subscript e (.Slice none none (some (.UnaryOp .USub (.Constant (.int 1) k p1) p2)) p3) pos) (tRevT X.K te) := by
  refine ⟨fun pins s σ H Q I h => ?_⟩
  refine Subscript_ (thn (he.run pins s σ H _ I h) fun v s1 ⟨x, H1, I1, r1, q1⟩ => ?_)
  obtain ⟨a, xs, ex, hx, q⟩ := q1
  subst ex
  cases r1
  have hst : PO X (some (.UnaryOp .USub (.Constant (.int 1) k p1) p2)) (tPart (tUn (rU fun i => .int (-i)) (tC (.int 1)))) := po_some (pe_un un_neg pe_int)
  refine wpAny_Slice (thn (po_none.run pins s1 σ H1 (fun o H2 => o = none ∧ H2 = H1) I1 ⟨rfl, rfl⟩) fun vl s2 ⟨l, H2, I2, pl, el, e2⟩ => ?_)
  subst el e2
  refine thn (po_none.run pins s2 σ H2 (fun o H3 => o = none ∧ H3 = H2) I2 ⟨rfl, rfl⟩) fun vu s3 ⟨u, H3, I3, pu, eu, e3⟩ => ?_
  subst eu e3
  refine thn (hst.run pins s3 σ H3 (fun o H4 => o = some (-1) ∧ H4 = H3) I3 ⟨1, rfl, -1, rfl, rfl, rfl⟩) fun vs s4 ⟨o, H4, I4, ps, eo, e4⟩ => ?_
  subst eo e4
  have I5 : Inv X pins σ H4 { s4 with heap := s4.heap.push { cls := .type "slice", data := .fields #[vl, vu, vs] } } := I4.kept (t' := s4.toks) fun b ob q => Heap.get?_push_of_some _ q
  obtain ⟨its, r, ht, hz⟩ := I5.tuple hx
  have hlen := r.length
  show wpAny (model X.prog X.w) X.A (subscriptTail e (.Slice none none (some (.UnaryOp .USub (.Constant (.int 1) k p1) p2)) p3) (.ref a) (.ref s4.heap.objs.size)) (EP X pins σ Q) X.xe { s4 with heap := s4.heap.push { cls := .type "slice", data := .fields #[vl, vu, vs] } }
  refine tail_any (ops := [.ref a, .ref s4.heap.objs.size]) ht.typeIs (PyProof.Rows.slot_tuple_getitem.lookup) ?_ (by with_unfolding_all rfl)
  refine getItem_tuple_rev ht (Heap.IsSliceOf.new _ vl vu vs) pl pu ps ?_ (by rw [← hlen]; exact hz)
  refine ⟨.ref _, _, I5.laid (t' := s4.toks) (o := .tup xs.reverse) (fun b ob q => Heap.get?_push_of_some _ q) (Nat.le_refl _) ?_, rfl, q _ (I5.hok.fresh (Nat.le_refl _))⟩
  exact ⟨by rw [List.length_reverse]; exact hz, _, r.reverse, IsTup.new _ _⟩
end
/-! ### t * k, k from 1 on -/
theorem tuple_mulW1 (l : Addr) (items : Array Value) (n : Nat) (dd : Option Addr) (sl : Array (Option Value)) (u : Tok) :
    Meets (Builtin.«tuple.__mul__» ⟨[.ref l, .int 1 u], []⟩) (fun _ R s => s.heap.get? l = some { cls := .type "tuple", dict := dd, data := .seq items n, slots := sl } ∧ R (.ok (.ret (Value.ref l))) s) :=
  .of_wp fun prog w A R s h => by
    obtain ⟨hp, g, d, tk, os⟩ := s
    obtain ⟨hl, h⟩ := h
    have f1 := AutoSeq1.idx_int
    have c0 : (decide ((1 : Int) < -(2 ^ 63)) || decide ((1 : Int) ≥ 2 ^ 63)) = false := by decide
    have c1 : (items.isEmpty || (1 : Int) == 1) = true := by rw [show ((1 : Int) == 1) = true from rfl, Bool.or_true]
    wp_walk using wpAny_loadPart' hl
    repeat (first
      | (refine wpAny_ite_false (decide_eq_false (by rw [c0]; exact Bool.false_ne_true)) ?_; wp_walk using wpAny_loadPart' hl)
      | (refine wpAny_ite_true (decide_eq_true c1) ?_; wp_walk using wpAny_loadPart' hl))
    exact ⟨_, rfl, h⟩
def rRepA (K : PySem.W.Frag) : R2 := fun x y H Q => ∃ l k xs, x = .ref l ∧ y = .int k ∧ SqT K H l xs ∧ xs ≠ [] ∧ 1 ≤ k ∧ k ≤ 1000 ∧ xs.length ≤ 1000 ∧ (k = 1 → Q (.ref l) H) ∧ (k ≠ 1 → ∀ p, H p = none → Q (.ref p) (upd H p (.tup (List.replicate k.toNat xs).flatten)))
section
variable {X : Cx}
theorem op_repA : OpR X (binaryOp .Mult) (rRepA X.K) := by
  intro pins s σ H x y v u Q I rx ry h
  obtain ⟨l, k, xs, rfl, rfl, hT, hne, h1, h2, hz, q1, q2⟩ := h
  by_cases hk : k = 1
  · subst hk
    cases rx
    obtain ⟨t, rfl⟩ := ry
    obtain ⟨its, r, ⟨⟨cls, dd, data, sl⟩, ho, hc, n, hd⟩, hs⟩ := I.tuple hT
    simp only at hc hd
    subst hc hd
    refine wpAny_binaryOp_repeat_ref (T := "tuple") (U := "int") (by decide) ⟨_, ho, rfl⟩ (fun s' => typeIs_int s' 1 t) noFill_tuple_mul F.fills_int_mul F.slot_int_rmul repeat_tuple F.slot_int_index.lookup
      (call_meets F.slot_int_rmul (typeIs_int s 1 t) F.entry_int_rmul (F.args_int_rmul_2 _ _) (int_rmul_tuple 1 t l its.toArray n dd sl)
        ⟨ho, rfl, ⟨_, ho, rfl⟩, call_meets F.slot_tuple_mul ⟨_, ho, rfl⟩ F.entry_tuple_mul (F.args_tuple_mul_2 _ _) (tuple_mulW1 l its.toArray n dd sl t) ⟨ho, ?_⟩⟩)
    exact ⟨.ref l, H, I, rfl, q1 rfl⟩
  · exact op_repT pins s σ H _ _ v u Q I rx ry ⟨l, k, xs, rfl, rfl, hT, hne, by omega, h2, hz, q2 hk⟩
end
end RR

/-! ## enumerate over a tuple; an empty tuple times k -/
namespace RR
open PySem PySem.Spec PyProof.Rows L2 HT
open Sem (wp)
open AutoSeq1 (wpAny_loadPart')
section
variable {prog : Program} {w : World} {A : Around} {E : Value → Shared → Prop} {s : Shared}
theorem next_tuple_item {it t : Addr} {i : Nat} {items} {x : Value} {Q : Value → Shared → Prop} (hit : s.heap.IsTupleIter it t i)
    (ht : s.heap.IsTuple t items) (hx : items[i]? = some x)
    (hQ : ∀ h', h'.IsTupleIter it t (i + 1) → Heap.SameBut it s.heap h' → Q x { s with heap := h' }) :
    wpAny (model prog w) A (Builtin.SmallTypes.nextOf (.ref it)) Q E s := by
  obtain ⟨o, ho, hc, hd⟩ := id hit
  obtain ⟨ol, hol, _, nl, hdl⟩ := ht
  unfold Builtin.SmallTypes.nextOf
  refine wpAny_bind (wpAny_callSpecial?_slot (name := Str.ofString "__next__") hit.typeIs F.slot_tuple_iterator_next
    (wpAny_call_entry F.slot_tuple_iterator_next hit.typeIs F.entry_tuple_iterator_next ?_ (F.args_tuple_iterator_next_1 _)))
  show wpAny _ _ (field (.ref it) 0 >>= _) _ _ s
  refine wpAny_bind (wpAny_field ho hd (x := .ref t) rfl ?_)
  show wpAny _ _ (if (Value.ref t == Value.none) = true then _ else _) _ _ s
  rw [if_neg (show ¬ ((Value.ref t == Value.none) = true) from Bool.false_ne_true)]
  show wpAny _ _ (field (.ref it) 1 >>= _) _ _ s
  refine wpAny_bind (wpAny_field ho hd (x := .int i 0) rfl ?_)
  show wpAny _ _ (seqItems? (.ref t) >>= _) _ _ s
  refine wpAny_bind (wpAny_seqItems hol hdl ?_)
  simp only [Int.toNat_natCast, hx]
  refine wpAny_bind (wpAny_setField ho hd (by simp) (wpAny_pure ⟨x, rfl, wpAny_pure (hQ _ ?_ (Heap.SameBut.update ..))⟩))
  exact ⟨_, Heap.get?_update_self _ ho (Obj.isFreed_of_fields (Obj.data_mapFields hd _)), (Obj.cls_mapFields ..).trans hc, by
    rw [Obj.data_mapFields hd]; simp [rawInt]⟩
theorem next_tuple_end {it t : Addr} {i : Nat} {items} {Q : Value → Shared → Prop} (hh : A.handled = none)
    (hit : s.heap.IsTupleIter it t i) (ht : s.heap.IsTuple t items) (hx : items[i]? = none)
    (hE : ∀ h' e, Heap.ExtBut it s.heap h' → (∃ o, h'.get? e = some o ∧ o.cls = .type "StopIteration") → E (.ref e) { s with heap := h' }) :
    wpAny (model prog w) A (Builtin.SmallTypes.nextOf (.ref it)) Q E s := by
  obtain ⟨o, ho, hc, hd⟩ := id hit
  obtain ⟨ol, hol, _, nl, hdl⟩ := ht
  unfold Builtin.SmallTypes.nextOf
  refine wpAny_bind (wpAny_callSpecial?_slot (name := Str.ofString "__next__") hit.typeIs F.slot_tuple_iterator_next
    (wpAny_call_entry F.slot_tuple_iterator_next hit.typeIs F.entry_tuple_iterator_next ?_ (F.args_tuple_iterator_next_1 _)))
  show wpAny _ _ (field (.ref it) 0 >>= _) _ _ s
  refine wpAny_bind (wpAny_field ho hd (x := .ref t) rfl ?_)
  show wpAny _ _ (if (Value.ref t == Value.none) = true then _ else _) _ _ s
  rw [if_neg (show ¬ ((Value.ref t == Value.none) = true) from Bool.false_ne_true)]
  show wpAny _ _ (field (.ref it) 1 >>= _) _ _ s
  refine wpAny_bind (wpAny_field ho hd (x := .int i 0) rfl ?_)
  show wpAny _ _ (seqItems? (.ref t) >>= _) _ _ s
  refine wpAny_bind (wpAny_seqItems hol hdl ?_)
  simp only [Int.toNat_natCast, hx]
  refine wpAny_bind (wpAny_rule (wpAny_bind (wpAny_setField ho hd (by simp) ?_)))
  show wpAny _ _ (newExc (.type "StopIteration") [] >>= _) _ _ _
  refine wpAny_bind ?_
  simp only [newExc, newTuple]
  refine wpAny_bind (wpAny_newObj_type ?_ (by size_fits))
  refine wpAny_bind (m := firstArgMember _ _) (wpAny_of_eq (a := Value.none) (by first | rfl | (simp only [firstArgMember]; rfl)) ?_)
  refine wpAny_newObj_type ?_ (by size_fits)
  simp only [raiseNew]
  refine wpAny_bind (wpAny_handled ?_)
  first | rw [show A.in1.handled = none from hh] | rw [hh]
  refine wpAny_bind (wpAny_pure (wpAny_throw ?_))
  exact hE _ _ (((Heap.SameBut.update ..).extBut.push _).push _) ⟨_, Heap.get?_push_size _ rfl, rfl⟩
end
theorem tup_at {h h' : Heap} {a : Addr} {items} (x : h.IsTuple a items) (e : ∀ o, h.get? a = some o → h'.get? a = some o) : h'.IsTuple a items := let ⟨o, ho, r⟩ := x; ⟨o, e _ ho, r⟩
theorem draws_tuple {prog : Program} {w : World} {A : Around} (hh : A.handled = none) (it l : Addr) (hne : l ≠ it) (items : Array Value) :
    Draws prog w A it [it, l] items.size (fun i v => items[i]? = some v) (fun i h => h.IsTupleIter it l i ∧ h.IsTuple l items) where
  live := fun _ _ st => let ⟨o, ho, _⟩ := st.1; ⟨o, ho⟩
  frame := fun _ _ _ st hk => ⟨st.1.at fun o e => hk it (by simp) o e, tup_at st.2 fun o e => hk l (by simp) o e⟩
  item := fun i s Q E hi st hQ => by
    refine next_tuple_item st.1 st.2 (x := items[i]) (by simp [hi]) fun h' hit' hs' => ?_
    exact hQ _ h' s.toks (by simp [hi]) ⟨hit', st.2.extBut hs'.extBut hne⟩ hs'
  done := fun s Q E st hE => next_tuple_end hh st.1 st.2 (by simp) hE
theorem enumerate_newT (l : Addr) (items : Array Value) (n : Nat) (dct : Option Addr) (sl : Array (Option Value)) :
    Meets (Builtin.«enumerate.__new__» ⟨[.type "enumerate", .ref l], []⟩) (fun _ R s => s.heap.get? l = some { cls := .type "tuple", dict := dct, data := .seq items n, slots := sl } ∧
      R (.ok (.ret (.ref (s.heap.push { cls := .type "tuple_iterator", data := .fields #[.ref l, .int 0 0] }).objs.size)))
        { s with heap := (s.heap.push { cls := .type "tuple_iterator", data := .fields #[.ref l, .int 0 0] }).push { cls := .type "enumerate", data := .fields #[.none, .bool false, .ref s.heap.objs.size, rawInt 0, .none, .none] } }) :=
  .of_wp fun prog w A R s h => by
    obtain ⟨hp, g, d, tk, os⟩ := s; obtain ⟨hl, h⟩ := h
    have hsub := sub_enumerate
    have hL : Heap.IsTuple (Shared.heap ⟨hp, g, d, tk, os⟩) l items := ⟨_, hl, rfl, n, rfl⟩
    wp_walk using wpAny_loadPart' hl
    refine wpAny_stack_any fun st => wpAny_pure ?_
    split
    · rename_i c _ _ _ _ _
      cases (c == Value.type "enumerate")
      · wp_walk using wpAny_loadPart' hl, wpAny_pyIter_tuple hL
        exact ⟨_, rfl, h⟩
      · wp_walk using wpAny_loadPart' hl, wpAny_pyIter_tuple hL
        exact ⟨_, rfl, h⟩
    · wp_walk using wpAny_loadPart' hl, wpAny_pyIter_tuple hL
      exact ⟨_, rfl, h⟩
section
variable {prog : Program} {w : World} {A : Around} {E : Value → Shared → Prop} {s : Shared}
theorem call_enumerate_tuple {l : Addr} {items : Array Value} {Q : Value → Shared → Prop} (hL : s.heap.IsTuple l items)
    (h : ∀ h', IsEnum h' (s.heap.objs.size + 1) s.heap.objs.size 0 .none → h'.IsTupleIter s.heap.objs.size l 0 → h'.objs.size = s.heap.objs.size + 2 →
      (∀ b o, s.heap.get? b = some o → h'.get? b = some o) → Q (.ref (s.heap.objs.size + 1)) { s with heap := h' }) :
    wpAny (model prog w) A (call (.type "enumerate") [.ref l]) Q E s := by
  obtain ⟨⟨c, dct, dt, sl⟩, hl, hc, n, hd⟩ := hL
  replace hc : c = .type "tuple" := hc
  replace hd : dt = .seq items n := hd
  subst hc hd
  refine callType_new F.called_enumerate (by decide) (F.typeCall_enumerate_1 _) (F.newCall_enumerate_1 _) (fun obj => F.args_object_init_2 obj _) F.entry_enumerate_new
    (enumerate_newT l items n dct sl) ⟨hl, ?_⟩
  have hz : (s.heap.push { cls := .type "tuple_iterator", data := .fields #[.ref l, .int 0 0] }).objs.size = s.heap.objs.size + 1 := Heap.size_push ..
  show _ ∧ _
  rw [hz]
  have he : IsEnum ((s.heap.push { cls := .type "tuple_iterator", data := .fields #[.ref l, .int 0 0] }).push
      { cls := .type "enumerate", data := .fields #[.none, .bool false, .ref s.heap.objs.size, rawInt 0, .none, .none] }) (s.heap.objs.size + 1) s.heap.objs.size 0 .none := by
    have := Heap.get?_push_size (s.heap.push { cls := .type "tuple_iterator", data := .fields #[.ref l, .int 0 0] })
      (o := { cls := .type "enumerate", data := .fields #[.none, .bool false, .ref s.heap.objs.size, rawInt 0, .none, .none] }) rfl
    rw [hz] at this; exact this
  refine ⟨⟨_, he, rfl⟩, h _ he ⟨_, Heap.get?_push_of_some _ (Heap.get?_push_size _ rfl), rfl, rfl⟩ (by rw [Heap.size_push, hz]) fun b o x => Heap.get?_push_of_some _ (Heap.get?_push_of_some _ x)⟩
end
/-- the tuple at a, each item in a new pair -/
def IteT (K : PySem.W.Frag) (a : Addr) : It :=
  ⟨fun i H => ∃ (xs : List V) (x : V), SqT K H a xs ∧ xs[i]? = some x, fun i H v H' => ∃ T x, v = .ref T ∧ H T = none ∧ H' = upd H T (.tup [.int (i : Nat), x]) ∧ ∀ xs, SqT K H a xs → xs[i]? = some x, fun i H => ∃ xs : List V, SqT K H a xs ∧ xs.length ≤ i⟩
theorem turn_enumT {P : Program} {w : World} {K : PySem.W.Frag} {elts : List Expr} {kk : Nat} {tpos : Pos} (a e it : Addr) :
    Turn P w K (.Tuple elts kk tpos) (IteT K a) [e, it] e (fun i h => (∃ old, IsEnum h e it ((i : Nat) : Int) old) ∧ h.IsTupleIter it a i ∧ e ≠ it ∧ a ≠ it ∧ a ≠ e) where
  mem := by simp
  obj := fun i h st b hb => by
    obtain ⟨⟨old, he⟩, ⟨o, ho, hc, hd⟩, _⟩ := st
    have e' : b = e ∨ b = it := by simpa using hb
    rcases e' with z | z
    · rw [z]; exact ⟨_, he, fun v q => nomatch q⟩
    · rw [z]; exact ⟨o, ho, fun v q => by rw [hd] at q; cases q⟩
  keep := fun i h h' st k => let ⟨⟨old, he⟩, hi, hne⟩ := st; ⟨⟨old, k e (by simp) _ he⟩, hi.at fun o q => k it (by simp) o q, hne⟩
  item := by
    intro X hP hw hK hc i pins s σ H E I hf st hg
    subst hP hw hK
    obtain ⟨⟨old, he⟩, hit, hne, hai, hae⟩ := st
    obtain ⟨xs, x, hq, hx⟩ := hg
    obtain ⟨its, rv, p, hz⟩ := I.tuple hq
    obtain ⟨u, hu, ru⟩ := rv.get hx
    have hel : e < s.heap.objs.size := Heap.lt_size he
    have hil : it < s.heap.objs.size := by obtain ⟨_, q, _⟩ := hit; exact Heap.lt_size q
    have hlt : i < its.toArray.size := by
      have := (List.getElem?_eq_some_iff.mp hu).1
      simpa using this
    refine wpAny_pyNext_enum_itemD (draws_tuple (prog := X.prog) (w := X.w) (A := X.A.in1) (show X.A.in1.handled = none from I.ok.hd hc) it a hai its.toArray) he ⟨hit, (show s.heap.IsTuple a its.toArray from p)⟩ hlt hne (by simp [hne, Ne.symm hae]) fun y h' tk hy ho hst' hT hsz hk => ?_
    have hyu : y = u := by
      have h2 : its.toArray[i]? = some u := by simpa using hu
      exact Option.some.inj (hy.symm.trans h2)
    subst hyu
    refine ⟨_, rfl, wpAny_letOwnedTupleGo_enum (s := { s with heap := h', toks := tk + 1 }) ho fun h'' he' sb => ?_⟩
    have hT2 : h''.get? s.heap.objs.size = some { cls := .type "tuple", data := .seq #[.int i tk, y] } := (sb.2 _ (Nat.ne_of_gt hel)).trans hT
    have new : ObjOk X.prog X.w (upd H s.heap.objs.size (.tup [.int (i : Nat), x])) h'' s.heap.objs.size (.tup [.int (i : Nat), x]) :=
      ⟨by show 2 ≤ sizeLine; decide, [.int i tk, y], .cons ⟨_, rfl⟩ (.cons ru .nil), ⟨_, hT2, rfl, _, rfl⟩⟩
    have I1 : Inv X pins σ (upd H s.heap.objs.size (.tup [.int (i : Nat), x])) { s with heap := h'', toks := tk + 1 } :=
      I.turnedNew (ch := [e, it]) (fun b ob hb q => (sb.2 b (fun z => hb (by simp [z]))).trans (hk b ob (fun z => hb (by simp [z])) (fun z => hb (by simp [z])) q)) hf (Nat.le_refl _) new
    refine ⟨.ref s.heap.objs.size, _, I1, rfl, ⟨_, x, rfl, I.hok.fresh (Nat.le_refl _), rfl, fun ys hy => by rw [I.tuple_inj hy hq]; exact hx⟩, ⟨⟨y, ?_⟩, hst'.1.at fun o q => (sb.2 it (Ne.symm hne)).trans q, hne, hai, hae⟩, fun b hb => ?_⟩
    · have e1 : ((i + 1 : Nat) : Int) = (i : Int) + 1 := by omega
      rw [e1]; exact he'
    · have hb' : b < s.heap.objs.size := by
        have e' : b = e ∨ b = it := by simpa using hb
        rcases e' with z | z
        · rw [z]; exact hel
        · rw [z]; exact hil
      rw [upd_ne (Nat.ne_of_lt hb')]
      exact (hf b hb).1
  done := by
    intro X hP hw hK hc i pins s σ H E I hf st hg
    subst hP hw hK
    obtain ⟨⟨old, he⟩, hit, hne, hai, hae⟩ := st
    obtain ⟨xs, hq, hx⟩ := hg
    obtain ⟨its, rv, p, hz⟩ := I.tuple hq
    obtain ⟨f0, f1, f2, f3, f4, f5⟩ := hf it (by simp)
    have hl := rv.length
    have hT : s.TypeIs (.ref e) "enumerate" := ⟨_, he, rfl⟩
    unfold pyNext
    refine wpAny_bind (wpAny_attempt (wpAny_callSpecial?_slot (name := Str.ofString "__next__") hT F.slot_enumerate_next
      (wpAny_call_entry F.slot_enumerate_next hT F.entry_enumerate_next ?_ (F.args_enumerate_next_1 _))))
    show wpAny _ _ (field (.ref e) 2 >>= _) _ _ _
    refine wpAny_bind (wpAny_field he rfl (x := .ref it) rfl ?_)
    refine wpAny_bind (next_tuple_end (I.ok.hd hc) hit (show s.heap.IsTuple a its.toArray from p) (by simp; omega) fun h' x eb hx' => ?_)
    obtain ⟨o, ho, hc'⟩ := hx'
    refine wpAny_bind (wpAny_isInstance (T := "StopIteration") (b := true) ⟨o, ho, hc'⟩ isSubtype_stop ?_)
    exact wpAny_pure ⟨rfl, I.turned (t' := s.toks) (fun b o hb q => eb b o hb q) f0 f1 f3 f4 f5⟩
  self := fun A i s Q E st h => let ⟨⟨_, he⟩, _⟩ := st; wpAny_pyIter_enum he h
def iEnumT (K : PySem.W.Frag) (ta : TA) : TI := fun σ H R => ta σ H fun vs H1 => ∃ a xs, vs = [.ref a] ∧ SqT K H1 a xs ∧ R (IteT K a) H1
theorem pi_enumT {X : Cx} {e : Expr} {ta : TA} {p pos tpos : Pos} {elts : List Expr} {kk : Nat} (hg : Gl X "enumerate") (hm : X.mg "enumerate" = none) (ha : PA X [e] ta) (hs : starEach [e] X.env = [(false, eval e X.env)] := by rfl) :
    PI X (.Tuple elts kk tpos) (.Call (.Name "enumerate" p) [e] [] pos) (iEnumT X.K ta) := by
  refine ⟨fun pins s σ H R I h => ?_⟩
  refine Call_ (ld_blt I hg hm boot_enumerate (PyProof.Rows.callWith_type1 (thn (ha.run pos pins s σ H _ I h) fun us s1 ⟨vs, H1, I1, r1, q1⟩ => ?_) hs rfl))
  obtain ⟨a, xs, ex, hq, q⟩ := q1
  subst ex
  cases r1 with
  | cons r rr =>
    cases rr
    cases r
    obtain ⟨its, rv, p', hz⟩ := I1.tuple hq
    have hp : s1.heap.IsTuple a its.toArray := p'
    have hal : a < s1.heap.objs.size := by obtain ⟨_, q, _⟩ := hp; exact Heap.lt_size q
    refine call_enumerate_tuple hp fun h' he hit hsz hk => wpAny_pyIter_enum he ?_
    have I2 : Inv X pins σ H1 { s1 with heap := h' } := I1.kept (t' := s1.toks) hk
    refine ⟨s1.heap.objs.size + 1, [s1.heap.objs.size + 1, s1.heap.objs.size], _, _, H1, rfl, I2, turn_enumT a (s1.heap.objs.size + 1) s1.heap.objs.size, ⟨⟨.none, he⟩, hit, Nat.succ_ne_self _, Nat.ne_of_lt hal, Nat.ne_of_lt (Nat.lt_succ_of_lt hal)⟩, fun b hb => ?_, q⟩
    have e' : b = s1.heap.objs.size + 1 ∨ b = s1.heap.objs.size := by simpa using hb
    have hle : s1.heap.objs.size ≤ b := by
      rcases e' with z | z
      · rw [z]; exact Nat.le_add_right _ _
      · rw [z]; exact Nat.le_refl _
    exact I1.fpOk hle (I1.hok.fresh hle)
theorem for_enumT {K : PySem.W.Frag} {a : Addr} {xs : List V} {g : TG} {tb : TS} {D : Ends} {σ : L2.St} {H : Hp} (Pv : Nat → L2.St → Hp → Prop) (h0 : Pv 0 σ H) (hl : ∀ i σ H, i ≤ xs.length → Pv i σ H → SqT K H a xs)
    (hs : ∀ i x T σ H, xs[i]? = some x → Pv i σ H → H T = none → g (.ref T) σ (upd H T (.tup [.int (i : Nat), x])) fun σ2 H2 => tb { D with nx := Pv (i + 1), ct := Pv (i + 1), bk := D.nx } σ2 H2) (hd : ∀ σ H, Pv xs.length σ H → D.nx σ H) :
    ∃ W : Nat → Nat → L2.St → Hp → Prop, (∃ m, W 0 m σ H) ∧ ∀ i m σ H, W i m σ H →
      ((IteT K a).stop i H ∧ D.nx σ H) ∨ ((IteT K a).go i H ∧ ∃ N : L2.St → Hp → Prop, (∀ σ' H', N σ' H' → ∃ m', m' < m ∧ W (i + 1) m' σ' H') ∧ ∀ x H', (IteT K a).yld i H x H' → g x σ H' fun σ2 H2 => tb { D with nx := N, ct := N, bk := D.nx } σ2 H2) := by
  refine ⟨fun i m σ H => m = xs.length - i ∧ i ≤ xs.length ∧ Pv i σ H, ⟨xs.length, by simp, Nat.zero_le _, h0⟩, ?_⟩
  rintro i m σ H ⟨rfl, hi, p⟩
  have hL := hl i σ H hi p
  by_cases h : i < xs.length
  · refine .inr ⟨⟨xs, xs[i], hL, List.getElem?_eq_getElem h⟩, Pv (i + 1), fun σ' H' n => ⟨xs.length - (i + 1), by omega, rfl, by omega, n⟩, ?_⟩
    rintro v H' ⟨T, x, rfl, nT, rfl, hx⟩
    exact hs i x T σ H (hx xs hL) p nT
  · have e : i = xs.length := by omega
    subst e
    exact .inl ⟨⟨xs, hL, Nat.le_refl _⟩, hd σ H p⟩
theorem for_enumL {K : PySem.W.Frag} {a : Addr} {xs : List V} {g : TG} {tb : TS} {D : Ends} {σ : L2.St} {H : Hp} (Pv : Nat → L2.St → Hp → Prop) (h0 : Pv 0 σ H) (hl : ∀ i σ H, i ≤ xs.length → Pv i σ H → SqL K H a xs)
    (hs : ∀ i x T σ H, xs[i]? = some x → Pv i σ H → H T = none → g (.ref T) σ (upd H T (.tup [.int (i : Nat), x])) fun σ2 H2 => tb { D with nx := Pv (i + 1), ct := Pv (i + 1), bk := D.nx } σ2 H2) (hd : ∀ σ H, Pv xs.length σ H → D.nx σ H) :
    ∃ W : Nat → Nat → L2.St → Hp → Prop, (∃ m, W 0 m σ H) ∧ ∀ i m σ H, W i m σ H →
      ((Ite K a).stop i H ∧ D.nx σ H) ∨ ((Ite K a).go i H ∧ ∃ N : L2.St → Hp → Prop, (∀ σ' H', N σ' H' → ∃ m', m' < m ∧ W (i + 1) m' σ' H') ∧ ∀ x H', (Ite K a).yld i H x H' → g x σ H' fun σ2 H2 => tb { D with nx := N, ct := N, bk := D.nx } σ2 H2) := by
  refine ⟨fun i m σ H => m = xs.length - i ∧ i ≤ xs.length ∧ Pv i σ H, ⟨xs.length, by simp, Nat.zero_le _, h0⟩, ?_⟩
  rintro i m σ H ⟨rfl, hi, p⟩
  have hL := hl i σ H hi p
  by_cases h : i < xs.length
  · refine .inr ⟨⟨xs, xs[i], hL, List.getElem?_eq_getElem h⟩, Pv (i + 1), fun σ' H' n => ⟨xs.length - (i + 1), by omega, rfl, by omega, n⟩, ?_⟩
    rintro v H' ⟨T, x, rfl, nT, rfl, hx⟩
    exact hs i x T σ H (hx xs hL) p nT
  · have e : i = xs.length := by omega
    subst e
    exact .inl ⟨⟨xs, hL, Nat.le_refl _⟩, hd σ H p⟩
/-! ### () * k -/
theorem tuple_mul0 (l : Addr) (n : Nat) (dd : Option Addr) (sl : Array (Option Value)) (x : Int) (u : Tok) (c0 : (decide (x < -(2 ^ 63)) || decide (x ≥ 2 ^ 63)) = false) :
    Meets (Builtin.«tuple.__mul__» ⟨[.ref l, .int x u], []⟩) (fun _ R s => s.heap.get? l = some { cls := .type "tuple", dict := dd, data := .seq #[] n, slots := sl } ∧ R (.ok (.ret (Value.ref l))) s) :=
  .of_wp fun prog w A R s h => by
    obtain ⟨hp, g, d, tk, os⟩ := s
    obtain ⟨hl, h⟩ := h
    have f1 := AutoSeq1.idx_int
    have c1 : ((#[] : Array Value).isEmpty || x == 1) = true := rfl
    wp_walk using wpAny_loadPart' hl
    repeat (first
      | (refine wpAny_ite_false (decide_eq_false (by rw [c0]; exact Bool.false_ne_true)) ?_; wp_walk using wpAny_loadPart' hl)
      | (refine wpAny_ite_true (decide_eq_true c1) ?_; wp_walk using wpAny_loadPart' hl))
    exact ⟨_, rfl, h⟩
def rRepZ (K : PySem.W.Frag) : R2 := fun x y H Q => ∃ l k xs, x = .ref l ∧ y = .int k ∧ SqT K H l xs ∧ 1 ≤ k ∧ k ≤ 1000 ∧ xs.length ≤ 1000 ∧ ∀ p H', (∀ b o, H b = some o → H' b = some o) → SqT K H' p (List.replicate k.toNat xs).flatten → Q (.ref p) H'
theorem flat_nil {α : Type} (k : Nat) : (List.replicate k ([] : List α)).flatten = [] := by
  induction k with
  | zero => rfl
  | succ k ih => rw [List.replicate_succ, List.flatten_cons, ih]; rfl
theorem op_repZ {X : Cx} : OpR X (binaryOp .Mult) (rRepZ X.K) := by
  intro pins s σ H x y v u Q I rx ry h
  obtain ⟨l, k, xs, rfl, rfl, hT, h1, h2, hz, q⟩ := h
  by_cases hne : xs = []
  · subst hne
    cases rx
    obtain ⟨t, rfl⟩ := ry
    obtain ⟨its, r, ⟨⟨cls, dd, data, sl⟩, ho, hc, n, hd⟩, hs⟩ := I.tuple hT
    simp only at hc hd
    subst hc hd
    cases r
    have c0 : (decide (k < -(2 ^ 63)) || decide (k ≥ 2 ^ 63)) = false := by
      rw [decide_eq_false (by omega), decide_eq_false (by omega)]
      rfl
    refine wpAny_binaryOp_repeat_ref (T := "tuple") (U := "int") (by decide) ⟨_, ho, rfl⟩ (fun s' => typeIs_int s' k t) noFill_tuple_mul F.fills_int_mul F.slot_int_rmul repeat_tuple F.slot_int_index.lookup
      (call_meets F.slot_int_rmul (typeIs_int s k t) F.entry_int_rmul (F.args_int_rmul_2 _ _) (int_rmul_tuple k t l #[] n dd sl)
        ⟨ho, rfl, ⟨_, ho, rfl⟩, call_meets F.slot_tuple_mul ⟨_, ho, rfl⟩ F.entry_tuple_mul (F.args_tuple_mul_2 _ _) (tuple_mul0 l n dd sl k t c0) ⟨ho, ?_⟩⟩)
    exact ⟨.ref l, H, I, rfl, q l H (fun _ _ h => h) (by rw [flat_nil]; exact hT)⟩
  · refine op_repA pins s σ H _ _ v u Q I rx ry ⟨l, k, xs, rfl, rfl, hT, hne, h1, h2, hz, fun e => ?_, fun e p np => ?_⟩
    · refine q l H (fun _ _ h => h) ?_
      subst e
      show SqT X.K H l ([xs]).flatten
      simpa using hT
    · refine q p _ (fun b o e => by rw [upd_ne (ne_of_none e np)]; exact e) (SqT.of upd_same)
end RR

/-! ## heaps, tuples, data, sorts -/
namespace My
open PySem PySem.Spec PyProof.Rows L2
--ANN _law_pick | cut if tape[1] < len(tape[0]): | cut
/-! ### heaps -/
theorem same_upd {H : Hp} {p : Addr} {o : HO} (h : H p = none) : Same H (upd H p o) := fun b x e => by
  rw [upd_ne (ne_of_none e h)]
  exact e
/-- all but t stays -/
def Moved (t : Addr) (H H' : Hp) : Prop := ∀ b o, b ≠ t → H b = some o → H' b = some o
theorem Moved.refl {t : Addr} {H : Hp} : Moved t H H := fun _ _ _ h => h
theorem Moved.trans {t : Addr} {H H1 H2 : Hp} (a : Moved t H H1) (b : Moved t H1 H2) : Moved t H H2 := fun c o n h => b c o n (a c o n h)
theorem Moved.upd {t : Addr} {H : Hp} {o : HO} : Moved t H (upd H t o) := fun b x n e => by
  rw [upd_ne n]
  exact e
theorem Moved.same {t : Addr} {H H' : Hp} (h : Same H H') : Moved t H H' := fun b o _ e => h b o e
theorem Moved.free {t : Addr} {H H' : Hp} (h : Moved t H H') {p : Addr} (n : p ≠ t) (e : H' p = none) : H p = none := by
  cases q : H p with
  | none => rfl
  | some o =>
    rw [h p o n q] at e
    cases e
/-! ### the tape: where the draws stand -/
def Tape (H : Hp) (t s : Addr) : Prop := ∃ (ns : List Int) (pos rest mx ct : Int), s ≠ t ∧ H t = some (.lst [.ref s, .int pos, .int rest, .int mx, .int ct]) ∧ H s = some (.lst (ns.map V.int)) ∧ 0 ≤ pos
theorem Tape.keep {t s : Addr} {H H' : Hp} (h : Tape H t s) (e : Same H H') : Tape H' t s := by
  obtain ⟨ns, a, b, c, d, h1, h2, h3, h4⟩ := h
  exact ⟨ns, a, b, c, d, h1, e _ _ h2, e _ _ h3, h4⟩
theorem Tape.ne {t s p : Addr} {H : Hp} (h : Tape H t s) (np : H p = none) : p ≠ t := fun e => by
  obtain ⟨ns, a, b, c, d, h1, h2, h3, h4⟩ := h
  rw [e, h2] at np
  cases np
theorem Tape.ne2 {t s p : Addr} {H : Hp} (h : Tape H t s) (np : H p = none) : p ≠ s := fun e => by
  obtain ⟨ns, a, b, c, d, h1, h2, h3, h4⟩ := h
  rw [e, h3] at np
  cases np
theorem Tape.but {t s r : Addr} {H : Hp} {o : HO} (h : Tape H t s) (n : r ≠ t) (n2 : r ≠ s) : Tape (upd H r o) t s := by
  obtain ⟨ns, a, b, c, d, h1, h2, h3, h4⟩ := h
  refine ⟨ns, a, b, c, d, h1, ?_, ?_, h4⟩
  · rw [upd_ne n.symm]
    exact h2
  · rw [upd_ne n2.symm]
    exact h3
section
variable {K : PySem.W.Frag} {H : Hp}
theorem tyTup {a : Addr} {xs : List V} (h : SqT K H a xs) : TyX K H (.ref a) (.type "tuple") := by
  rcases h with (h | ⟨o, h⟩) | h
  · exact .base (.tup h)
  · exact .fTuple h
  · obtain ⟨o, n, vs, e, c, _⟩ := h
    exact .kTuple e c
theorem sT {H' : Hp} {a : Addr} {xs : List V} (e : Same H H') (h : SqT K H a xs) : SqT K H' a xs := by
  rcases h with (h | ⟨o, h⟩) | h
  · exact .inl (.inl (e _ _ h))
  · exact .inl (.inr ⟨o, e _ _ h⟩)
  · exact .inr h
end
/-! ### new tuples, one for each -/
theorem small2000 {n : Nat} (h : n ≤ 2000) : n < sizeLine := by
  show n < 2 ^ 24
  omega
inductive Tups {α : Type} (f : α → List V) (H : Hp) : List Addr → List α → Prop
  | nil : Tups f H [] []
  | cons {p : Addr} {x : α} {ps : List Addr} {xs : List α} : H p = some (.tup (f x)) → Tups f H ps xs → Tups f H (p :: ps) (x :: xs)
section
variable {α : Type} {f : α → List V} {H H' : Hp}
theorem Tups.keep {ps : List Addr} {xs : List α} (h : Tups f H ps xs) (e : ∀ b ys, H b = some (.tup ys) → H' b = some (.tup ys)) : Tups f H' ps xs := by
  induction h with
  | nil => exact .nil
  | cons a _ ih => exact .cons (e _ _ a) ih
theorem Tups.same {ps : List Addr} {xs : List α} (h : Tups f H ps xs) (e : Same H H') : Tups f H' ps xs := h.keep fun b ys z => e _ _ z
theorem Tups.put {ps : List Addr} {xs : List α} (h : Tups f H ps xs) {L : Addr} {ys : List V} {o : HO} (e : H L = some (.lst ys)) : Tups f (upd H L o) ps xs := h.keep fun b zs z => by
  rw [upd_ne (fun q => by rw [q, e] at z; cases z)]
  exact z
theorem Tups.new {ps : List Addr} {xs : List α} (h : Tups f H ps xs) {p : Addr} {o : HO} (e : H p = none) : Tups f (upd H p o) ps xs := h.same (same_upd e)
theorem Tups.snoc {ps : List Addr} {xs : List α} {p : Addr} {x : α} (h : Tups f H ps xs) (e : H p = some (.tup (f x))) : Tups f H (ps ++ [p]) (xs ++ [x]) := by
  induction h with
  | nil => exact .cons e .nil
  | cons a _ ih => exact .cons a ih
theorem Tups.append {ps qs : List Addr} {xs ys : List α} (h : Tups f H ps xs) (k : Tups f H qs ys) : Tups f H (ps ++ qs) (xs ++ ys) := by
  induction h with
  | nil => exact k
  | cons a _ ih => exact .cons a ih
theorem Tups.length {ps : List Addr} {xs : List α} (h : Tups f H ps xs) : ps.length = xs.length := by
  induction h with
  | nil => rfl
  | cons a _ ih => rw [List.length_cons, List.length_cons, ih]
theorem Tups.get {ps : List Addr} {xs : List α} (h : Tups f H ps xs) : ∀ {i : Nat} {v : V}, (ps.map V.ref)[i]? = some v → ∃ p x, v = .ref p ∧ xs[i]? = some x ∧ H p = some (.tup (f x)) := by
  induction h with
  | nil =>
    intro i v h
    simp at h
  | cons a _ ih =>
    intro i v h
    cases i with
    | zero =>
      simp at h
      exact ⟨_, _, h.symm, rfl, a⟩
    | succ i =>
      simp only [List.map_cons, List.getElem?_cons_succ] at h ⊢
      exact ih h
end
def wv : Option Int → V
  | none => .non
  | some w => .int w
def pv2 (p : Int × Int) : List V := [.int p.1, .int p.2]
/-! ### data that is compared -/
def wd : Option Int → PyData
  | none => .none
  | some w => .int w
def pd2 (p : Int × Int) : PyData := .tuple [.int p.1, .int p.2]
def dInts (ns : List Int) : PyData := .list (ns.map PyData.int)
def dWs (ws : List (Option Int)) : PyData := .list (ws.map wd)
def dPrs (ps : List (Int × Int)) : PyData := .list (ps.map pd2)
section
variable {K : PySem.W.Frag} {H : Hp}
theorem dpa_ints : ∀ ns : List Int, DpAll K H (ns.map V.int) (ns.map PyData.int)
  | [] => .nil
  | n :: ns => .cons (.int n) (dpa_ints ns)
theorem dp_wd : ∀ w : Option Int, Dp K H (wv w) (wd w)
  | none => .non
  | some w => .int w
theorem dpa_ws : ∀ ws : List (Option Int), DpAll K H (ws.map wv) (ws.map wd)
  | [] => .nil
  | w :: ws => .cons (dp_wd w) (dpa_ws ws)
theorem dpa_prs {ps : List Addr} {xs : List (Int × Int)} (h : Tups pv2 H ps xs) : DpAll K H (ps.map V.ref) (xs.map pd2) := by
  induction h with
  | nil => exact .nil
  | cons a _ ih => exact .cons (.tup (SqT.of a) (.cons (.int _) (.cons (.int _) .nil))) ih
end
theorem lay_all {α : Type} {f : α → PyData} (h : ∀ x, (f x).canLay0 = true) : ∀ xs : List α, PyData.canLayAll0 (xs.map f) = true
  | [] => by simp [PyData.canLayAll0]
  | x :: xs => by
    rw [List.map_cons, PyData.canLayAll0, h x, lay_all h xs]
    rfl
theorem dep_all {α : Type} {f : α → PyData} {d : Nat} (h : ∀ x, (f x).depth ≤ d) : ∀ xs : List α, PyData.depthAll (xs.map f) ≤ d
  | [] => by simp [PyData.depthAll]
  | x :: xs => by
    have h1 := h x
    have h2 := dep_all h xs
    rw [List.map_cons, PyData.depthAll]
    omega
/-- can be laid, and is at most d deep -/
def Shp (d : Nat) (x : PyData) : Prop := x.canLay0 = true ∧ x.depth ≤ d
theorem Shp.ok {d : Nat} {x : PyData} (h : Shp d x) (hd : d ≤ 64) : SeqAt.shaped x = true := by
  show (x.canLay0 && decide (x.depth ≤ 64)) = true
  rw [Bool.and_eq_true]
  exact ⟨h.1, decide_eq_true (Nat.le_trans h.2 hd)⟩
theorem Shp.int (i : Int) : Shp 1 (.int i) := ⟨by simp [PyData.canLay0], by simp [PyData.depth]⟩
theorem Shp.wd (w : Option Int) : Shp 1 (wd w) := by
  cases w <;> exact ⟨by simp [My.wd, PyData.canLay0], by simp [My.wd, PyData.depth]⟩
theorem Shp.list {α : Type} {f : α → PyData} {d : Nat} (h : ∀ x, Shp d (f x)) (xs : List α) : Shp (d + 1) (.list (xs.map f)) := by
  have h1 := lay_all (fun x => (h x).1) xs
  have h2 := dep_all (fun x => (h x).2) xs
  exact ⟨by simp only [PyData.canLay0]; exact h1, by simp only [PyData.depth]; omega⟩
theorem Shp.tup0 : Shp 1 (.tuple []) := ⟨by simp [PyData.canLay0, PyData.canLayAll0], by simp [PyData.depth, PyData.depthAll]⟩
theorem Shp.tupC {d : Nat} {x : PyData} {xs : List PyData} (h : Shp d x) (t : Shp (d + 1) (.tuple xs)) : Shp (d + 1) (.tuple (x :: xs)) := by
  obtain ⟨a, b⟩ := h
  obtain ⟨c, e⟩ := t
  simp only [PyData.canLay0] at c
  simp only [PyData.depth] at e
  refine ⟨?_, ?_⟩
  · simp only [PyData.canLay0, PyData.canLayAll0, a, c, Bool.and_self]
  · simp only [PyData.depth, PyData.depthAll]
    omega
theorem Shp.up {d e : Nat} {x : PyData} (h : Shp d x) (le : d ≤ e) : Shp e x := ⟨h.1, Nat.le_trans h.2 le⟩
theorem Shp.pd2 (p : Int × Int) : Shp 2 (pd2 p) := .tupC (.int _) (.tupC (.int _) (Shp.tup0.up (by decide)))
theorem Shp.ints (ns : List Int) : Shp 2 (dInts ns) := .list Shp.int ns
theorem Shp.ws (ws : List (Option Int)) : Shp 2 (dWs ws) := .list Shp.wd ws
theorem Shp.prs (ps : List (Int × Int)) : Shp 3 (dPrs ps) := .list Shp.pd2 ps
theorem eqv_same {d : Nat} {x : PyData} (h : Shp d x) : PyData.eqv x x = true := SeqAt.eqv_refl x h.1
theorem iteNE {b : Bool} {A B : Prop} (hb : b = true) (h : B) : if (!b) = true then A else B := by
  subst hb
  exact iteF h
theorem ne_same {d : Nat} {x : PyData} (h : Shp d x) : V.bl (!PyData.eqv x x) = V.bl false := by
  rw [eqv_same h]
  rfl
theorem eq_same {d : Nat} {x : PyData} (h : Shp d x) : V.bl (PyData.eqv x x) = V.bl true := by
  rw [eqv_same h]

theorem flat_one {α : Type} (n : Nat) (x : α) : (List.replicate n [x]).flatten = List.replicate n x := by
  induction n with
  | zero => rfl
  | succ n ih => rw [List.replicate_succ, List.flatten_cons, ih]; rfl
theorem take_snoc {α : Type} {l : List α} {i : Nat} {x : α} (h : l[i]? = some x) : l.take (i + 1) = l.take i ++ [x] := by
  rw [List.take_add_one, h]
  rfl
theorem same_put {H H' : Hp} {p : Addr} {o : HO} (sm : Same H H') (n : H p = none) : Same H (upd H' p o) := fun b x e => (upd_ne (ne_of_none e n)).trans (sm b x e)
theorem ne_no {a b : Int} (h : a = b) : V.bl (!decide (V.int a = V.int b)) = V.bl false := by
  subst h
  rw [decide_eq_true rfl]
  rfl
theorem ixN_nat {n : Nat} {p : Int} (h0 : 0 ≤ p) (h1 : p < (n : Int)) : ixN n p = some p.toNat := by
  unfold ixN
  rw [if_pos h0, if_pos h1]
theorem atI_of {xs : List V} {p : Int} {v : V} (h0 : 0 ≤ p) (h : xs[p.toNat]? = some v) : atI xs p = some v := by
  have e := atI_nat h
  rw [show ((p.toNat : Nat) : Int) = p by omega] at e
  exact e
theorem ixTK {X : Cx} {K : PySem.W.Frag} (h : X.K = K) : IxR X (rIxT K) := h ▸ ix_tup
theorem ixLK {X : Cx} {K : PySem.W.Frag} (h : X.K = K) : IxR X (rIxL K) := h ▸ ix_list
def rLenS (K : PySem.W.Frag) : List V → Hp → VK → Prop := fun xs H Q => ∃ p ys, xs = [.ref p] ∧ (SqL K H p ys ∨ SqT K H p ys) ∧ Q (.int ys.length) H
theorem lenK {X : Cx} {K : PySem.W.Frag} (h : X.K = K) : CallR X (.builtin "len") (rLenS K) := h ▸ call_len_seq
theorem isiK {X : Cx} {K : PySem.W.Frag} (h : X.K = K) : CallR X (.builtin "isinstance") (rIsi K) := h ▸ call_isi
theorem notInK {X : Cx} {K : PySem.W.Frag} (h : X.K = K) : OpR X (compareOp .NotIn) (rIn K true) := h ▸ op_notIn_seq
theorem inK {X : Cx} {K : PySem.W.Frag} (h : X.K = K) : OpR X (compareOp .In) (rIn K false) := h ▸ op_in_seq
/-! ### tuples of ints as data -/
def fI (r : List Int) : List V := r.map V.int
def dI (r : List Int) : PyData := .tuple (r.map PyData.int)
def dT (rs : List (List Int)) : PyData := .list (rs.map dI)
theorem units65 {k : Nat} {A : Around} (r : Room k A) : A.units + 65 < cLine := by
  have := r.un
  omega
theorem Shp.tuple {α : Type} {f : α → PyData} {d : Nat} (h : ∀ x, Shp d (f x)) (xs : List α) : Shp (d + 1) (.tuple (xs.map f)) := by
  have h1 := lay_all (fun x => (h x).1) xs
  have h2 := dep_all (fun x => (h x).2) xs
  exact ⟨by simp only [PyData.canLay0]; exact h1, by simp only [PyData.depth]; omega⟩
theorem Shp.dI (r : List Int) : Shp 2 (dI r) := .tuple Shp.int r
theorem Shp.dT (rs : List (List Int)) : Shp 3 (dT rs) := .list Shp.dI rs
theorem dp_dI {K : PySem.W.Frag} {H : Hp} {p : Addr} {r : List Int} (h : SqT K H p (r.map V.int)) : Dp K H (.ref p) (My.dI r) := .tup h (dpa_ints r)
theorem dpa_dT {K : PySem.W.Frag} {H : Hp} {ps : List Addr} {rs : List (List Int)} (h : Tups fI H ps rs) : DpAll K H (ps.map V.ref) (rs.map My.dI) := by
  induction h with
  | nil => exact .nil
  | cons a _ ih => exact .cons (dp_dI (SqT.of a)) ih
theorem dp_dT {K : PySem.W.Frag} {H : Hp} {L : Addr} {ps : List Addr} {rs : List (List Int)} (e : H L = some (.lst (ps.map V.ref))) (h : Tups fI H ps rs) : Dp K H (.ref L) (My.dT rs) := .lst (SqL.of e) (dpa_dT h)
theorem eqvA : ∀ a b : List Int, PyData.eqvAll (a.map PyData.int) (b.map PyData.int) = decide (a = b)
  | [], [] => by simp [PyData.eqvAll]
  | [], _ :: _ => by simp [PyData.eqvAll]
  | _ :: _, [] => by simp [PyData.eqvAll]
  | x :: a, y :: b => by
    rw [List.map_cons, List.map_cons, PyData.eqvAll, eqvA a b]
    simp only [PyData.eqv]
    by_cases h : x = y
    · subst h
      simp
    · simp [h]
theorem eqvI (a b : List Int) : PyData.eqv (My.dI a) (My.dI b) = decide (a = b) := by
  unfold My.dI
  rw [PyData.eqv]
  exact eqvA a b
theorem not_any {rs : List (List Int)} {r : List Int} (h : r ∉ rs) : ((rs.map My.dI).any fun z => PyData.eqv z (My.dI r)) = false := by
  rw [List.any_map, List.any_eq_false]
  intro x hx
  show ¬ PyData.eqv (My.dI x) (My.dI r) = true
  rw [eqvI]
  intro z
  exact h (of_decide_eq_true z ▸ hx)
/-! ### a tuple whose object is known: its methods -/
def Frz (H : Hp) (p : Addr) (xs : List V) : Prop := ∃ o : Obj, H p = some (.frz o (.tup xs)) ∧ o.dict = none
theorem Frz.sq {K : PySem.W.Frag} {H : Hp} {p : Addr} {xs : List V} (h : Frz H p xs) : SqT K H p xs := let ⟨o, e, _⟩ := h; .inl (.inr ⟨o, e⟩)
theorem Frz.same {H H' : Hp} {p : Addr} {xs : List V} (h : Frz H p xs) (e : Same H H') : Frz H' p xs := let ⟨o, a, b⟩ := h; ⟨o, e _ _ a, b⟩
theorem Frz.moved {t : Addr} {H H' : Hp} {p : Addr} {xs : List V} (h : Frz H p xs) (n : p ≠ t) (e : Moved t H H') : Frz H' p xs := let ⟨o, a, b⟩ := h; ⟨o, e _ _ n a, b⟩
theorem Frz.of {H H' : Hp} {p : Addr} {xs : List V} (h : Frz H p xs) (e : ∀ o, H p = some o → H' p = some o) : Frz H' p xs := let ⟨o, a, b⟩ := h; ⟨o, e _ a, b⟩
theorem Frz.ne {H : Hp} {p q : Addr} {xs : List V} (h : Frz H p xs) (n : H q = none) : p ≠ q := let ⟨_, a, _⟩ := h; ne_of_none a n
theorem Frz.tape {H : Hp} {p t s : Addr} {xs : List V} (h : Frz H p xs) (tp : Tape H t s) : p ≠ t := fun e => by
  obtain ⟨o, a, _⟩ := h
  obtain ⟨_, _, _, _, _, _, e2, _⟩ := tp
  rw [e, e2] at a
  cases a
theorem call_tupleF {X : Cx} : CallR X (.type "tuple") (fun xs H Q => ∃ p ys, xs = [.ref p] ∧ SqL X.K H p ys ∧ ∀ l H', H l = none → Same H H' → Frz H' l ys → (∀ b, b ≠ l → H' b = H b) → Q (.ref l) H') := by
  intro pins s σ H xs us Q I r h
  obtain ⟨p, ys, rfl, hq, q⟩ := h
  obtain ⟨u, rfl, rx⟩ := vals1 r
  cases rx
  obtain ⟨its, r', pl, hz⟩ := I.list hq
  have hlen := r'.length
  refine call_tuple_list pl.isList (fun h' kp => ?_) (by simp only [List.size_toArray] <;> omega)
  have I1 : Inv X pins σ H { s with heap := h' } := I.kept (t' := s.toks) kp
  have I2 : Inv X pins σ (upd H h'.objs.size (.frz { cls := .type "tuple", data := .seq its.toArray } (.tup ys))) { s with heap := h'.push { cls := .type "tuple", data := .seq its.toArray } } :=
    I1.laid (t' := s.toks) (fun b o e => Heap.get?_push_of_some _ e) (Nat.le_refl _) (show ObjOk X.prog X.w _ _ _ (.frz _ (.tup ys)) from ⟨Heap.get?_push_size _ rfl, hz, its, r', IsTup.new _ _⟩)
  have nl := I1.hok.fresh (Nat.le_refl _)
  exact ⟨.ref h'.objs.size, _, I2, rfl, q _ _ nl (same_upd nl) ⟨_, upd_same, rfl⟩ fun b n => upd_ne n⟩
def tTM (r : V → List V → Hp → VK → Prop) (to : TE) (t : TA) : TE := fun σ H Q => to σ H fun x H1 => (∃ p xs, x = .ref p ∧ Frz H1 p xs) ∧ t σ H1 fun xs H2 => r x xs H2 Q
theorem pe_tm {X : Cx} {o e : Expr} {es : List Expr} {to : TE} {t : TA} {name : Str} {apos cpos : Pos} {id : String} {r : V → List V → Hp → VK → Prop} (pa : PlainAttrs "tuple") (slot : Slot "tuple" name id) (hty : typeOf (.builtin id) = pure (.type "method_descriptor")) (hm : MtR X id r) (ho : PE X o to) (ha : PA X (e :: es) t)
    (hbase : attributeBase o name X.env (eval o X.env) = eval o X.env := by rfl)
    (hfew : ((backTo cpos (starEach (e :: es) X.env)).all (fun x => !x.1) && (backToKw cpos (keywordEach [] X.env)).all (fun x => x.1.isSome)
      && decide ((e :: es).length + ([] : List Keyword).length + (if ([] : List Keyword).isEmpty then 0 else 1) < 30)) = true := by rfl)
    (hline : (apos.endLine == cpos.line) = true := by rfl) (hs : starEach (e :: es) X.env = (false, eval e X.env) :: starEach es X.env := by rfl) (hplain : (backTo cpos (starEach es X.env)).any (·.1) = false := by rfl) :
    PE X (.Call (.Attribute o name apos) (e :: es) [] cpos) (tTM r to t) := by
  refine ⟨fun pins s σ H Q I h => ?_⟩
  refine wpAny_Call_method_late hbase hfew hline rfl (thn (ho.run pins s σ H _ I h) fun v s1 ⟨x, H1, I1, r1, ty, q1⟩ => ?_)
  obtain ⟨p, xs, rfl, ob, hp, hd⟩ := ty
  cases r1
  obtain ⟨hob, _, its, _, ⟨o2, ho2, hc2, _⟩⟩ := I1.hok _ _ hp
  have eo : o2 = ob := Option.some.inj (ho2.symm.trans hob)
  subst eo
  refine ⟨"tuple", id, pa, slot, hty, ⟨_, hob, hc2⟩, fun a ea => ?_, ?_⟩
  · cases ea
    exact ⟨_, hob, hd⟩
  have hA := ha.run cpos pins s1 σ H1 _ I1 q1
  rw [hs] at hA ⊢
  refine Calls.callWith_builtin (by show (false || (backTo cpos (starEach es X.env)).any (·.1)) = false; rw [hplain] <;> rfl) (Calls.evalArgs_plain ?_)
  exact thn hA fun us s2 ⟨vs, H2, I2, r2, q2⟩ => hm pins s2 σ H2 (.ref p) vs _ us Q I2 rfl r2 q2
/-! ### t.index(k), t a tuple of ints -/
theorem flat_ints (ys : List Int) : (ys.map V.int).all flatV = true := by
  rw [List.all_map]
  exact List.all_eq_true.mpr fun _ _ => rfl
def rTIndex (K : PySem.W.Frag) : V → List V → Hp → VK → Prop := fun x xs H Q => ∃ p, ∃ ys : List Int, ∃ z j, x = .ref p ∧ xs = [.int z] ∧ SqT K H p (ys.map V.int) ∧ ys[j]? = some z ∧ (∀ m, m < j → ys[m]? ≠ some z) ∧ Q (.int (j : Nat)) H
theorem mt_tindex {X : Cx} : MtR X "tuple.index" (rTIndex X.K) := by
  intro pins s σ H x xs v us Q I rx rs h
  obtain ⟨p, ys, z, j, rfl, rfl, hq, hy, hno, q⟩ := h
  cases rx
  obtain ⟨u, rfl, t, rfl⟩ := vals1 rs
  obtain ⟨its, r, pl, hz⟩ := I.tuple hq
  obtain ⟨⟨cls, dd, dt, sl⟩, ho, hc, n, hd⟩ := pl
  simp only at hc hd
  subst hc
  subst hd
  have hl : its.toArray.size = ys.length := by rw [List.size_toArray, ← r.length, List.length_map]
  have hj : j < its.toArray.size := by rw [hl]; exact (List.getElem?_eq_some_iff.mp hy).1
  have at' : ∀ (m : Nat) (hm : m < its.toArray.size), ∃ y t', ys[m]? = some y ∧ its.toArray[m] = Value.int y t' := fun m hm => by
    have hm' : m < ys.length := by rw [← hl]; exact hm
    obtain ⟨w, hw, t', hw'⟩ := r.get (i := m) (x := .int ys[m]) (by simp [hm'])
    refine ⟨ys[m], t', List.getElem?_eq_getElem hm', ?_⟩
    have e := (List.getElem?_eq_some_iff.mp hw).2
    rw [← hw', ← e]
    simp
  refine call_meets PySem.F.slot_tuple_index ⟨_, ho, rfl⟩ PySem.F.entry_tuple_index (PySem.F.args_tuple_index_2 _ _) (TI.tuple_indexAt p its.toArray n dd sl (.int z t) (eqU (.int z)) j hj ?_ ?_)
    ⟨ho, fun w hw => mem_eqAt (x := .int z) ⟨t, rfl⟩ rfl r (flat_ints ys) w (by simpa using hw), ⟨.int (j : Nat), H, I.tok _, ⟨_, rfl⟩, q⟩⟩
  · obtain ⟨y, t', h1, h2⟩ := at' j hj
    rw [hy] at h1
    cases h1
    rw [h2]
    show (z == z) = true
    exact beq_self_eq_true z
  · intro m hm hmj
    obtain ⟨y, t', h1, h2⟩ := at' m hm
    rw [h2]
    show (y == z) = false
    exact beq_eq_false_iff_ne.mpr fun e => hno m hmj (e ▸ h1)
/-! ### sorted(xs), xs a list of tuples of d ints from 0 to B, of any length -/
/-- the ints of a tuple that H tracks -/
def intsV (H : Hp) : V → List Int
  | .ref a => match H a with
    | some (.tup xs) => xs.filterMap fun v => match v with
      | .int i => some i
      | _ => none
    | _ => []
  | _ => []
theorem ints_fI (r : List Int) : ((fI r).filterMap fun v => match v with
      | V.int i => some i
      | _ => none) = r := by
  unfold fI
  induction r with
  | nil => rfl
  | cons x r ih => simp [ih]
theorem intsV_of {H : Hp} {a : Addr} {r : List Int} (h : H a = some (.tup (fI r))) : intsV H (.ref a) = r := by
  show (match H a with
    | some (.tup xs) => xs.filterMap fun v => match v with
      | V.int i => some i
      | _ => none
    | _ => []) = r
  rw [h]
  exact ints_fI r
abbrev ltC (B : Int) (k : V → List Int) (x y : V) : Bool := decide (TS.code B (k x) < TS.code B (k y))
theorem swoC {α : Type} (f : α → Int) : SrtO.Swo fun x y => decide (f x < f y) := by
  refine ⟨fun x y h => ?_, fun x y z h1 h2 => ?_⟩
  · have a := of_decide_eq_true h
    exact decide_eq_false (by omega)
  · have a := of_decide_eq_false h1
    have b := of_decide_eq_false h2
    exact decide_eq_false (by omega)
def rSortC (K : PySem.W.Frag) (B : Int) (d : Nat) : List V → Hp → VK → Prop := fun vs H Q => ∃ (a : Addr) (ps : List Addr) (rs : List (List Int)), vs = [V.ref a] ∧ SqL K H a (ps.map V.ref) ∧ Tups fI H ps rs ∧ (∀ r ∈ rs, r.length = d ∧ TS.Bd B r) ∧
  ∀ ps' rs' p, Tups fI H ps' rs' → rs'.Perm rs → rs'.Pairwise (fun x y => TS.code B x ≤ TS.code B y) → H p = none → Q (.ref p) (upd H p (.lst (ps'.map V.ref)))
theorem tups_of {H : Hp} : ∀ {ps : List Addr}, (∀ p ∈ ps, ∃ r, H p = some (.tup (fI r))) → Tups fI H ps (ps.map fun p => intsV H (.ref p))
  | [], _ => .nil
  | p :: ps, h => by
    obtain ⟨r, hr⟩ := h p List.mem_cons_self
    refine .cons ?_ (tups_of fun q hq => h q (List.mem_cons_of_mem _ hq))
    show H p = some (.tup (fI (intsV H (.ref p))))
    rw [intsV_of hr]
    exact hr
theorem Tups.ints {H : Hp} {ps : List Addr} {rs : List (List Int)} (h : Tups fI H ps rs) : rs = ps.map fun p => intsV H (.ref p) := by
  induction h with
  | nil => rfl
  | cons a _ ih => rw [List.map_cons, intsV_of a, ← ih]
theorem Tups.mem {α : Type} {f : α → List V} {H : Hp} {ps : List Addr} {rs : List α} (h : Tups f H ps rs) : ∀ p ∈ ps, ∃ r ∈ rs, H p = some (.tup (f r)) := by
  induction h with
  | nil => exact fun _ h => absurd h (by simp)
  | cons a _ ih =>
    intro p hp
    rcases List.mem_cons.mp hp with rfl | hp
    · exact ⟨_, List.mem_cons_self, a⟩
    · obtain ⟨r, hr, e⟩ := ih p hp
      exact ⟨r, List.mem_cons_of_mem _ hr, e⟩
theorem cr_sortC {X : Cx} {B : Int} {d : Nat} (hd : 1 ≤ d) : CallR X (.builtin "sorted") (rSortC X.K B d) := by
  intro pins s σ H vs us Q I r h
  obtain ⟨a, ps, rs, rfl, hs, tu, hb, q⟩ := h
  obtain ⟨its, rv, hl, hz⟩ := I.list hs
  obtain ⟨u, rfl, ru⟩ := vals1 r
  obtain rfl : u = Value.ref a := ru
  obtain ⟨e1, e2⟩ := refs_back rv fun x m => by
    obtain ⟨t, _, e⟩ := List.mem_map.mp m
    exact ⟨t, e.symm⟩
  have key : ∀ v ∈ its, ∃ p, v = Value.ref p ∧ p ∈ ps := fun v hv => by
    obtain ⟨t, rfl⟩ := e2 v hv
    have hm : V.ref t ∈ ps.map V.ref := by rw [e1]; exact List.mem_map.mpr ⟨_, hv, rfl⟩
    obtain ⟨p, hp, e⟩ := List.mem_map.mp hm
    cases e
    exact ⟨t, rfl, hp⟩
  have tin : ∀ v ∈ its, TS.TupInts s.heap v (intsV H (backV v)) ∧ (intsV H (backV v)).length = d ∧ TS.Bd B (intsV H (backV v)) := fun v hv => by
    obtain ⟨p, rfl, hp⟩ := key v hv
    obtain ⟨r, hr, ep⟩ := tu.mem p hp
    have ei : intsV H (backV (Value.ref p)) = r := intsV_of ep
    rw [ei]
    obtain ⟨its2, r2, pt, _⟩ := I.tuple (SqT.of ep)
    have hb' := hb r hr
    exact ⟨⟨p, its2.toArray, rfl, pt, intsAre_of r2⟩, hb'.1, hb'.2⟩
  refine SrtO.sorted_ord (ltv := fun v u => decide (TS.code B (intsV H (backV v)) < TS.code B (intsV H (backV u)))) (swoC fun v => TS.code B (intsV H (backV v))) hl.isList (by rw [← rv.length]; exact hz) (fun h2 h₁ a' ha' kk => ?_) fun out h1 h2 => ?_
  · intro h' keep
    have keep2 : ∀ b o, s.heap.get? b = some o → o.cls = .type "tuple" → h'.get? b = some o := fun b o e c => keep b o (kk b o e).1 (kk b o e).2
    have tin' : ∀ v ∈ its, TS.TupInts h' v (intsV H (backV v)) ∧ (intsV H (backV v)).length = d ∧ TS.Bd B (intsV H (backV v)) := fun v hv => let ⟨x, y, z⟩ := tin v hv; ⟨x.keeps keep2, y, z⟩
    obtain ⟨fs, k1, k2, k3⟩ := TS.firsts_of (h := h') (d := d) (B := B) hd its fun v hv => ⟨_, tin' v hv⟩
    refine ⟨tuples' true, fun Q E hq => ?_, ?_⟩
    · refine PySem.W.kat_kind (T := .type "int") k1 (by omega) (fun f hm => ?_) (by rfl) ?_
      · obtain ⟨x, t, rfl⟩ := k3 f hm
        exact PySem.W.Looks.now
      · have e : (Value.type "int" != Value.type "tuple") = true := by first | decide +kernel | rfl | decide
        rw [e]
        exact hq
    · intro p q hm hm'
      obtain ⟨⟨a1, xs, x1, ⟨o1, ho1, hc1, n1, hd1⟩, i1⟩, l1, b1⟩ := tin' _ hm
      obtain ⟨⟨a2, ys, x2, ⟨o2, ho2, hc2, n2, hd2⟩, i2⟩, l2, b2⟩ := tin' _ hm'
      show wpAny _ _ (keyLt' _ p.1 q.1) (fun r s' => s' = _ ∧ r = decide (TS.code B (intsV H (backV p.1)) < TS.code B (intsV H (backV q.1)))) (fun _ _ => False) _
      generalize intsV H (backV p.1) = ns at *
      generalize intsV H (backV q.1) = ms at *
      rw [x1, x2]
      refine PySem.W.kat_lt ho1 hd1 ho2 hd2 ?_
      have el : xs.size = ys.size := by
        have z1 := i1.length
        have z2 := i2.length
        simp at z1 z2
        omega
      rw [el, decide_eq_false (Nat.lt_irrefl _)]
      exact TS.lex_ints 0 i1 i2 (by omega) b1 b2 ⟨rfl, rfl⟩
  · obtain ⟨ep, he'⟩ := PyProof.Rows.sortedAll_at s.heap its out.toArray
    have h3 : ∀ u ∈ out, ∃ p, u = Value.ref p ∧ p ∈ ps := fun u hu => key u (h2.perm.mem_iff.mp hu)
    have eo : out.map backV = (out.map fun u => match u with
      | Value.ref a => a
      | _ => 0).map V.ref := by
      rw [List.map_map]
      refine List.map_congr_left fun u hu => ?_
      obtain ⟨p, rfl, _⟩ := h3 u hu
      rfl
    have hp : (out.map backV).Perm (ps.map V.ref) := by
      rw [e1]
      exact h2.perm.map backV
    have hlen : (out.map backV).length ≤ sizeLine := by
      rw [hp.length_eq]
      exact hz
    generalize eps : (out.map fun u => match u with
      | Value.ref a => a
      | _ => 0) = ps' at eo
    have pp : ps'.Perm ps := by
      rw [eo] at hp
      have z := hp.map fun v => match v with
        | V.ref a => a
        | _ => 0
      rw [List.map_map, List.map_map] at z
      have id1 : ∀ l : List Addr, l.map ((fun v => match v with
        | V.ref a => a
        | _ => 0) ∘ V.ref) = l := fun l => by
        induction l with
        | nil => rfl
        | cons x l ih => rw [List.map_cons, ih]; rfl
      rw [id1, id1] at z
      exact z
    have tu' : Tups fI H ps' (ps'.map fun p => intsV H (.ref p)) := tups_of fun p hp => by
      obtain ⟨r, _, e⟩ := tu.mem p (pp.mem_iff.mp hp)
      exact ⟨r, e⟩
    have pw : (ps'.map fun p => intsV H (.ref p)).Pairwise (fun x y => TS.code B x ≤ TS.code B y) := by
      have z : (out.map backV).Pairwise (fun x y => TS.code B (intsV H x) ≤ TS.code B (intsV H y)) := List.pairwise_map.mpr (h1.imp fun {x y} h => Int.not_lt.mp (of_decide_eq_false h))
      rw [eo] at z
      rw [List.pairwise_map] at z ⊢
      exact z
    rw [eo] at hlen
    refine ⟨.ref _, upd H (s.heap.objs.size + 1) (.lst (ps'.map V.ref)), I.laid (t' := s.toks) (fun _ _ => PyProof.Rows.sortedAll_old) (Nat.le_succ _) ⟨hlen, out, ep, ?_, he'⟩, rfl, q ps' _ _ tu' ?_ pw (I.hok.fresh (Nat.le_succ _))⟩
    · rw [← eo]
      exact vals_back fun u hu => by
        obtain ⟨p, e, _⟩ := h3 u hu
        exact ⟨p, e⟩
    · rw [tu.ints]
      exact pp.map _
/-- there is just one such list -/
theorem code_inj {B : Int} : ∀ {d : Nat} {x y : List Int}, x.length = d → y.length = d → TS.Bd B x → TS.Bd B y → TS.code B x = TS.code B y → x = y
  | _, [], [], _, _, _, _, _ => rfl
  | _, [], _ :: _, h1, h2, _, _, _ => by
    subst h1
    cases h2
  | _, _ :: _, [], h1, h2, _, _, _ => by
    subst h2
    cases h1
  | _, a :: x, b :: y, h1, h2, b1, b2, e => by
    have hl : x.length = y.length := by
      rw [List.length_cons] at h1 h2
      omega
    rcases Int.lt_trichotomy a b with z | z | z
    · have := TS.code_lt hl b1.tail b2.tail z
      omega
    · subst z
      have e' : TS.code B x = TS.code B y := by
        have n1 := (TS.code_same (B := B) (d := a) hl).symm
        have n2 := (TS.code_same (B := B) (d := a) hl.symm).symm
        have k1 : ¬ TS.code B x < TS.code B y := fun z => by
          have := n1.mp z
          omega
        have k2 : ¬ TS.code B y < TS.code B x := fun z => by
          have := n2.mp z
          omega
        omega
      rw [code_inj (d := x.length) rfl hl.symm b1.tail b2.tail e']
    · have := TS.code_lt hl.symm b2.tail b1.tail z
      omega
theorem sorted_uniq {B : Int} {d : Nat} : ∀ {l m : List (List Int)}, l.Perm m → (∀ r ∈ m, r.length = d ∧ TS.Bd B r) → l.Pairwise (fun x y => TS.code B x ≤ TS.code B y) → m.Pairwise (fun x y => TS.code B x ≤ TS.code B y) → l = m
  | [], m, p, _, _, _ => (List.nil_perm.mp p).symm
  | x :: l, [], p, _, _, _ => absurd p.length_eq (by simp)
  | x :: l, y :: m, p, hb, a, b => by
    have a' := List.pairwise_cons.mp a
    have b' := List.pairwise_cons.mp b
    have hx : x ∈ y :: m := p.mem_iff.mp List.mem_cons_self
    have hy : y ∈ x :: l := p.mem_iff.mpr List.mem_cons_self
    have e1 : TS.code B x ≤ TS.code B y := by
      rcases List.mem_cons.mp hy with e | h
      · rw [e]
        exact Int.le_refl _
      · exact a'.1 y h
    have e2 : TS.code B y ≤ TS.code B x := by
      rcases List.mem_cons.mp hx with e | h
      · rw [e]
        exact Int.le_refl _
      · exact b'.1 x h
    have e : x = y := code_inj (hb x hx).1 (hb y List.mem_cons_self).1 (hb x hx).2 (hb y List.mem_cons_self).2 (Int.le_antisymm e1 e2)
    subst e
    rw [sorted_uniq (List.Perm.cons_inv p) (fun r hr => hb r (List.mem_cons_of_mem _ hr)) a'.2 b'.2]
end My

/-! ### the mathematics of reach -/
namespace Rch
def ins (x : Int) : List Int → List Int
  | [] => [x]
  | y :: r => if x ≤ y then x :: y :: r else y :: ins x r
def isort : List Int → List Int
  | [] => []
  | x :: r => ins x (isort r)
theorem ins_perm (x : Int) : ∀ l : List Int, (ins x l).Perm (x :: l)
  | [] => .refl _
  | y :: r => by
    unfold ins
    split
    · exact .refl _
    · exact ((ins_perm x r).cons y).trans (.swap x y r)
theorem isort_perm : ∀ l : List Int, (isort l).Perm l
  | [] => .refl _
  | x :: r => (ins_perm x (isort r)).trans ((isort_perm r).cons x)
theorem ins_sorted (x : Int) : ∀ l : List Int, l.Pairwise (· ≤ ·) → (ins x l).Pairwise (· ≤ ·)
  | [], _ => List.pairwise_singleton _ _
  | y :: r, h => by
    unfold ins
    have h' := List.pairwise_cons.mp h
    split
    · next hx =>
      refine List.pairwise_cons.mpr ⟨fun z hz => ?_, h⟩
      rcases List.mem_cons.mp hz with e | hz
      · subst e
        exact hx
      · exact Int.le_trans hx (h'.1 z hz)
    · next hx =>
      refine List.pairwise_cons.mpr ⟨fun z hz => ?_, ins_sorted x r h'.2⟩
      rcases List.mem_cons.mp ((ins_perm x r).mem_iff.mp hz) with e | hz
      · subst e
        omega
      · exact h'.1 z hz
theorem isort_sorted : ∀ l : List Int, (isort l).Pairwise (· ≤ ·)
  | [] => .nil
  | x :: r => ins_sorted x _ (isort_sorted r)
theorem uniq : ∀ {l m : List Int}, l.Perm m → l.Pairwise (· ≤ ·) → m.Pairwise (· ≤ ·) → l = m
  | [], m, p, _, _ => (List.nil_perm.mp p).symm
  | x :: l, [], p, _, _ => absurd p.length_eq (by simp)
  | x :: l, y :: m, p, a, b => by
    have a' := List.pairwise_cons.mp a
    have b' := List.pairwise_cons.mp b
    have e : x = y := by
      have h1 : x ∈ y :: m := p.mem_iff.mp List.mem_cons_self
      have h2 : y ∈ x :: l := p.mem_iff.mpr List.mem_cons_self
      rcases List.mem_cons.mp h1 with e | h1
      · exact e
      · rcases List.mem_cons.mp h2 with e | h2
        · exact e.symm
        · exact Int.le_antisymm (a'.1 y h2) (b'.1 x h1)
    subst e
    rw [uniq (List.Perm.cons_inv p) a'.2 b'.2]
theorem isort_of {l m : List Int} (p : m.Perm l) (h : m.Pairwise (· ≤ ·)) : m = isort l := uniq (p.trans (isort_perm l).symm) h (isort_sorted l)
def greedy : Int → List Int → Int
  | T, [] => T
  | T, l :: r => if l > T + 1 then T else greedy (T + l) r
def reachOf (ns : List Int) : Int := greedy 0 (isort ns)
theorem greedy_ge : ∀ (ls : List Int) (T : Int), (∀ x ∈ ls, 0 ≤ x) → T ≤ greedy T ls
  | [], T, _ => Int.le_refl _
  | l :: r, T, h => by
    unfold greedy
    have h0 := h l List.mem_cons_self
    split
    · exact Int.le_refl _
    · have := greedy_ge r (T + l) fun x hx => h x (List.mem_cons_of_mem _ hx)
      omega
theorem greedy_le : ∀ (ls : List Int) (T : Int), (∀ x ∈ ls, 0 ≤ x ∧ x ≤ 40) → greedy T ls ≤ T + 40 * (ls.length : Int)
  | [], T, _ => by
    show T ≤ T + 40 * ((0 : Nat) : Int)
    omega
  | l :: r, T, h => by
    unfold greedy
    have h0 := h l List.mem_cons_self
    rw [List.length_cons]
    split
    · omega
    · have := greedy_le r (T + l) fun x hx => h x (List.mem_cons_of_mem _ hx)
      omega
def Good (ns : List Int) : Prop := 1 ≤ ns.length ∧ ns.length ≤ 8 ∧ ∀ n ∈ ns, 1 ≤ n ∧ n ≤ 40
theorem Good.perm {l m : List Int} (g : Good l) (p : m.Perm l) : Good m := ⟨by rw [p.length_eq]; exact g.1, by rw [p.length_eq]; exact g.2.1, fun n h => g.2.2 n (p.mem_iff.mp h)⟩
theorem isort_congr {l m : List Int} (p : m.Perm l) : isort m = isort l := uniq (((isort_perm m).trans p).trans (isort_perm l).symm) (isort_sorted m) (isort_sorted l)
theorem reach_perm {l m : List Int} (p : m.Perm l) : reachOf m = reachOf l := by
  unfold reachOf
  rw [isort_congr p]
theorem reach_bd {ns : List Int} (g : Good ns) : 0 ≤ reachOf ns ∧ reachOf ns ≤ 320 := by
  have g' := g.perm (isort_perm ns)
  have h1 := greedy_ge (isort ns) 0 fun x hx => by have := g'.2.2 x hx; omega
  have h2 := greedy_le (isort ns) 0 fun x hx => by have := g'.2.2 x hx; omega
  have h3 := g'.2.1
  refine ⟨h1, ?_⟩
  show greedy 0 (isort ns) ≤ 320
  omega
/-- n is a sum of some of ls, and of a number from 0 to T -/
def reps (T : Int) : List Int → Int → Prop
  | [], n => 0 ≤ n ∧ n ≤ T
  | l :: r, n => reps T r n ∨ reps T r (n - l)
theorem reps_perm {T : Int} {l m : List Int} (p : l.Perm m) : ∀ n, reps T l n ↔ reps T m n := by
  induction p with
  | nil => exact fun _ => Iff.rfl
  | cons x _ ih =>
    intro n
    show (reps T _ n ∨ reps T _ (n - x)) ↔ (reps T _ n ∨ reps T _ (n - x))
    rw [ih n, ih (n - x)]
  | swap x y r =>
    intro n
    show ((reps T r n ∨ reps T r (n - x)) ∨ (reps T r (n - y) ∨ reps T r (n - y - x))) ↔ ((reps T r n ∨ reps T r (n - y)) ∨ (reps T r (n - x) ∨ reps T r (n - x - y)))
    rw [show n - y - x = n - x - y by omega]
    constructor
    · rintro ((a | a) | (a | a))
      · exact .inl (.inl a)
      · exact .inr (.inl a)
      · exact .inl (.inr a)
      · exact .inr (.inr a)
    · rintro ((a | a) | (a | a))
      · exact .inl (.inl a)
      · exact .inr (.inl a)
      · exact .inl (.inr a)
      · exact .inr (.inr a)
  | trans _ _ h1 h2 => exact fun n => (h1 n).trans (h2 n)
theorem reps_up {T l : Int} (h0 : 0 ≤ T) (h1 : 1 ≤ l) (h2 : l ≤ T + 1) : ∀ (r : List Int) (n : Int), reps (T + l) r n ↔ reps T (l :: r) n
  | [], n => by
    show (0 ≤ n ∧ n ≤ T + l) ↔ ((0 ≤ n ∧ n ≤ T) ∨ (0 ≤ n - l ∧ n - l ≤ T))
    omega
  | x :: r, n => by
    show (reps (T + l) r n ∨ reps (T + l) r (n - x)) ↔ _
    rw [reps_up h0 h1 h2 r n, reps_up h0 h1 h2 r (n - x)]
    exact (reps_perm (.swap l x r) n)
theorem reps_low {T : Int} : ∀ (ls : List Int) (n : Int), 0 ≤ n → n ≤ T → reps T ls n
  | [], n, a, b => ⟨a, b⟩
  | _ :: r, n, a, b => .inl (reps_low r n a b)
theorem reps_nonneg {T : Int} : ∀ (ls : List Int) (n : Int), (∀ x ∈ ls, 0 ≤ x) → reps T ls n → 0 ≤ n
  | [], n, _, h => h.1
  | l :: r, n, hp, h => by
    have h0 := hp l List.mem_cons_self
    have hr : ∀ x ∈ r, 0 ≤ x := fun x hx => hp x (List.mem_cons_of_mem _ hx)
    rcases h with h | h
    · exact reps_nonneg r n hr h
    · have := reps_nonneg r _ hr h
      omega
theorem reps_not {T : Int} (h0 : 0 ≤ T) : ∀ (ls : List Int) (n : Int), (∀ x ∈ ls, T + 1 < x) → n ≤ T + 1 → reps T ls n → n ≤ T
  | [], n, _, _, h => h.2
  | l :: r, n, hp, hn, h => by
    have hl := hp l List.mem_cons_self
    have hr : ∀ x ∈ r, T + 1 < x := fun x hx => hp x (List.mem_cons_of_mem _ hx)
    rcases h with h | h
    · exact reps_not h0 r n hr hn h
    · have := reps_nonneg r _ (fun x hx => by have := hr x hx; omega) h
      omega
theorem greedy_is : ∀ (ls : List Int) (T : Int), 0 ≤ T → (∀ x ∈ ls, 1 ≤ x) → ls.Pairwise (· ≤ ·) → (∀ n, 0 ≤ n → n ≤ greedy T ls → reps T ls n) ∧ ¬ reps T ls (greedy T ls + 1)
  | [], T, h0, _, _ => ⟨fun n a b => ⟨a, b⟩, fun h => by
    have := h.2
    unfold greedy at this
    omega⟩
  | l :: r, T, h0, hp, hs => by
    have hl := hp l List.mem_cons_self
    have hr : ∀ x ∈ r, 1 ≤ x := fun x hx => hp x (List.mem_cons_of_mem _ hx)
    have hs' := List.pairwise_cons.mp hs
    unfold greedy
    by_cases hc : l > T + 1
    · rw [if_pos hc]
      refine ⟨fun n a b => reps_low _ n a b, fun h => ?_⟩
      have := reps_not h0 (l :: r) (T + 1) (fun x hx => by
        rcases List.mem_cons.mp hx with e | hx
        · omega
        · have := hs'.1 x hx
          omega) (Int.le_refl _) h
      omega
    · rw [if_neg hc]
      have ih := greedy_is r (T + l) (by omega) hr hs'.2
      have up := reps_up h0 hl (by omega : l ≤ T + 1) r
      exact ⟨fun n a b => (up n).mp (ih.1 n a b), fun h => ih.2 ((up _).mpr h)⟩
theorem reach_is {ns : List Int} (g : Good ns) : (∀ n, 0 ≤ n → n ≤ reachOf ns → reps 0 ns n) ∧ ¬ reps 0 ns (reachOf ns + 1) := by
  have g' := g.perm (isort_perm ns)
  have k := greedy_is (isort ns) 0 (Int.le_refl _) (fun x hx => (g'.2.2 x hx).1) (isort_sorted ns)
  exact ⟨fun n a b => (reps_perm (isort_perm ns) n).mp (k.1 n a b), fun h => k.2 ((reps_perm (isort_perm ns) _).mpr h)⟩
/-! ### sums as bits -/
def sumsF (S : Nat) : List Int → Nat
  | [] => S
  | l :: r => sumsF (S ||| S * 2 ^ l.toNat) r
theorem bits_step {S : Nat} {ls : List Int} {l : Int} (hl : 0 ≤ l) (hp : ∀ x ∈ ls, 0 ≤ x) (h : ∀ n : Nat, S.testBit n = true ↔ reps 0 ls (n : Int)) (n : Nat) : (S ||| S * 2 ^ l.toNat).testBit n = true ↔ reps 0 (l :: ls) (n : Int) := by
  rw [← Nat.shiftLeft_eq, Nat.testBit_or, Nat.testBit_shiftLeft, Bool.or_eq_true, Bool.and_eq_true, decide_eq_true_eq, h n, h (n - l.toNat)]
  show _ ↔ (reps 0 ls (n : Int) ∨ reps 0 ls ((n : Int) - l))
  constructor
  · rintro (a | ⟨a, b⟩)
    · exact .inl a
    · refine .inr ?_
      rw [show (n : Int) - l = ((n - l.toNat : Nat) : Int) by omega]
      exact b
  · rintro (a | a)
    · exact .inl a
    · have := reps_nonneg ls _ hp a
      refine .inr ⟨by omega, ?_⟩
      rw [show ((n - l.toNat : Nat) : Int) = (n : Int) - l by omega]
      exact a
theorem bits_all : ∀ (ls acc : List Int) (S : Nat), (∀ x ∈ ls, 0 ≤ x) → (∀ x ∈ acc, 0 ≤ x) → (∀ n : Nat, S.testBit n = true ↔ reps 0 acc (n : Int)) → ∀ n : Nat, (sumsF S ls).testBit n = true ↔ reps 0 (ls.reverse ++ acc) (n : Int)
  | [], acc, S, _, _, h => h
  | l :: r, acc, S, hl, ha, h => by
    intro n
    rw [List.reverse_cons, List.append_assoc]
    exact bits_all r (l :: acc) _ (fun x hx => hl x (List.mem_cons_of_mem _ hx)) (fun x hx => by
      rcases List.mem_cons.mp hx with e | hx
      · subst e
        exact hl x List.mem_cons_self
      · exact ha x hx) (bits_step (hl l List.mem_cons_self) ha h) n
theorem bit_one (n : Nat) : (1 : Nat).testBit n = true ↔ reps 0 [] (n : Int) := by
  show _ ↔ (0 ≤ (n : Int) ∧ (n : Int) ≤ 0)
  cases n with
  | zero => exact ⟨fun _ => ⟨by decide, by decide⟩, fun _ => by decide⟩
  | succ n =>
    rw [Nat.testBit_succ, show 1 / 2 = 0 from rfl, Nat.zero_testBit]
    exact ⟨fun h => absurd h Bool.false_ne_true, fun h => by omega⟩
theorem sums_is {ns : List Int} (g : Good ns) (n : Nat) : (sumsF 1 ns).testBit n = true ↔ reps 0 ns (n : Int) := by
  rw [bits_all ns [] 1 (fun x hx => by have := g.2.2 x hx; omega) (fun _ h => by simp at h) bit_one n, List.append_nil]
  exact reps_perm (List.reverse_perm ns) n
/-- sums // (1 << n) % 2 -/
theorem bit_of (S n : Nat) : (((S : Nat) : Int) / (1 * 2 ^ ((n : Int).toNat))).fmod 2 = if S.testBit n then 1 else 0 := by
  rw [Int.toNat_natCast, Int.one_mul, Int.fmod_eq_emod_of_nonneg _ (by decide), show ((2 : Int) ^ n) = ((2 ^ n : Nat) : Int) by simp, ← Int.natCast_ediv, show ((2 : Int)) = ((2 : Nat) : Int) from rfl, ← Int.natCast_emod, Nat.testBit_eq_decide_div_mod_eq]
  rcases Nat.mod_two_eq_zero_or_one (S / 2 ^ n) with e | e
  · rw [e]; rfl
  · rw [e]; rfl
end Rch

/-! ### the mathematics of tables -/
namespace Tb
def len1 (ls : List Int) (k : Int) : Int := ls.getD k.toNat 0
def rsum (ls : List Int) (r : List Int) : Int := (r.map (len1 ls)).sum
def InR (ls r : List Int) : Prop := ∀ k ∈ r, 0 ≤ k ∧ k < (ls.length : Int)
def Right (ls : List Int) (rs : List (List Int)) : Prop := Rch.Good ls ∧ 1 ≤ rs.length ∧ rs.length ≤ 60 ∧ ∀ (i : Nat) (r : List Int), rs[i]? = some r → InR ls r ∧ r.length ≤ 60 ∧ rsum ls r = (i : Int) + 1
theorem len_at {ls : List Int} {k : Int} (h0 : 0 ≤ k) (h1 : k < (ls.length : Int)) : ls[k.toNat]? = some (len1 ls k) := by
  have h : k.toNat < ls.length := by omega
  unfold len1
  rw [List.getD_eq_getElem?_getD, List.getElem?_eq_getElem h]
  rfl
theorem len_pos {ls : List Int} (g : Rch.Good ls) {k : Int} (h0 : 0 ≤ k) (h1 : k < (ls.length : Int)) : 1 ≤ len1 ls k ∧ len1 ls k ≤ 40 := g.2.2 _ (List.mem_of_getElem? (len_at h0 h1))
theorem rsum_cons (ls : List Int) (k : Int) (r : List Int) : rsum ls (k :: r) = len1 ls k + rsum ls r := by
  unfold rsum
  rw [List.map_cons, List.sum_cons]
theorem rsum_snoc (ls : List Int) (r : List Int) (k : Int) : rsum ls (r ++ [k]) = rsum ls r + len1 ls k := by
  unfold rsum
  rw [List.map_append, List.sum_append]
  simp
theorem rsum_len {ls : List Int} (g : Rch.Good ls) : ∀ {r : List Int}, InR ls r → (r.length : Int) ≤ rsum ls r
  | [], _ => by simp [rsum]
  | k :: r, h => by
    have h1 := h k List.mem_cons_self
    have := (len_pos g h1.1 h1.2).1
    have ih := rsum_len g (r := r) fun x hx => h x (List.mem_cons_of_mem _ hx)
    rw [rsum_cons, List.length_cons]
    omega
/-- when gone, into which loop -/
def go (ls : List Int) : Int → List Int → List (Int × Int)
  | _, [] => []
  | g, k :: r => (g, k) :: go ls (g + len1 ls k) r
theorem go_len (ls : List Int) : ∀ (r : List Int) (g : Int), (go ls g r).length = r.length
  | [], _ => rfl
  | k :: r, g => by
    show (go ls (g + len1 ls k) r).length + 1 = r.length + 1
    rw [go_len ls r]
theorem go_take (ls : List Int) : ∀ (r : List Int) (g : Int) (j : Nat), (go ls g r)[j]? = (r[j]?).map fun k => (g + rsum ls (r.take j), k)
  | [], g, j => by simp [go]
  | k :: r, g, 0 => by
    show some (g, k) = some (g + rsum ls [], k)
    simp [rsum]
  | k :: r, g, j + 1 => by
    show (go ls (g + len1 ls k) r)[j]? = (r[j]?).map fun x => (g + rsum ls (k :: r.take j), x)
    rw [go_take ls r, rsum_cons]
    congr 1
    funext x
    rw [Int.add_assoc]
theorem go_snd (ls : List Int) : ∀ (r : List Int) (g : Int), (go ls g r).map (·.2) = r
  | [], _ => rfl
  | k :: r, g => by
    show k :: (go ls (g + len1 ls k) r).map (·.2) = k :: r
    rw [go_snd ls r]
theorem go_rng {ls : List Int} (G : Rch.Good ls) : ∀ (r : List Int) (g : Int), InR ls r → ∀ p ∈ go ls g r, g ≤ p.1 ∧ p.1 < g + rsum ls r ∧ 0 ≤ p.2 ∧ p.2 < (ls.length : Int)
  | [], _, _, p, hp => absurd hp (by simp [go])
  | k :: r, g, h, p, hp => by
    have hk := h k List.mem_cons_self
    have l1 := (len_pos G hk.1 hk.2).1
    have hr : InR ls r := fun x hx => h x (List.mem_cons_of_mem _ hx)
    have n0 := rsum_len G hr
    rw [rsum_cons]
    rcases List.mem_cons.mp hp with e | hp
    · rw [e]
      show g ≤ g ∧ g < _ ∧ 0 ≤ k ∧ k < _
      omega
    · have := go_rng G r _ hr p hp
      omega
theorem go_up {ls : List Int} (G : Rch.Good ls) : ∀ (r : List Int) (g : Int), InR ls r → (go ls g r).Pairwise fun p q => p.1 < q.1
  | [], _, _ => .nil
  | k :: r, g, h => by
    have hk := h k List.mem_cons_self
    have l1 := (len_pos G hk.1 hk.2).1
    have hr : InR ls r := fun x hx => h x (List.mem_cons_of_mem _ hx)
    refine List.pairwise_cons.mpr ⟨fun q hq => ?_, go_up G r _ hr⟩
    have := go_rng G r _ hr q hq
    show g < q.1
    omega
/-- loop, gone, left -/
def ent (w : Int) (p : Int × Int) : List Int := [p.2, p.1, w - p.1]
def ents (ls : List Int) (w : Int) (r : List Int) : List (List Int) := (go ls 0 r).map (ent w)
def all (ls : List Int) (rs : List (List Int)) : Nat → List (List Int)
  | 0 => []
  | i + 1 => all ls rs i ++ ents ls ((i : Int) + 1) (rs.getD i [])
theorem ents_len (ls : List Int) (w : Int) (r : List Int) : (ents ls w r).length = r.length := by
  unfold ents
  rw [List.length_map, go_len]
theorem getD_row {rs : List (List Int)} {i : Nat} {r : List Int} (h : rs[i]? = some r) : rs.getD i [] = r := by
  rw [List.getD_eq_getElem?_getD, h]
  rfl
theorem all_wait {ls : List Int} {rs : List (List Int)} : ∀ (i : Nat) (e : List Int), e ∈ all ls rs i → ∃ k g w : Int, e = [k, g, w - g] ∧ 1 ≤ w ∧ w ≤ i
  | 0, e, h => absurd h (by simp [all])
  | i + 1, e, h => by
    rcases List.mem_append.mp h with h | h
    · obtain ⟨k, g, w, e1, h1, h2⟩ := all_wait i e h
      exact ⟨k, g, w, e1, h1, by omega⟩
    · obtain ⟨p, _, rfl⟩ := List.mem_map.mp h
      exact ⟨p.2, p.1, (i : Int) + 1, rfl, by omega, by omega⟩
/-- each new one is new -/
theorem new_one {ls : List Int} {rs : List (List Int)} {r : List Int} (G : Rch.Good ls) (hr : InR ls r) {i j : Nat} {p : Int × Int} (hj : (go ls 0 r)[j]? = some p) : ent ((i : Int) + 1) p ∉ all ls rs i ++ ((go ls 0 r).take j).map (ent ((i : Int) + 1)) := by
  intro h
  rcases List.mem_append.mp h with h | h
  · obtain ⟨k, g, w, e, h1, h2⟩ := all_wait i _ h
    unfold ent at e
    have e1 : p.1 = g := by
      have := congrArg (fun z : List Int => z.getD 1 0) e
      exact this
    have e2 : (i : Int) + 1 - p.1 = w - g := by
      have := congrArg (fun z : List Int => z.getD 2 0) e
      exact this
    omega
  · obtain ⟨q, hq, e⟩ := List.mem_map.mp h
    have e1 : q.1 = p.1 := by
      have := congrArg (fun z : List Int => z.getD 1 0) e
      exact this
    obtain ⟨m, hm⟩ := List.mem_iff_getElem?.mp hq
    rw [List.getElem?_take] at hm
    split at hm
    · next hlt =>
      have pw := List.pairwise_iff_getElem.mp (go_up G r 0 hr)
      obtain ⟨hm', em⟩ := List.getElem?_eq_some_iff.mp hm
      obtain ⟨hj', ej⟩ := List.getElem?_eq_some_iff.mp hj
      have := pw m j hm' hj' hlt
      rw [em, ej] at this
      omega
    · cases hm
theorem ents_bd {ls : List Int} {r : List Int} {w : Int} (G : Rch.Good ls) (hr : InR ls r) (hw : rsum ls r = w) (h60 : w ≤ 60) : ∀ e ∈ ents ls w r, e.length = 3 ∧ TS.Bd 1000 e := by
  intro e he
  obtain ⟨p, hp, rfl⟩ := List.mem_map.mp he
  have h := go_rng G r 0 hr p hp
  have g1 := G.2.1
  refine ⟨rfl, fun m hm => ?_⟩
  unfold ent at hm
  simp only [List.mem_cons, List.not_mem_nil, or_false] at hm
  rcases hm with e | e | e <;> subst e <;> omega
theorem all_bd {ls : List Int} {rs : List (List Int)} (R : Right ls rs) : ∀ i, i ≤ rs.length → ∀ e ∈ all ls rs i, e.length = 3 ∧ TS.Bd 1000 e
  | 0, _, e, he => absurd he (by simp [all])
  | i + 1, hi, e, he => by
    rcases List.mem_append.mp he with he | he
    · exact all_bd R i (by omega) e he
    · have hr : rs[i]? = some rs[i] := List.getElem?_eq_getElem (by omega)
      rw [getD_row hr] at he
      obtain ⟨a, b, c⟩ := R.2.2.2 i _ hr
      have := R.2.2.1
      exact ents_bd R.1 a c (by omega) e he
theorem all_len {ls : List Int} {rs : List (List Int)} (R : Right ls rs) : ∀ i, i ≤ rs.length → (all ls rs i).length ≤ 60 * i
  | 0, _ => Nat.le_refl _
  | i + 1, hi => by
    have ih := all_len R i (by omega)
    have hr : rs[i]? = some rs[i] := List.getElem?_eq_getElem (by omega)
    obtain ⟨a, b, c⟩ := R.2.2.2 i _ hr
    show (all ls rs i ++ ents ls ((i : Int) + 1) (rs.getD i [])).length ≤ _
    rw [List.length_append, ents_len, getD_row hr]
    omega
/-- the entries of one wait, when gone ahead -/
def ofWait (w : Int) (e : List Int) : Bool := (e.getD 1 0 + e.getD 2 0) == w
def swap (e : List Int) : List Int := [e.getD 1 0, e.getD 0 0]
def sel (w : Int) (es : List (List Int)) : List (List Int) := (es.filter (ofWait w)).map swap
theorem sel_append (w : Int) (a b : List (List Int)) : sel w (a ++ b) = sel w a ++ sel w b := by
  unfold sel
  rw [List.filter_append, List.map_append]
def gl (ls r : List Int) : List (List Int) := (go ls 0 r).map fun p => [p.1, p.2]
theorem sel_yes (ls : List Int) (w : Int) (r : List Int) : sel w (ents ls w r) = gl ls r := by
  unfold sel ents gl
  rw [List.filter_eq_self.mpr, List.map_map]
  · rfl
  · intro e he
    obtain ⟨p, _, rfl⟩ := List.mem_map.mp he
    show ((p.1 + (w - p.1)) == w) = true
    rw [beq_iff_eq]
    omega
theorem sel_no {ls : List Int} {w v : Int} (r : List Int) (h : v ≠ w) : sel w (ents ls v r) = [] := by
  unfold sel ents
  rw [List.filter_eq_nil_iff.mpr, List.map_nil]
  intro e he
  obtain ⟨p, _, rfl⟩ := List.mem_map.mp he
  show ¬ ((p.1 + (v - p.1)) == w) = true
  rw [beq_iff_eq]
  omega
theorem sel_all {ls : List Int} {rs : List (List Int)} (m : Nat) : ∀ i, sel ((m : Int) + 1) (all ls rs i) = if m < i then gl ls (rs.getD m []) else []
  | 0 => by
    rw [if_neg (by omega)]
    rfl
  | i + 1 => by
    show sel _ (all ls rs i ++ ents ls ((i : Int) + 1) (rs.getD i [])) = _
    rw [sel_append, sel_all m i]
    by_cases h : m < i
    · rw [if_pos h, if_pos (by omega), sel_no _ (by omega), List.append_nil]
    · rw [if_neg h, List.nil_append]
      by_cases h2 : m = i
      · subst h2
        rw [if_pos (by omega), sel_yes]
      · rw [if_neg (by omega), sel_no _ (by omega)]
theorem gl_bd {ls : List Int} {r : List Int} (G : Rch.Good ls) (hr : InR ls r) (h60 : rsum ls r ≤ 60) : ∀ e ∈ gl ls r, e.length = 2 ∧ TS.Bd 1000 e := by
  intro e he
  obtain ⟨p, hp, rfl⟩ := List.mem_map.mp he
  have h := go_rng G r 0 hr p hp
  have g1 := G.2.1
  refine ⟨rfl, fun m hm => ?_⟩
  simp only [List.mem_cons, List.not_mem_nil, or_false] at hm
  rcases hm with e | e <;> subst e <;> omega
theorem gl_sorted {ls : List Int} {r : List Int} (G : Rch.Good ls) (hr : InR ls r) (h60 : rsum ls r ≤ 60) : (gl ls r).Pairwise fun x y => TS.code 1000 x ≤ TS.code 1000 y := by
  unfold gl
  rw [List.pairwise_map]
  refine (List.pairwise_iff_getElem.mpr fun i j hi hj hij => ?_)
  have pw := List.pairwise_iff_getElem.mp (go_up G r 0 hr) i j hi hj hij
  have b1 := go_rng G r 0 hr _ (List.getElem_mem hi)
  have b2 := go_rng G r 0 hr _ (List.getElem_mem hj)
  have g1 := G.2.1
  show (go ls 0 r)[i].1 * 1000 ^ 1 + ((go ls 0 r)[i].2 * 1000 ^ 0 + 0) ≤ (go ls 0 r)[j].1 * 1000 ^ 1 + ((go ls 0 r)[j].2 * 1000 ^ 0 + 0)
  omega
theorem sel_perm {w : Int} {a b : List (List Int)} (p : a.Perm b) : (sel w a).Perm (sel w b) := (p.filter _).map _
theorem gl_snd (ls r : List Int) : (gl ls r).map (fun e => e.getD 1 0) = r := by
  unfold gl
  rw [List.map_map]
  exact go_snd ls r 0
end Tb

/-! ### the mathematics of the line -/
namespace Ln
/-- tick, turn, wait -/
abbrev Let := Int × Int × Option Int
def step (b τ u : Int) (s : List Let × Int) : List Let × Int := if s.2 > b then (s.1 ++ [(τ, u, none)], s.2) else (s.1 ++ [(τ, u, some s.2)], s.2 + 1)
def turns (b τ : Int) : Nat → List Let × Int → List Let × Int
  | 0, s => s
  | k + 1, s => step b τ (1 + (k : Int)) (turns b τ k s)
def close (c : Int) : Int := if c > 0 then c - 1 else c
def pre (b : Int) (cs : List Int) : Nat → List Let × Int
  | 0 => ([], 0)
  | i + 1 => ((turns b (i : Int) (cs.getD i 0).toNat (pre b cs i)).1, close (turns b (i : Int) (cs.getD i 0).toNat (pre b cs i)).2)
def letts (b : Int) (cs : List Int) : List Let := (pre b cs cs.length).1
def behind (b : Int) (cs : List Int) : Nat → List Int
  | 0 => []
  | i + 1 => behind b cs i ++ [(pre b cs (i + 1)).2]
theorem step_len (b τ u : Int) (s : List Let × Int) : (step b τ u s).1.length = s.1.length + 1 := by
  unfold step
  split <;> simp
theorem turns_len (b τ : Int) : ∀ (k : Nat) (s : List Let × Int), (turns b τ k s).1.length = s.1.length + k
  | 0, _ => rfl
  | k + 1, s => by
    unfold turns
    rw [step_len, turns_len b τ k s, Nat.add_assoc]
theorem turns_rng {b τ : Int} : ∀ (k : Nat) (s : List Let × Int), 0 ≤ s.2 → s.2 ≤ b + 1 → 0 ≤ (turns b τ k s).2 ∧ (turns b τ k s).2 ≤ b + 1
  | 0, s, h0, h1 => ⟨h0, h1⟩
  | k + 1, s, h0, h1 => by
    have ih := turns_rng (τ := τ) k s h0 h1
    unfold turns step
    split
    · exact ih
    · show 0 ≤ (turns b τ k s).2 + 1 ∧ (turns b τ k s).2 + 1 ≤ b + 1
      omega
theorem close_rng {b c : Int} (hb : 0 ≤ b) (h0 : 0 ≤ c) (h1 : c ≤ b + 1) : 0 ≤ close c ∧ close c ≤ b := by
  unfold close
  split <;> omega
theorem pre_rng {b : Int} (hb : 0 ≤ b) (cs : List Int) : ∀ i, 0 ≤ (pre b cs i).2 ∧ (pre b cs i).2 ≤ b
  | 0 => ⟨Int.le_refl _, hb⟩
  | i + 1 => by
    have ih := pre_rng hb cs i
    have t := turns_rng (b := b) (τ := (i : Int)) (cs.getD i 0).toNat (pre b cs i) ih.1 (by omega)
    unfold pre
    exact close_rng hb t.1 t.2
theorem pre_len {b : Int} {cs : List Int} (hc : ∀ c ∈ cs, c ≤ 4) : ∀ i, (pre b cs i).1.length ≤ 4 * i
  | 0 => Nat.le_refl _
  | i + 1 => by
    have ih := pre_len (b := b) hc i
    unfold pre
    rw [turns_len]
    have : cs.getD i 0 ≤ 4 := by
      rw [List.getD_eq_getElem?_getD]
      cases h : cs[i]? with
      | none => decide
      | some c => exact hc c (List.mem_of_getElem? h)
    omega
theorem behind_len (b : Int) (cs : List Int) : ∀ i, (behind b cs i).length = i
  | 0 => rfl
  | i + 1 => by
    unfold behind
    rw [List.length_append, behind_len b cs i]
    rfl
theorem getD_of {cs : List Int} {i : Nat} {c : Int} (h : cs[i]? = some c) : cs.getD i 0 = c := by
  rw [List.getD_eq_getElem?_getD, h]
  rfl
/-! pairs of who goes out when -/
def one (l : Let) (n : Int) : List (Int × Int) := match l.2.2 with
  | none => []
  | some w => [(l.1 + w, n)]
def outsFrom : Int → List Let → List (Int × Int)
  | _, [] => []
  | n, l :: r => one l n ++ outsFrom (n + 1) r
theorem outs_snoc : ∀ (L : List Let) (n : Int) (l : Let), outsFrom n (L ++ [l]) = outsFrom n L ++ one l (n + (L.length : Int))
  | [], n, l => by
    show one l n ++ [] = [] ++ one l (n + ((0 : Nat) : Int))
    rw [List.append_nil, List.nil_append]
    congr 1
    omega
  | x :: L, n, l => by
    show one x n ++ outsFrom (n + 1) (L ++ [l]) = (one x n ++ outsFrom (n + 1) L) ++ one l _
    rw [outs_snoc L (n + 1) l, List.append_assoc]
    congr 3
    rw [List.length_cons]
    omega
theorem one_len (l : Let) (n : Int) : (one l n).length ≤ 1 := by
  unfold one
  split <;> simp
theorem outs_len : ∀ (L : List Let) (n : Int), (outsFrom n L).length ≤ L.length
  | [], _ => Nat.le_refl _
  | l :: r, n => by
    show (one l n ++ outsFrom (n + 1) r).length ≤ r.length + 1
    have := outs_len r (n + 1)
    have := one_len l n
    rw [List.length_append]
    omega
def qp : Int → List Int → List (Int × Int)
  | _, [] => []
  | τ, n :: r => (τ, n) :: qp (τ + 1) r
theorem qp_snoc : ∀ (q : List Int) (τ n : Int), qp τ (q ++ [n]) = qp τ q ++ [(τ + (q.length : Int), n)]
  | [], τ, n => by
    show [(τ, n)] = [(τ + ((0 : Nat) : Int), n)]
    rw [show τ + ((0 : Nat) : Int) = τ by omega]
  | x :: q, τ, n => by
    show (τ, x) :: qp (τ + 1) (q ++ [n]) = (τ, x) :: (qp (τ + 1) q ++ [_])
    rw [qp_snoc q (τ + 1) n, List.length_cons]
    congr 4
    omega
/-- a queue of the law's own line, by the letters that came -/
def Led (τ : Int) (s : List Let × Int) (q : List Int) (prs : List (Int × Int)) : Prop := (q.length : Int) = s.2 ∧ prs ++ qp τ q = outsFrom 0 s.1
theorem Led.no {b τ u : Int} {s : List Let × Int} {q : List Int} {prs} (h : Led τ s q prs) (hb : s.2 > b) : Led τ (step b τ u s) q prs ∧ step b τ u s = (s.1 ++ [(τ, u, none)], s.2) := by
  have e : step b τ u s = (s.1 ++ [(τ, u, none)], s.2) := by
    unfold step
    rw [if_pos hb]
  refine ⟨?_, e⟩
  rw [e]
  refine ⟨h.1, ?_⟩
  rw [outs_snoc, ← h.2]
  show _ = _ ++ []
  rw [List.append_nil]
theorem Led.yes {b τ u : Int} {s : List Let × Int} {q : List Int} {prs} (h : Led τ s q prs) (hb : ¬ s.2 > b) : Led τ (step b τ u s) (q ++ [(s.1.length : Int)]) prs ∧ step b τ u s = (s.1 ++ [(τ, u, some s.2)], s.2 + 1) := by
  have e : step b τ u s = (s.1 ++ [(τ, u, some s.2)], s.2 + 1) := by
    unfold step
    rw [if_neg hb]
  refine ⟨?_, e⟩
  rw [e]
  refine ⟨?_, ?_⟩
  · rw [List.length_append]
    show ((q.length + 1 : Nat) : Int) = s.2 + 1
    have := h.1
    omega
  · show _ = outsFrom 0 (s.1 ++ [(τ, u, some s.2)])
    rw [outs_snoc, ← h.2, qp_snoc, ← List.append_assoc, h.1]
    show _ = _ ++ [(τ + s.2, (0 : Int) + (s.1.length : Int))]
    rw [Int.zero_add]
/-- each one goes out in its time -/
def Due (τ : Int) (L : List Let) (q : List Int) (prs : List (Int × Int)) : Prop := prs ++ qp τ q = outsFrom 0 L
theorem Due.pop {τ : Int} {L : List Let} {x : Int} {q : List Int} {prs} (h : Due τ L (x :: q) prs) : Due (τ + 1) L q (prs ++ [(τ, x)]) := by
  unfold Due at *
  rw [← h, List.append_assoc]
  rfl
theorem Due.nil {τ τ' : Int} {L : List Let} {prs} (h : Due τ L [] prs) : Due τ' L [] prs := h
theorem ticks_turns (b τ : Int) : ∀ (k : Nat) (s : List Let × Int), (turns b τ k s).1.map (·.1) = s.1.map (·.1) ++ List.replicate k τ
  | 0, s => by simp [turns]
  | k + 1, s => by
    have ih := ticks_turns b τ k s
    have e : (step b τ (1 + (k : Int)) (turns b τ k s)).1.map (·.1) = (turns b τ k s).1.map (·.1) ++ [τ] := by
      unfold step
      split <;> simp
    unfold turns
    rw [e, ih, List.append_assoc, List.replicate_succ']
def ticksOf (cs : List Int) : Nat → List Int
  | 0 => []
  | i + 1 => ticksOf cs i ++ List.replicate (cs.getD i 0).toNat (i : Int)
theorem ticks_are (b : Int) (cs : List Int) : ∀ i, (pre b cs i).1.map (·.1) = ticksOf cs i
  | 0 => rfl
  | i + 1 => by
    show (turns b (i : Int) (cs.getD i 0).toNat (pre b cs i)).1.map (·.1) = ticksOf cs i ++ _
    rw [ticks_turns, ticks_are b cs i]
theorem ticks_len {cs : List Int} (hc : ∀ c ∈ cs, c ≤ 4) (i : Nat) : (ticksOf cs i).length ≤ 4 * i := by
  rw [← ticks_are 0 cs i, List.length_map]
  exact pre_len hc i
theorem getD_past {cs : List Int} {i : Nat} (h : cs.length ≤ i) : cs.getD i 0 = 0 := by
  rw [List.getD_eq_getElem?_getD, List.getElem?_eq_none h]
  rfl
theorem pre_past {b : Int} (hb : 0 ≤ b) (cs : List Int) : ∀ d : Nat, (pre b cs (cs.length + d)).1 = letts b cs ∧ ((pre b cs (cs.length + d)).2 ≤ b - d ∨ (pre b cs (cs.length + d)).2 ≤ 0)
  | 0 => ⟨rfl, .inl (by
    have := (pre_rng hb cs cs.length).2
    show (pre b cs cs.length).2 ≤ b - ((0 : Nat) : Int)
    omega)⟩
  | d + 1 => by
    have ih := pre_past hb cs d
    have e : turns b ((cs.length + d : Nat) : Int) (cs.getD (cs.length + d) 0).toNat (pre b cs (cs.length + d)) = pre b cs (cs.length + d) := by
      rw [getD_past (by omega)]
      rfl
    have e1 : (pre b cs (cs.length + (d + 1))).1 = (turns b ((cs.length + d : Nat) : Int) (cs.getD (cs.length + d) 0).toNat (pre b cs (cs.length + d))).1 := rfl
    have e2 : (pre b cs (cs.length + (d + 1))).2 = close (turns b ((cs.length + d : Nat) : Int) (cs.getD (cs.length + d) 0).toNat (pre b cs (cs.length + d))).2 := rfl
    rw [e] at e1 e2
    refine ⟨e1.trans ih.1, ?_⟩
    rw [e2]
    unfold close
    have := ih.2
    split <;> omega
end Ln

/-! ## sum(t), t a tuple of ints -/
namespace My
open PySem PySem.Spec PyProof.Rows L2
section
variable {prog : Program} {w : World} {A : Around} {E : Value → Shared → Prop} {s : Shared} {l : Addr} {xs : Array (Int × Tok)}
theorem sum_tupG {Q : Value → Shared → Prop} (hh : A.handled = none) (hl : s.heap.IsTuple l (intItems xs))
    (h : ∀ h' tk t', (∀ b o, s.heap.get? b = some o → h'.get? b = some o) → Q (.int (preSum (numAt xs) xs.size) t') { s with heap := h', toks := tk }) :
    wpAny (model prog w) A (call (.builtin "sum") [.ref l]) Q E s := by
  have hll : l < s.heap.objs.size := by obtain ⟨_, q, _⟩ := hl; exact Heap.lt_size q
  refine call_sum_walkG (wpAny_pyIter_tuple hl ?_)
  refine ⟨_, _, _, _, _, _, numAt xs, rfl, Walks.tuple (A := A.in1) hh s.heap.objs.size l (Nat.ne_of_lt hll) (intItems xs), ⟨⟨_, Heap.get?_push_size _ rfl, rfl, rfl⟩, hl.push _⟩, fun b hb => ?_, (fun _ _ => intItems_at), fun h' tk t' hk => ?_⟩
  · show b < (s.heap.push _).objs.size
    rw [Heap.size_push]
    rcases List.mem_cons.mp hb with rfl | hb
    · exact Nat.lt_succ_self _
    · rw [List.mem_singleton.mp hb]
      exact Nat.lt_succ_of_lt hll
  · have := h h' tk t' fun b o e => hk b o (fun hm => by
      rw [List.mem_singleton.mp hm] at e
      exact absurd (Heap.lt_size e) (Nat.lt_irrefl _)) (Heap.get?_push_of_some _ e)
    simpa [intItems] using this
end
def rSumT (K : PySem.W.Frag) : List V → Hp → VK → Prop := fun vs H Q => ∃ (a : Addr) (ns : List Int), vs = [V.ref a] ∧ SqT K H a (ns.map V.int) ∧ Q (.int ns.sum) H
theorem cr_sumT {X : Cx} (hc : X.calm = true) : CallR X (.builtin "sum") (rSumT X.K) := by
  intro pins s σ H vs us Q I r h
  obtain ⟨a, ns, rfl, hs, q⟩ := h
  obtain ⟨its, rv, hl, _⟩ := I.tuple hs
  rw [Vals.ref1 r]
  have hi := rv.ints
  obtain ⟨xs, e⟩ := hi.allInts.items
  have hn : numsOf (intItems xs).toList = ns := by rw [← e]; exact hi.numsOf
  rw [nums_intItems] at hn
  have hl' : s.heap.IsTuple a (intItems xs) := by
    rw [← e]
    exact hl
  refine sum_tupG (I.ok.hd hc) hl' fun h' tk t' hk => ?_
  rw [preSum_eq, List.take_of_length_le (by simp), hn]
  exact ⟨.int _, H, I.kept hk, ⟨_, rfl⟩, q⟩
/-! ### t + u, both tracked, t not empty -/
def rCatP : R2 := fun x y H Q => ∃ a b xs ys, x = .ref a ∧ y = .ref b ∧ H a = some (.tup xs) ∧ H b = some (.tup ys) ∧ xs ≠ [] ∧ xs.length + ys.length ≤ sizeLine ∧ ∀ p H', Same H H' → H' p = some (.tup (xs ++ ys)) → Q (.ref p) H'
theorem op_catP {X : Cx} : OpR X (binaryOp .Add) rCatP := by
  intro pins s σ H x y v u Q I rx ry h
  obtain ⟨a, b, xs, ys, rfl, rfl, ha, hb, hne, hz, q⟩ := h
  refine op_catA pins s σ H _ _ v u Q I rx ry ⟨a, b, xs, ys, rfl, rfl, SqT.of ha, SqT.of hb, hz, fun e => absurd e hne, fun _ e => ?_, fun _ _ p np => ?_⟩
  · subst e
    refine q a H (fun _ _ h => h) ?_
    rw [List.append_nil]
    exact ha
  · exact q p _ (same_upd np) upd_same
/-! ### xs[i] read where it is changed -/
theorem pgetL {X : Cx} : PGet X (rIxL X.K) := by
  intro pins s σ H o i ov iv Q I r1 r2 h
  obtain ⟨p, xs, k, z, rfl, rfl, hq, he, q⟩ := h
  cases r1
  obtain ⟨t, rfl⟩ := r2
  obtain ⟨its, r, pl, hz⟩ := I.list hq
  obtain ⟨j, h1, h2, h3, h4, h5⟩ := atI_get he
  obtain ⟨w, ew, rw'⟩ := r.get h2
  have hl := r.length
  have hn := line63
  have fin : EP X pins σ Q w s := ⟨z, H, I, rw', q⟩
  by_cases h0 : 0 ≤ k
  · have hj : k.toNat = j := by
      rw [PySem.seqIndex_of h0 h5] at h1
      exact Option.some.inj h1
    exact wpAny_getItem_list pl.isList h0 (by omega) (by rw [hj]; simpa using ew) fin
  · have hj : (k + (its.toArray.size : Int)).toNat = j := by
      rw [PySem.seqIndex_neg (by omega) h4] at h1
      rw [List.size_toArray, ← hl]
      exact Option.some.inj h1
    exact wpAny_mono (wpAny_getItem_list_neg (Q := fun r s' => r = w ∧ EP X pins σ Q r s') pl.isList (by omega) (by rw [List.size_toArray] <;> omega) (by omega) (by rw [hj]; simpa using ew) ⟨rfl, fin⟩) (fun _ _ h => h.2) fun _ _ h => h
/-! ### zip of two lists, the second one not longer -/
theorem for_zipS {K : PySem.W.Frag} {a b : Addr} {xs ys : List V} {g : TG} {tb : TS} {D : Ends} {σ : L2.St} {H : Hp} (hl : ys.length ≤ xs.length) (Pv : Nat → L2.St → Hp → Prop) (h0 : Pv 0 σ H) (hq : ∀ i σ H, Pv i σ H → SqL K H a xs ∧ SqL K H b ys)
    (hs : ∀ (i : Nat) (x y : V) (T : Addr) (σ : L2.St) (H : Hp), xs[i]? = some x → ys[i]? = some y → Pv i σ H → H T = none → g (.ref T) σ (upd H T (.tup [x, y])) fun σ2 H2 => tb { D with nx := Pv (i + 1), ct := Pv (i + 1), bk := D.nx } σ2 H2) (hd : ∀ σ H, Pv ys.length σ H → D.nx σ H) :
    ∃ W : Nat → Nat → L2.St → Hp → Prop, (∃ m, W 0 m σ H) ∧ ∀ i m σ H, W i m σ H →
      ((Itz K a b).stop i H ∧ D.nx σ H) ∨ ((Itz K a b).go i H ∧ ∃ N : L2.St → Hp → Prop, (∀ σ' H', N σ' H' → ∃ m', m' < m ∧ W (i + 1) m' σ' H') ∧ ∀ v H', (Itz K a b).yld i H v H' → g v σ H' fun σ2 H2 => tb { D with nx := N, ct := N, bk := D.nx } σ2 H2) := by
  refine ⟨fun i m σ H => m = ys.length - i ∧ i ≤ ys.length ∧ Pv i σ H, ⟨ys.length, rfl, Nat.zero_le _, h0⟩, ?_⟩
  rintro i m σ H ⟨rfl, hi, p⟩
  obtain ⟨qx, qy⟩ := hq i σ H p
  by_cases h : i < ys.length
  · have hx : xs[i]? = some xs[i] := List.getElem?_eq_getElem (by omega)
    have hy : ys[i]? = some ys[i] := List.getElem?_eq_getElem h
    refine .inr ⟨⟨xs, ys, _, _, qx, qy, hx, hy⟩, Pv (i + 1), fun σ' H' n => ⟨ys.length - (i + 1), by omega, rfl, by omega, n⟩, ?_⟩
    rintro v H' ⟨T, x, y, rfl, nT, rfl, ex, ey⟩
    exact hs i x y T σ H (ex xs qx) (ey ys qy) p nT
  · have e : i = ys.length := by omega
    subst e
    exact .inl ⟨⟨xs, ys, qx, qy, .inr (Nat.le_refl _)⟩, hd σ H p⟩
/-! ### what stays while the tape moves -/
theorem Moved.sq {K : PySem.W.Frag} {t s : Addr} {H H' : Hp} {a : Addr} {xs : List V} (mv : Moved t H H') (tp : Tape H t s) (h : SqT K H a xs) : SqT K H' a xs := by
  obtain ⟨_, _, _, _, _, _, e2, _⟩ := tp
  rcases h with (h | ⟨o, h⟩) | h
  · exact .inl (.inl (mv _ _ (fun z => by rw [z, e2] at h; cases h) h))
  · exact .inl (.inr ⟨o, mv _ _ (fun z => by rw [z, e2] at h; cases h) h⟩)
  · exact .inr h
theorem Moved.tups {α : Type} {f : α → List V} {t s : Addr} {H H' : Hp} {ps : List Addr} {xs : List α} (mv : Moved t H H') (tp : Tape H t s) (h : Tups f H ps xs) : Tups f H' ps xs := h.keep fun b ys e => by
  obtain ⟨_, _, _, _, _, _, e2, _⟩ := tp
  exact mv _ _ (fun z => by rw [z, e2] at e; cases e) e
end My

namespace Db
open Rch
/-! doubling loops -/
def chB : Int → List Int → Bool
  | _, [] => true
  | p, l :: r => decide (l ≤ 2 * p) && chB l r
def isD : List Int → Bool
  | [] => false
  | x :: r => decide (x = 1) && chB x r
def dbl (ns : List Int) : Bool := isD (isort ns)
theorem dbl_perm {l m : List Int} (p : m.Perm l) : dbl m = dbl l := by
  unfold dbl
  rw [isort_congr p]
def lst : Int → List Int → Int
  | p, [] => p
  | _, l :: r => lst l r
theorem chB_snoc : ∀ (r : List Int) (p l : Int), chB p (r ++ [l]) = (chB p r && decide (l ≤ 2 * lst p r))
  | [], p, l => by
    show (decide (l ≤ 2 * p) && true) = (true && decide (l ≤ 2 * p))
    rw [Bool.and_true, Bool.true_and]
  | x :: r, p, l => by
    show (decide (x ≤ 2 * p) && chB x (r ++ [l])) = (decide (x ≤ 2 * p) && chB x r && decide (l ≤ 2 * lst x r))
    rw [chB_snoc r x l, Bool.and_assoc]
theorem lst_ge : ∀ (r : List Int) (p : Int), (p :: r).Pairwise (· ≤ ·) → ∀ x ∈ p :: r, x ≤ lst p r
  | [], p, _, x, hx => by
    rw [List.mem_singleton.mp hx]
    exact Int.le_refl _
  | l :: r, p, h, x, hx => by
    have h' := List.pairwise_cons.mp h
    rcases List.mem_cons.mp hx with e | hx
    · subst e
      exact Int.le_trans (h'.1 l List.mem_cons_self) (lst_ge r l h'.2 l List.mem_cons_self)
    · exact lst_ge r l h'.2 x hx
theorem lst_mem : ∀ (r : List Int) (p : Int), lst p r ∈ p :: r
  | [], p => List.mem_cons_self
  | l :: r, p => List.mem_cons_of_mem _ (lst_mem r l)
theorem isD_snoc {row : List Int} {l m : Int} (so : row.Pairwise (· ≤ ·)) (d : isD row = true) (hm : m ∈ row) (hl : l ≤ 2 * m) : isD (row ++ [l]) = true := by
  cases row with
  | nil => cases d
  | cons x r =>
    have e : isD (x :: r) = (decide (x = 1) && chB x r) := rfl
    rw [e, Bool.and_eq_true] at d
    show (decide (x = 1) && chB x (r ++ [l])) = true
    rw [chB_snoc, d.1, d.2]
    have := lst_ge r x so m hm
    rw [decide_eq_true (by omega)]
    rfl
theorem greedy_ch : ∀ (r : List Int) (p T : Int), chB p r = true → 2 * p ≤ T + 1 → greedy T r = T + r.sum
  | [], p, T, _, _ => by
    show T = T + 0
    omega
  | l :: r, p, T, h, hp => by
    have h2 : (decide (l ≤ 2 * p) && chB l r) = true := h
    rw [Bool.and_eq_true] at h2
    have h3 := of_decide_eq_true h2.1
    unfold greedy
    rw [if_neg (by omega), greedy_ch r l (T + l) h2.2 (by omega), List.sum_cons]
    omega
theorem perm_sum {l m : List Int} (p : l.Perm m) : l.sum = m.sum := by
  induction p with
  | nil => rfl
  | cons x _ ih => rw [List.sum_cons, List.sum_cons, ih]
  | swap x y r =>
    simp only [List.sum_cons]
    omega
  | trans _ _ h1 h2 => exact h1.trans h2
theorem reach_dbl {ns : List Int} (d : dbl ns = true) : reachOf ns = ns.sum := by
  unfold reachOf
  rw [← perm_sum (isort_perm ns)]
  unfold dbl at d
  cases hs : isort ns with
  | nil => rfl
  | cons x r =>
    rw [hs] at d
    have e : isD (x :: r) = (decide (x = 1) && chB x r) := rfl
    rw [e, Bool.and_eq_true] at d
    have h1 := of_decide_eq_true d.1
    subst h1
    show (if (1 : Int) > 0 + 1 then (0 : Int) else greedy (0 + 1) r) = _
    rw [if_neg (by decide), greedy_ch r 1 (0 + 1) d.2 (by decide), List.sum_cons]
    omega
/-- the list of answers that the walk of neighbours makes -/
def prsB (s : List Int) : List Bool := (List.range (s.length - 1)).map fun k => decide (s.getD (k + 1) 0 ≤ 2 * s.getD k 0)
theorem ch_all : ∀ (r : List Int) (p : Int), chB p r = true ↔ ∀ k, k < r.length → (p :: r).getD (k + 1) 0 ≤ 2 * (p :: r).getD k 0
  | [], p => by
    constructor
    · intro _ k hk
      exact absurd hk (Nat.not_lt_zero _)
    · intro _
      rfl
  | l :: r, p => by
    show (decide (l ≤ 2 * p) && chB l r) = true ↔ _
    rw [Bool.and_eq_true, ch_all r l]
    constructor
    · rintro ⟨h1, h2⟩ k hk
      cases k with
      | zero => exact of_decide_eq_true h1
      | succ k =>
        rw [List.length_cons] at hk
        exact h2 k (by omega)
    · intro h
      refine ⟨decide_eq_true (h 0 (by rw [List.length_cons]; omega)), fun k hk => ?_⟩
      exact h (k + 1) (by rw [List.length_cons]; omega)
end Db

/-! ## sorted(range(n), key=lambda x: (ys[x], x)) -/
namespace LS13
open PySem PySem.Spec PySem.Calls PyProof.Rows L2
/-- the lambda's scope: its parameter x, the captured name y -/
structure LamP (scope : Scope) (x y : Str) : Prop where
  kind : scope.kind = .function
  co : scope.isCoroutine = false
  gen : scope.isGenerator = false
  names : scope.names = [(x, .local), (y, .free)]
section
variable {prog : Program} {w : World} {A : Around} {s : Shared}
/-- the key of one item -/
theorem key_call {f c c' la : Addr} {x y q : Str} {p1 p2 p3 p4 p5 : Pos} {k0 : Nat} {scope : Scope} {cl : List (Str × Addr)} {params : Arguments} {pm ctv : Value} {its : List Value} {ls : List Int} {i : Int} {t0 : Tok} {j : Nat}
    (L : LamP scope x y) (hxy : (x == y) = false) (hcl : cl = [(y, c)]) (hroom : A.depth < recursionLimit) (hlim : s.heap.NoLimit) (hcell : s.heap.IsCell c (some (.ref la))) (htup : IsTup s.heap la its.toArray) (hv : Vals (ls.map V.int) its) (hz : ls.length ≤ 1000)
    (hf : s.heap.get? f = some (PySem.W.kla_obj "<lambda>" q params (.Tuple [.Subscript (.Name y p1) (.Name x p2) p3, .Name x p4] k0 p5) scope cl pm c' ctv)) (hcd : s.heap.CodeRec (.ref c') q)
    (hbind : bindArgs (PySem.W.kla_fn "<lambda>" q params (.Tuple [.Subscript (.Name y p1) (.Name x p2) p3, .Name x p4] k0 p5) scope cl pm (.ref c') ctv) ⟨[.int (j : Int) t0], []⟩ = pure [(x, .int (j : Int) t0)])
    (hj : ls[j]? = some i) (hd1 : (x == ("__debug__" : Str)) = false) (hd2 : (y == ("__debug__" : Str)) = false) (hd3 : (y == ("__classdict__" : Str)) = false) :
    wpAny (model prog w) A (call (.ref f) [.int (j : Int) t0]) (PySem.W.KeyPure (.tuple [.int i, .int (j : Int)]) s) (fun _ _ => False) s := by
  refine wpAny_call ?_
  refine PySem.W.kla_callFunE hroom hf rfl L.co L.gen rfl hcd ?_
  rw [hbind]
  have ln : scope.names.lookup x = some .local := by rw [L.names]; simp [List.lookup]
  have yx : (y == x) = false := by
    cases h : (y == x) with
    | false => rfl
    | true =>
      have e := eq_of_beq h
      rw [e] at hxy
      simp at hxy
  have fn : scope.names.lookup y = some .free := by rw [L.names]; simp [List.lookup, yx]
  refine wpAny_pure (wpAny_newFunctionEnv (fun z hz => ?_) (fun z hz => ?_) (fun h₁ hns hsb => ⟨hlim.fresh _ hsb, ?_⟩) L.kind)
  · rw [L.names] at hz
    rcases List.mem_cons.mp hz with rfl | hz
    · exact fun z => by cases z
    · rw [List.mem_singleton.mp hz]
      exact fun z => by cases z
  · rw [List.mem_singleton.mp hz]
    exact ln
  have kp : ∀ b o, s.heap.get? b = some o → h₁.get? b = some o := fun b o e => hsb.extBut b o (Nat.ne_of_lt (Heap.lt_size e)) (Heap.get?_push_of_some _ e)
  obtain ⟨L0, hL0⟩ : ∃ L0, L0 = s.heap.objs.size := ⟨_, rfl⟩
  show codeAny _ _ (.expr _ (PySem.W.envX q scope s.heap.objs.size f (.ref c') cl)) _ _
  rw [← hL0]
  rw [← hL0] at hns
  refine PySem.W.kla_codeExpr ?_
  have kx : (PySem.W.envX q scope L0 f (.ref c') cl).kindOf x = some .local := ln
  have ky : (PySem.W.envX q scope L0 f (.ref c') cl).kindOf y = some .free := fn
  have cy : (PySem.W.envX q scope L0 f (.ref c') cl).cells.lookup y = some c := by
    show cl.lookup y = some c
    rw [hcl]
    simp [List.lookup]
  have lz := hv.length
  rw [List.length_map] at lz
  have hjl := (List.getElem?_eq_some_iff.mp hj).1
  obtain ⟨u, eu, ru⟩ := hv.get (i := j) (x := .int i) (by rw [List.getElem?_map, hj]; rfl)
  obtain ⟨tu, rfl⟩ := ru
  have hloc : (fun z => ([(x, Value.int (j : Int) t0)] : List (Str × Value)).reverse.lookup z) x = some (.int (j : Int) t0) := by
    show List.lookup x [(x, Value.int (j : Int) t0)] = _
    simp [List.lookup]
  refine wpAny_Tuple_spliced (pos := p5) ?_
  show wpAny _ _ (spliced ((false, eval (.Subscript (.Name y p1) (.Name x p2) p3) (PySem.W.envX q scope L0 f (.ref c') cl)) :: backTo p5 (starEach [.Name x p4] (PySem.W.envX q scope L0 f (.ref c') cl)))) _ _ _
  refine spliced_cons (Subscript_ (wpAny_Name (wpAny_loadName_free L.kind ky cy (v := .ref la) ?_ (wpAny_Name (wpAny_loadName_local L.kind kx hns hloc ?_) hd1) hd3) hd2))
  · obtain ⟨o, ho, hd⟩ := hcell
    exact ⟨o, kp _ _ ho, hd⟩
  have htup' : IsTup h₁ la its.toArray := by
    obtain ⟨o, ho, hc, n, hd⟩ := htup
    exact ⟨o, kp _ _ ho, hc, n, hd⟩
  have hn := line63
  refine subscriptTail_builtinR (x := .int i tu) htup'.typeIs slot_tuple_getitem.lookup
    (getItem_tuple (j := j) (Q := fun r s' => r = .int i tu ∧ _) htup' (by omega) (by omega) (by rw [List.size_toArray, seqIndex_of (by omega) (by omega), Int.toNat_natCast]) (by simpa using eu) ⟨rfl, ?_⟩) (by rfl)
  show wpAny _ _ (spliced ((false, eval (.Name x p4) (PySem.W.envX q scope L0 f (.ref c') cl)) :: backTo p5 (starEach [] (PySem.W.envX q scope L0 f (.ref c') cl)))) _ _ _
  refine spliced_cons (wpAny_Name (wpAny_loadName_local L.kind kx hns hloc ?_) hd1)
  refine spliced_nil ⟨by show 2 ≤ sizeLine; decide, ?_⟩
  exact ⟨_, _, rfl, fun b o e => Heap.get?_push_of_some _ (kp b o e), .tuple (Heap.get?_push_size _ rfl) rfl rfl (.cons (.int _ _) (.cons (.int _ _) .nil))⟩
end
end LS13
namespace LS13
open PySem PySem.Spec PySem.Calls PyProof.Rows L2 LamX
/-- the order: by what stands there, then by the place -/
def lexle (ls : List Int) (i j : Int) : Prop := ls.getD i.toNat 0 < ls.getD j.toNat 0 ∨ (ls.getD i.toNat 0 = ls.getD j.toNat 0 ∧ i ≤ j)
def rgI (n : Nat) : List Int := (List.range n).map fun i => ((i : Nat) : Int)
def keyD (ls : List Int) (i : Int) : PyData := .tuple [.int (ls.getD i.toNat 0), .int i]
def IsI (v : Value) (i : Int) : Prop := ∃ t, v = .int i t
theorem each_vals : ∀ {bs : List Int} {vs : List Value}, Vals (bs.map V.int) vs → PySem.W.EachIs IsI vs bs
  | [], _, h => by
    cases h
    exact .nil
  | b :: bs, _, h => by
    cases h with
    | cons r t =>
      obtain ⟨tk, rfl⟩ := r
      exact .cons ⟨tk, rfl⟩ (each_vals t)
theorem vals_each : ∀ {bs : List Int} {vs : List Value}, PySem.W.EachIs IsI vs bs → Vals (bs.map V.int) vs
  | _, _, .nil => .nil
  | _, _, .cons ⟨t, e⟩ h => .cons ⟨t, e⟩ (vals_each h)
theorem key_le (ls : List Int) : PySem.W.dataLe false (keyD ls) = fun p q => decide (ls.getD p.toNat 0 < ls.getD q.toNat 0 ∨ (ls.getD p.toNat 0 = ls.getD q.toNat 0 ∧ p ≤ q)) := PySem.W.dataLe_ii (fun i : Int => ls.getD i.toNat 0) (fun i => i)
theorem sorted_pw (ls bs : List Int) : (bs.mergeSort (PySem.W.dataLe false (keyD ls))).Pairwise (lexle ls) := by
  have e := key_le ls
  refine (List.pairwise_mergeSort (le := PySem.W.dataLe false (keyD ls)) (fun a b c h1 h2 => ?_) (fun a b => ?_) bs).imp fun {a b} h => ?_
  · rw [e] at h1 h2 ⊢
    have h1 := of_decide_eq_true h1
    have h2 := of_decide_eq_true h2
    exact decide_eq_true (by omega)
  · rw [e, Bool.or_eq_true]
    by_cases c : ls.getD a.toNat 0 < ls.getD b.toNat 0 ∨ (ls.getD a.toNat 0 = ls.getD b.toNat 0 ∧ a ≤ b)
    · exact .inl (decide_eq_true c)
    · exact .inr (decide_eq_true (show ls.getD b.toNat 0 < ls.getD a.toNat 0 ∨ (ls.getD b.toNat 0 = ls.getD a.toNat 0 ∧ b ≤ a) by omega))
  · rw [e] at h
    have h := of_decide_eq_true h
    exact h
/-- a reading that goes on with SqT behind tables that grow -/
theorem sT_ext {K : PySem.W.Frag} {H H' : Hp} {a : Addr} {xs : List V} (h : SqT K H a xs) (e : ExtN H H') : SqT K H' a xs :=
  h.elim (fun h => .inl (h.elim (fun h => .inl (e _ _ h (fun _ z => by cases z))) fun ⟨o, h⟩ => .inr ⟨o, e _ _ h (fun _ z => by cases z)⟩)) fun h => .inr h
def tSortLam (K : PySem.W.Frag) (T : List (Addr × Str)) (i0 : Nat) (ta : TE) : TE := fun σ H Q => ta σ H fun z H1 => ∃ (la : Addr) (ls : List Int), z = .int ((ls.length : Nat) : Int) ∧ σ[i0]? = some (some (.ref la)) ∧ SqT K H1 la (ls.map V.int) ∧ ls.length ≤ 1000 ∧ Tabs T H1 ∧
  ∀ (os : List Int) (p : Addr) (H2 : Hp), os.Perm (rgI ls.length) → os.Pairwise (lexle ls) → H1 p = none → ExtN H1 H2 → Tabs T H2 → H2 p = some (.lst (os.map V.int)) → Q (.ref p) H2
section
variable {X : Cx}
theorem pe_sortLam {T : List (Addr × Str)} {x y : Str} {a : Expr} {ta : TE} {i0 k k0 : Nat} {c P : Addr} {scope : Scope} {params : Arguments} {p0 p1 p2 p3 p4 p5 p6 p7 lpos kpos pos : Pos} (ha : PE X a ta)
    (hgS : Gl X "sorted") (hmS : X.mg "sorted" = none) (hgR : Gl X "range") (hmR : X.mg "range" = none) (na : starEach [a] X.env = (false, eval a X.env) :: starEach [] X.env)
    (TB : TabB X.base X.mg c P) (hcode : X.env.code = .ref c) (hmT : (P, X.env.qual ++ "<lambda>") ∈ T) (hu : ∀ p ∈ T, p.1 = P → p.2 = X.env.qual ++ "<lambda>") (hr : Room (k + 2) X.A)
    (hN : X.N[i0]? = some y) (hy : X.env.kindOf y = some .cell) (L : LamP scope x y) (hxy : (x == y) = false) (hdef : defaultsOf params X.env = ([], []))
    (hbind : ∀ (q : Str) (cl : List (Str × Addr)) (pm cv ctv : Value) (v : Value), bindArgs (PySem.W.kla_fn "<lambda>" q params (.Tuple [.Subscript (.Name y p1) (.Name x p2) p3, .Name x p4] k0 p5) scope cl pm cv ctv) ⟨[v], []⟩ = pure [(x, v)])
    (hd1 : (x == ("__debug__" : Str)) = false := by decide) (hd2 : (y == ("__debug__" : Str)) = false := by decide) (hd3 : (y == ("__classdict__" : Str)) = false := by decide) :
    PE X (.Call (.Name "sorted" p0) [.Call (.Name "range" p6) [a] [] p7] [⟨some "key", .Lambda params (.Tuple [.Subscript (.Name y p1) (.Name x p2) p3, .Name x p4] k0 p5) scope lpos, kpos⟩] pos) (tSortLam X.K T i0 ta) := by
  refine ⟨fun pins s σ H Q I h => ?_⟩
  refine wpAny_Call_Name_kw (ld_blt I hgS hmS (u := .builtin "sorted") (by rfl) ?_)
  refine PyProof.Rows.callWith_kw ?_
  refine args_cons (Call_ (ld_blt I hgR hmR boot_range (PyProof.Rows.callWith_type1 (one_arg ha I h (fun v s2 z H2 I2 r q => ?_) na) na)))
  obtain ⟨la, ls, rfl, hs, hT, hz, hTb, q⟩ := q
  obtain ⟨t, rfl⟩ := r
  refine call_range_1 (args_nil ?_)
  have fr0 : H2 s2.heap.objs.size = none := I2.hok.fresh (Nat.le_refl _)
  obtain ⟨ro, hro⟩ : ∃ ro : Obj, ro = { cls := .type "range", data := .fields #[.int 0 s2.toks, .int ((ls.length : Nat) : Int) t, .int 1 (s2.toks + 1)] } := ⟨_, rfl⟩
  have I3 : Inv X ((s2.heap.objs.size, ro) :: pins) σ H2 { s2 with heap := s2.heap.push { cls := .type "range", data := .fields #[.int 0 s2.toks, .int ((ls.length : Nat) : Int) t, .int 1 (s2.toks + 1)] }, toks := s2.toks + 1 + 1 } := by
    have J := I2.kept (t' := s2.toks + 1 + 1) (h' := s2.heap.push { cls := .type "range", data := .fields #[.int 0 s2.toks, .int ((ls.length : Nat) : Int) t, .int 1 (s2.toks + 1)] }) fun b u e => Heap.get?_push_of_some _ e
    refine J.pins_of fun p hp => ?_
    rcases List.mem_cons.mp hp with rfl | hp
    · refine ⟨by rw [hro]; exact Heap.get?_push_size _ rfl, fr0, Nat.ne_of_gt I2.lt, I2.nofs (Nat.le_refl _), fun v => ?_⟩
      rw [hro]
      exact fun z => by cases z
    · exact J.pin p (List.mem_append_right _ hp)
  have hfree : ∀ z ∈ scope.names, z.2 = .free → ∃ c, X.env.cells.lookup z.1 = some c := fun z hz e => by
    rw [L.names] at hz
    rcases List.mem_cons.mp hz with rfl | hz
    · cases e
    · rw [List.mem_singleton.mp hz]
      exact I.ok.has _ (.inl hy)
  show wpAny _ _ (evalAll ((do let v ← eval (.Lambda params (.Tuple [.Subscript (.Name y p1) (.Name x p2) p3, .Name x p4] k0 p5) scope lpos) X.env; standAt pos; pure v) :: [])) _ _ _
  refine wpAny_evalAll_cons (wpAny_bind (lam_make2 I3 TB hcode hmT hu hTb hdef hfree fun f c' pm ctv H3 s3 I4 eN T3 hf hfn hfr hco => wpAny_bind (wpAny_standAt (wpAny_pure (wpAny_evalAll_nil ?_)))))
  show wpAny _ _ (call (.builtin "sorted") [.ref s2.heap.objs.size] [(Str.ofString "key", .ref f)]) _ _ s3
  have hT3 := sT_ext hT eN
  -- what a key's call wants
  obtain ⟨its, hv, htup, _⟩ := I4.tuple hT3
  obtain ⟨m, hn, hl⟩ := I4.loc
  obtain ⟨u, ru, lu⟩ := hl i0 y (.ref la) hN hs (.inr (.inl hy))
  obtain ⟨cc, hcc, hcell⟩ : ∃ cc, X.env.cells.lookup y = some cc ∧ s3.heap.IsCell cc (some (.ref la)) := by
    cases ru
    rcases lu with ⟨k', _⟩ | ⟨_, cc, h1, h2⟩
    · rw [hy] at k'
      cases k'
    · exact ⟨cc, h1, h2⟩
  obtain ⟨⟨oc, cvs, ct, hoc, hdc, hvc⟩, _, _⟩ := I4.hok c' _ hco
  have hcl : cloFrom X.env.cells scope.names [] = [(y, cc)] := by
    rw [L.names]
    show cloFrom X.env.cells [(y, .free)] [] = _
    show [(y, (X.env.cells.lookup y).getD 0)] = _
    rw [hcc]
    rfl
  have hrng := (I4.pin (s2.heap.objs.size, ro) (List.mem_append_right _ (.head _))).1
  have hd := hr.hd
  refine call_function_entry_kw kind_sorted plain_sorted entry_sorted (PyProof.Rows.ksk_s1 _ _) ?_
  unfold Builtin.«sorted»
  refine wpAny_bind (m := checkCount "sorted" 1 1 _) (wpAny_pure ?_)
  have hrng' : IsRange s3.heap s2.heap.objs.size 0 ((ls.length : Nat) : Int) 1 s2.toks t (s2.toks + 1) := by
    rw [hro] at hrng
    exact hrng
  refine wpAny_bind (collect_range (n := ls.length) (A := X.A.in1) hd hrng' (small_one (by omega) (by omega) (by omega) (by omega)) (by have := rangeSize_nat 0 ((ls.length : Nat) : Int); simpa using this) (by omega) fun h5 tk5 acc k5 hi5 => ?_)
  have vacc : Vals ((rgI ls.length).map V.int) acc.toList := by
    have v := vals_rg (a := 0) (b := ((ls.length : Nat) : Int)) (acc := acc) (by
      have e : (((ls.length : Nat) : Int) - 0).toNat = ls.length := by omega
      rw [e]
      exact hi5)
    have e : rgV 0 ((ls.length : Nat) : Int) = (rgI ls.length).map V.int := by
      unfold rgV rgI
      rw [show (((ls.length : Nat) : Int) - 0).toNat = ls.length by omega, List.map_map]
      refine List.map_congr_left fun i _ => ?_
      show V.int (0 + (i : Int)) = V.int (i : Int)
      rw [Int.zero_add]
    rw [← e]
    exact v
  have lacc : acc.toList.length = ls.length := by
    have := vacc.length
    rw [List.length_map] at this
    unfold rgI at this
    rw [List.length_map, List.length_range] at this
    exact this.symm
  have hL : acc.toList.length ≤ sizeLine := by
    rw [lacc]
    show ls.length ≤ 2 ^ 24
    omega
  refine wpAny_bind (wpAny_newList ?_ hL)
  show wpAny _ _ _ _ _ { s3 with heap := h5.push (seqObj "list" acc.toList.toArray 0), toks := tk5 }
  obtain ⟨h6, hh6⟩ : ∃ h6, h6 = h5.push (seqObj "list" acc.toList.toArray 0) := ⟨_, rfl⟩
  rw [← hh6]
  have k6 : ∀ b o, s3.heap.get? b = some o → h6.get? b = some o := fun b o e => by
    rw [hh6]
    exact Heap.get?_push_of_some _ (k5 b o e)
  have at6 : h6.get? h5.objs.size = some (seqObj "list" acc.toList.toArray 0) := by
    rw [hh6]
    exact Heap.get?_push_size _ rfl
  have lt6 : ∀ b o, s3.heap.get? b = some o → b ≠ h5.objs.size := fun b o e => Nat.ne_of_lt (Heap.lt_size (k5 b o e))
  refine wpAny_bind (wpAny_holding (PySem.W.list_sort_key_data (b := false) (β := Int) (bs := rgI ls.length) (R := IsI) (keyD ls) at6 (each_vals vacc) (PySem.W.AllAlike.of fun b b' => by rfl) (PySem.W.Sortable.tuples fun b => ⟨_, _, rfl⟩) (by unfold rgI; rw [List.length_map, List.length_range]; show ls.length ≤ 2 ^ 24; omega)
    (fun z hz => ?_) (PyProof.Rows.ksk_l1 _ _) (PyProof.Rows.ksk_t1 f _) (fun v z hR hz h7 tk7 kb => ?_) (fun out c7 h7 tk7 kb ho hlen he => wpAny_pure ⟨_, rfl, ?_⟩)))
  · have hd1 : (keyD ls z).depth = 1 := by
      unfold keyD
      simp [PyData.depth, PyData.depthAll]
    have := hr.un
    rw [hd1]
    show X.A.units + 1 + 1 + 1 < cLine
    omega
  · have keep7 : ∀ b o, s3.heap.get? b = some o → h7.get? b = some o := fun b o e => kb b o (lt6 b o e) (k6 b o e)
    obtain ⟨j, hj, rfl⟩ := List.mem_map.mp hz
    have hjl := List.mem_range.mp hj
    obtain ⟨t0, rfl⟩ := hR
    have hlj := List.getElem?_eq_getElem hjl
    have ek : keyD ls (j : Int) = .tuple [.int ls[j], .int (j : Int)] := by
      unfold keyD
      rw [Int.toNat_natCast, List.getD_eq_getElem?_getD, hlj]
      rfl
    rw [ek]
    obtain ⟨oC, hoC, hdC⟩ := hcell
    obtain ⟨oT, hoT, hcT, nT, hdT⟩ := htup
    exact key_call (s := { heap := h7, gens := s3.gens, drawn := s3.drawn, toks := tk7, os := s3.os }) L hxy hcl (by have := hr.dp; show X.A.depth < _; omega) (I4.nolimit.keeps keep7) ⟨oC, keep7 _ _ hoC, hdC⟩ ⟨oT, keep7 _ _ hoT, hcT, nT, hdT⟩ hv ‹ls.length ≤ 1000›
      (keep7 _ _ hf) ⟨c', oc, cvs, ct, rfl, keep7 _ _ hoc, hdc, hvc⟩ (hbind _ _ _ _ _ _) hlj hd1 hd2 hd3
  · have keep7 : ∀ b o, s3.heap.get? b = some o → h7.get? b = some o := fun b o e => kb b o (lt6 b o e) (k6 b o e)
    obtain ⟨os, hos⟩ : ∃ os, os = (rgI ls.length).mergeSort (PySem.W.dataLe false (keyD ls)) := ⟨_, rfl⟩
    have pe : os.Perm (rgI ls.length) := by
      rw [hos]
      exact List.mergeSort_perm _ _
    have pw : os.Pairwise (lexle ls) := by
      rw [hos]
      exact sorted_pw ls _
    rw [← hos] at he
    have vo := vals_each he
    have I5 : Inv X pins σ H3 s3 := I4.pins_of fun p hp => I4.pin p (by
      rcases List.mem_append.mp (List.mem_append_right X.pn hp) with h | h
      · exact List.mem_append_left _ h
      · exact List.mem_append_right _ (.tail _ h))
    have I6 : Inv X pins σ H3 { s3 with heap := h5, toks := tk5 } := I5.kept k5
    have nH3 : H3 h5.objs.size = none := I6.hok.fresh (Nat.le_refl _)
    have lo : (os.map V.int).length ≤ sizeLine := by
      rw [List.length_map, pe.length_eq]
      unfold rgI
      rw [List.length_map, List.length_range]
      show ls.length ≤ 2 ^ 24
      omega
    have nH2 : H2 h5.objs.size = none := I2.hok.fresh (Nat.le_of_lt (Heap.lt_size (k5 _ _ hrng)))
    refine ⟨.ref h5.objs.size, upd H3 h5.objs.size (.lst (os.map V.int)), I6.laid (t' := tk7) (h' := h7) (fun b o e => kb b o (Nat.ne_of_lt (Heap.lt_size e)) (by rw [hh6]; exact Heap.get?_push_of_some _ e)) (Nat.le_refl _) ⟨lo, out, c7, vo, ho⟩, rfl, q os _ _ pe pw nH2 (eN.trans (ExtN.of fun b o e => ?_)) (T3.ext fun b o e => ?_) upd_same⟩
    · rw [upd_ne (ne_of_none e nH3)]
      exact e
    · rw [upd_ne (ne_of_none e nH3)]
      exact e
end
end LS13
namespace LS13
open PySem PySem.Spec PySem.Calls PyProof.Rows L2 LamX
/-- a def whose code object is known -/
structure FunC (K : PySem.W.Frag) (x qual : Str) (st : Stmt) (f : Addr) (fd : FuncData) (c : Addr) : Prop where
  ex : ∃ (oc : Value) (od : Option Addr) (kV doc pm : Value) (an : Option Addr) (ct : Value) (osl : Array (Option Value)),
    fd = PySem.W.fnOf x qual (defArgs st) (defBody st) (defScope st) .none kV doc pm an (.ref c) ct ∧ K.lookup f = some ⟨oc, od, .func fd, osl⟩ ∧ PySem.W.codeIn K (.ref c) qual = true
theorem FunC.ok {P : Program} {w : World} {K : PySem.W.Frag} {mg : Str → Option Value} {base : Heap} {x qual : Str} {st : Stmt} {f c : Addr} {fd : FuncData} {N ps : List Str} {k : Nat} {sp : Sp} (F : FunC K x qual st f fd c) (S : FnScope N ps (defScope st)) (len : ∀ vs H Q E, sp vs H Q E → vs.length = ps.length)
    (hbody : ∀ (A : Around) (outer : List Env) (s : Shared) (H : Hp) (vs : List V) (Q : VK) (E : XK), Room k (A.deeper (envOfC qual (defScope st) s.heap.objs.size f (.ref c))) → sp vs H Q E →
      ∃ t, PSs (cxOf CX0 P w K mg base N qual (defScope st) f (.ref c) A outer s H E).nox (defBody st) t ∧ t { nx := fun _ H' => Q .non H', rt := Q } (start N vs) H) : FnOk P w K mg base CX0 (k + 1) f fd ps sp := by
  obtain ⟨oc, od, kV, doc, pm, an, ct, osl, rfl, lk, hcd⟩ := F.ex
  refine fn_of lk hcd S len fun A outer s H vs Q E hr hsp => ?_
  obtain ⟨t, h, q⟩ := hbody A outer s H vs Q E hr hsp
  exact ⟨t, h.nox, q⟩
theorem funC_mk {K : PySem.W.Frag} {x qual : Str} {st : Stmt} {f c : Addr} {oc : Value} {od an : Option Addr} {osl : Array (Option Value)} {kV doc pm ct : Value} (l : K.lookup f = some ⟨oc, od, .func (PySem.W.fnOf x qual (defArgs st) (defBody st) (defScope st) .none kV doc pm an (.ref c) ct), osl⟩)
    (h : PySem.W.codeIn K (.ref c) qual = true) : FunC K x qual st f (PySem.W.fnOf x qual (defArgs st) (defBody st) (defScope st) .none kV doc pm an (.ref c) ct) c := ⟨oc, od, kV, doc, pm, an, ct, osl, rfl, l, h⟩
/-- a def's table, found in the written part -/
theorem tab_mk {K : PySem.W.Frag} {x qual : Str} {f c P : Addr} {oc : Value} {od an : Option Addr} {osl : Array (Option Value)} {kV doc pm ct dV : Value} {params : Arguments} {body : List Stmt} {scope : Scope} {coc : Value} {cod : Option Addr} {cvs : Array Value} {csl : Array (Option Value)}
    (n : PySem.W.nsIn K mainGlobals x = some (some (.ref f))) (l : K.lookup f = some ⟨oc, od, .func (PySem.W.fnOf x qual params body scope dV kV doc pm an (.ref c) ct), osl⟩)
    (lc : K.lookup c = some ⟨coc, cod, .fields cvs, csl⟩) (hv : cvs[11]? = some (.ref P)) : PySem.W.tabIn K x = some (c, P) := by
  unfold PySem.W.tabIn
  rw [n]
  show (match K.lookup f with
    | some ⟨_, _, .func fd, _⟩ => (match fd.code with
      | .ref c => (match K.lookup c with
        | some ⟨_, _, .fields vs, _⟩ => (match (vs[11]? : Option Value) with
          | some (.ref P) => some (c, P)
          | _ => none)
        | _ => none)
      | _ => none)
    | _ => none) = _
  rw [l]
  show (match K.lookup c with
        | some ⟨_, _, .fields vs, _⟩ => (match (vs[11]? : Option Value) with
          | some (.ref P) => some (c, P)
          | _ => none)
        | _ => none) = _
  rw [lc]
  show (match (cvs[11]? : Option Value) with
          | some (.ref P) => some (c, P)
          | _ => none) = _
  rw [hv]
theorem walk_ofT {l : PySem.W.OpenLaw} {n k : Nat} {q : Program} {loose : List Str} {XP : (Str → Option Value) → Heap → Prop} {YP : World → Heap → Prop} {d : DefRec} {K : Params → PySem.W.Frag} {CX : World → CXT} {x : Str}
    (hn : l.most = some n) (hn2 : n ≤ sizeLine) (hdf : d.params.defaults = []) (hr : Room k callerA) (hY : ∀ (w : World) (h : Heap), YP w h → (K w.params).In h)
    (F : ∀ (w : World) (mg mb : Str → Option Value) (mean : ExcName → Option Value) (loose' : List Str) (fa : Addr) (h : Heap), YP w h → (K w.params).In h → Top q loose' mean mg mb h → mg d.name = some (.ref fa) → LawAtS l w (K w.params) (CX w) k n x mg fa h)
    (hCX : ∀ (w : World) (H : Hp) (s : Shared) (e : Value) (s' : Shared), CX w [] H s (fun _ _ _ => False) e s' → False) :
    PySem.W.WalkO q loose XP YP l.row.toRowW d [] (fun f vs => PySem.call f vs) := by
  refine Att.attach_callB hn hdf fun w s₀ s₁ mg mb fa o pm cd doc a vs ns G Y ho hd hcd hmg hobj hints hlen hbits hg => ?_
  have KX := hY w _ Y
  obtain ⟨fd, cs, sp, hT, nT, C, hb, hsp, hF⟩ := F w mg mb _ _ fa _ Y KX G.T hmg
  exact law_callTs KX G.T.g G.T.b G.T.builtins G.T.nolimit hg hT nT C G.T.bmain hobj hints (Nat.le_trans hlen hn2) hr hF hb (fun H hH hS => hsp H a ns hlen hbits hH hS) fun H e s' => hCX w H s₁ e s'
end LS13

/-! ### digits: taken from the longest loop on -/
namespace Dg
open LS13
theorem perm_uniq {α : Type} {r : α → α → Prop} (anti : ∀ a b, r a b → r b a → a = b) : ∀ {l m : List α}, l.Perm m → l.Pairwise r → m.Pairwise r → l = m
  | [], m, p, _, _ => (List.nil_perm.mp p).symm
  | x :: l, [], p, _, _ => absurd p.length_eq (by simp)
  | x :: l, y :: m, p, a, b => by
    have a' := List.pairwise_cons.mp a
    have b' := List.pairwise_cons.mp b
    have e : x = y := by
      have hx : x ∈ y :: m := p.mem_iff.mp List.mem_cons_self
      have hy : y ∈ x :: l := p.mem_iff.mpr List.mem_cons_self
      rcases List.mem_cons.mp hx with e | hx
      · exact e
      · rcases List.mem_cons.mp hy with e | hy
        · exact e.symm
        · exact anti _ _ (a'.1 y hy) (b'.1 x hx)
    subst e
    rw [perm_uniq anti (p.cons_inv) a'.2 b'.2]
def at_ (ls : List Int) (i : Int) : Int := ls.getD i.toNat 0
theorem lexle_anti (ls : List Int) (i j : Int) (h1 : lexle ls i j) (h2 : lexle ls j i) : i = j := by
  unfold lexle at h1 h2
  omega
def Ord (ls os : List Int) : Prop := os.Perm (rgI ls.length) ∧ os.Pairwise (lexle ls)
theorem Ord.uniq {ls os os' : List Int} (h : Ord ls os) (h' : Ord ls os') : os = os' := perm_uniq (lexle_anti ls) (h.1.trans h'.1.symm) h.2 h'.2
theorem Ord.ex (ls : List Int) : ∃ os, Ord ls os := ⟨_, List.mergeSort_perm _ _, sorted_pw ls (rgI ls.length)⟩
theorem rgI_nodup (n : Nat) : (rgI n).Nodup := by
  unfold rgI
  exact List.pairwise_map.mpr (List.nodup_range.imp fun {a b} h e => h (by omega))
theorem Ord.nodup {ls os : List Int} (h : Ord ls os) : os.Nodup := h.1.nodup_iff.mpr (rgI_nodup _)
theorem rgI_len (n : Nat) : (rgI n).length = n := by
  unfold rgI
  rw [List.length_map, List.length_range]
theorem Ord.len {ls os : List Int} (h : Ord ls os) : os.length = ls.length := h.1.length_eq.trans (rgI_len _)
theorem Ord.mem {ls os : List Int} (h : Ord ls os) {o : Int} (ho : o ∈ os) : 0 ≤ o ∧ o < ls.length := by
  have := h.1.mem_iff.mp ho
  unfold rgI at this
  obtain ⟨i, hi, rfl⟩ := List.mem_map.mp this
  have := List.mem_range.mp hi
  omega
theorem at_rg (ls : List Int) : (rgI ls.length).map (at_ ls) = ls := by
  unfold rgI
  rw [List.map_map]
  apply List.ext_getElem?
  intro i
  rw [List.getElem?_map]
  rcases Nat.lt_or_ge i ls.length with h | h
  · rw [List.getElem?_range h, List.getElem?_eq_getElem h]
    show some (ls.getD ((i : Int)).toNat 0) = _
    rw [Int.toNat_natCast, List.getD_eq_getElem?_getD, List.getElem?_eq_getElem h]
    rfl
  · rw [List.getElem?_eq_none (by rw [List.length_range]; exact h), List.getElem?_eq_none h]
    rfl
theorem Ord.vals {ls os : List Int} (h : Ord ls os) : os.map (at_ ls) = Rch.isort ls := by
  refine Rch.isort_of ?_ ?_
  · have := h.1.map (at_ ls)
    rw [at_rg] at this
    exact this
  · rw [List.pairwise_map]
    refine h.2.imp fun {a b} z => ?_
    unfold lexle at z
    unfold at_
    omega
/-- each is at most one more than all ahead of it -/
def Gr (ls us : List Int) : Prop := ∀ a o b, us = a ++ o :: b → 1 ≤ at_ ls o ∧ at_ ls o ≤ (a.map (at_ ls)).sum + 1
theorem ch_gr : ∀ (r : List Int) (p T : Int), Db.chB p r = true → 2 * p ≤ T + 1 → ∀ a o b, r = a ++ o :: b → o ≤ T + a.sum + 1
  | [], _, _, _, _, a, o, b, e => by
    have := congrArg List.length e
    simp at this
  | l :: r, p, T, h, hp, a, o, b, e => by
    have h2 : (decide (l ≤ 2 * p) && Db.chB l r) = true := h
    rw [Bool.and_eq_true] at h2
    have h3 := of_decide_eq_true h2.1
    cases a with
    | nil =>
      have e' : l = o := by
        injection e
      subst e'
      show l ≤ T + 0 + 1
      omega
    | cons x a =>
      injection e with e1 e2
      subst e1
      have := ch_gr r l (T + l) h2.2 (by omega) a o b e2
      rw [List.sum_cons]
      omega
theorem gr_of {ls os : List Int} (h : Ord ls os) (g : Rch.Good ls) (d : Db.dbl ls = true) : Gr ls os := by
  intro a o b e
  have ho : o ∈ os := by rw [e]; simp
  have hm := h.mem ho
  have h1 : at_ ls o ∈ ls := by
    unfold at_
    rw [List.getD_eq_getElem?_getD, List.getElem?_eq_getElem (show o.toNat < ls.length by omega)]
    exact List.getElem_mem _
  refine ⟨(g.2.2 _ h1).1, ?_⟩
  have v := h.vals
  have d' : Db.isD (Rch.isort ls) = true := d
  rw [← v] at d'
  have e2 : os.map (at_ ls) = a.map (at_ ls) ++ at_ ls o :: b.map (at_ ls) := by
    rw [e, List.map_append, List.map_cons]
  cases hv : os.map (at_ ls) with
  | nil =>
    rw [hv] at d'
    cases d'
  | cons x r =>
    rw [hv] at d' e2
    have d2 : (decide (x = 1) && Db.chB x r) = true := d'
    rw [Bool.and_eq_true] at d2
    have hx := of_decide_eq_true d2.1
    cases ha : a.map (at_ ls) with
    | nil =>
      rw [ha] at e2
      injection e2 with e3 _
      show at_ ls o ≤ 0 + 1
      omega
    | cons y a' =>
      rw [ha] at e2
      injection e2 with e3 e4
      have := ch_gr r x 1 d2.2 (by omega) a' _ _ e4
      rw [List.sum_cons]
      omega
theorem Gr.init {ls a b : List Int} (h : Gr ls (a ++ b)) : Gr ls a := fun x o y e => h x o (y ++ b) (by rw [e]; simp)
/-- the walk from the longest on -/
def tk (ls : List Int) : List Int → Int → List Int
  | [], _ => []
  | o :: r, l => if at_ ls o ≤ l then o :: tk ls r (l - at_ ls o) else tk ls r l
theorem tk_sub (ls : List Int) : ∀ (r : List Int) (l : Int), (tk ls r l).Sublist r
  | [], _ => .slnil
  | o :: r, l => by
    unfold tk
    split
    · exact (tk_sub ls r _).cons_cons o
    · exact (tk_sub ls r _).cons o
theorem tk_le (ls : List Int) : ∀ (r : List Int) (l : Int), 0 ≤ l → ((tk ls r l).map (at_ ls)).sum ≤ l
  | [], l, h => h
  | o :: r, l, h => by
    unfold tk
    split
    · rename_i c
      have := tk_le ls r (l - at_ ls o) (by omega)
      rw [List.map_cons, List.sum_cons]
      omega
    · exact tk_le ls r l h
theorem tk_sum (ls : List Int) : ∀ (n : Nat) (us : List Int) (l : Int), us.length = n → Gr ls us → 0 ≤ l → l ≤ (us.map (at_ ls)).sum → ((tk ls us.reverse l).map (at_ ls)).sum = l
  | 0, us, l, hn, _, h0, h1 => by
    rw [List.length_eq_zero_iff.mp hn] at h1 ⊢
    have h1 : l ≤ 0 := h1
    show (0 : Int) = l
    omega
  | n + 1, us, l, hn, g, h0, h1 => by
    obtain ⟨a, o, rfl⟩ : ∃ a o, us = a ++ [o] := ⟨us.dropLast, us.getLast (by intro z; rw [z] at hn; cases hn), (List.dropLast_concat_getLast _).symm⟩
    have g' := g a o [] rfl
    rw [List.map_append, List.sum_append] at h1
    have e1 : ([o].map (at_ ls)).sum = at_ ls o := by
      show at_ ls o + 0 = _
      omega
    rw [e1] at h1
    rw [List.reverse_append]
    show ((tk ls (o :: a.reverse) l).map (at_ ls)).sum = l
    have ha : a.length = n := by simpa using hn
    unfold tk
    split
    · rename_i c
      rw [List.map_cons, List.sum_cons, tk_sum ls n a _ ha g.init (by omega) (by omega)]
      omega
    · rename_i c
      exact tk_sum ls n a _ ha g.init h0 (by omega)
theorem tk_app (ls : List Int) : ∀ (x y : List Int) (l : Int), tk ls (x ++ y) l = tk ls x l ++ tk ls y (l - ((tk ls x l).map (at_ ls)).sum)
  | [], y, l => by
    show tk ls y l = tk ls y (l - 0)
    rw [Int.sub_zero]
  | o :: x, y, l => by
    show (if at_ ls o ≤ l then o :: tk ls (x ++ y) (l - at_ ls o) else tk ls (x ++ y) l) = _
    have e : tk ls (o :: x) l = if at_ ls o ≤ l then o :: tk ls x (l - at_ ls o) else tk ls x l := rfl
    rw [e]
    split
    · rw [tk_app ls x y, List.map_cons, List.sum_cons, List.cons_append]
      rw [show l - at_ ls o - ((tk ls x (l - at_ ls o)).map (at_ ls)).sum = l - (at_ ls o + ((tk ls x (l - at_ ls o)).map (at_ ls)).sum) by omega]
    · rw [tk_app ls x y]
/-- a part of a list without doubles is found again in it -/
theorem sub_filter : ∀ {row os : List Int}, row.Sublist os → os.Nodup → os.filter (fun k => decide (k ∈ row)) = row := by
  intro row os h
  induction h with
  | slnil => intro _; rfl
  | @cons l1 l2 a s ih =>
    intro nd
    have nd' := List.nodup_cons.mp nd
    have na : a ∉ l1 := fun z => nd'.1 (s.mem z)
    rw [List.filter_cons, if_neg (by rw [decide_eq_true_iff]; exact na)]
    exact ih nd'.2
  | @cons_cons l1 l2 a s ih =>
    intro nd
    have nd' := List.nodup_cons.mp nd
    rw [List.filter_cons, if_pos (by rw [decide_eq_true_iff]; exact List.mem_cons_self)]
    have e : l2.filter (fun k => decide (k ∈ a :: l1)) = l2.filter (fun k => decide (k ∈ l1)) := by
      refine List.filter_congr fun x hx => ?_
      have : x ≠ a := fun z => nd'.1 (by rw [← z]; exact hx)
      exact decide_eq_decide.mpr ⟨fun z => (List.mem_cons.mp z).resolve_left this, fun z => List.mem_cons_of_mem _ z⟩
    rw [e, ih nd'.2]
/-- the row of a wait -/
def row (ls os : List Int) (w : Int) : List Int := (tk ls os.reverse w).reverse
theorem row_sub (ls os : List Int) (w : Int) : (row ls os w).Sublist os := by
  have := (tk_sub ls os.reverse w).reverse
  rw [List.reverse_reverse] at this
  exact this
theorem row_filter {ls os : List Int} (h : Ord ls os) (w : Int) : os.filter (fun k => decide (k ∈ row ls os w)) = row ls os w := sub_filter (row_sub ls os w) h.nodup
theorem sum_rev : ∀ l : List Int, l.reverse.sum = l.sum
  | [] => rfl
  | x :: l => by
    rw [List.reverse_cons, List.sum_append, sum_rev l]
    show l.sum + (x + 0) = _
    rw [List.sum_cons]
    omega
theorem sum_os {ls os : List Int} (h : Ord ls os) : (os.map (at_ ls)).sum = ls.sum := by
  rw [h.vals]
  exact Db.perm_sum (Rch.isort_perm ls)
theorem row_sum {ls os : List Int} (h : Ord ls os) (g : Rch.Good ls) (d : Db.dbl ls = true) {w : Int} (h0 : 0 ≤ w) (h1 : w ≤ ls.sum) : ((row ls os w).map (at_ ls)).sum = w := by
  unfold row
  rw [List.map_reverse, sum_rev]
  exact tk_sum ls os.length os w rfl (gr_of h g d) h0 (by rw [sum_os h]; exact h1)
/-- what is taken of the shorter ones -/
def bel (ls os : List Int) (w : Int) (i : Nat) : Int := (((os.take i).filter fun k => decide (k ∈ row ls os w)).map (at_ ls)).sum
theorem bel_step {ls os : List Int} {w : Int} {i : Nat} {o : Int} (h : os[i]? = some o) : bel ls os w (i + 1) = bel ls os w i + if o ∈ row ls os w then at_ ls o else 0 := by
  unfold bel
  rw [List.take_add_one, h, List.filter_append, List.map_append, List.sum_append]
  congr 1
  show ((([o] : List Int).filter fun k => decide (k ∈ row ls os w)).map (at_ ls)).sum = _
  rw [List.filter_cons]
  split
  · rename_i c
    rw [if_pos (of_decide_eq_true c)]
    show at_ ls o + 0 = _
    omega
  · rename_i c
    rw [if_neg (fun z => c (decide_eq_true z))]
    rfl
theorem bel_lt {ls os : List Int} (hO : Ord ls os) {w : Int} (h0 : 0 ≤ w) {i : Nat} {o : Int} (h : os[i]? = some o) (ho : o ∉ row ls os w) : bel ls os w i < at_ ls o := by
  have hi := (List.getElem?_eq_some_iff.mp h).1
  have e : os = os.take i ++ o :: os.drop (i + 1) := by
    have := List.take_append_drop i os
    rw [List.drop_eq_getElem_cons hi] at this
    rw [(List.getElem?_eq_some_iff.mp h).2] at this
    exact this.symm
  obtain ⟨a, ha⟩ : ∃ a, a = os.take i := ⟨_, rfl⟩
  obtain ⟨b, hb⟩ : ∃ b, b = os.drop (i + 1) := ⟨_, rfl⟩
  rw [← ha, ← hb] at e
  have er : os.reverse = b.reverse ++ (o :: a.reverse) := by
    rw [e]
    simp
  obtain ⟨l', hl'⟩ : ∃ l', l' = w - ((tk ls b.reverse w).map (at_ ls)).sum := ⟨_, rfl⟩
  have hl0 : 0 ≤ l' := by
    have := tk_le ls b.reverse w h0
    omega
  have et : tk ls os.reverse w = tk ls b.reverse w ++ tk ls (o :: a.reverse) l' := by
    rw [er, tk_app, ← hl']
  have nd := hO.nodup
  rw [e] at nd
  have nd2 := List.nodup_append.mp nd
  have nd3 := List.nodup_cons.mp nd2.2.1
  have hno : ¬ at_ ls o ≤ l' := fun c => ho (by
    unfold row
    rw [List.mem_reverse, et]
    refine List.mem_append_right _ ?_
    unfold tk
    rw [if_pos c]
    exact List.mem_cons_self)
  have et2 : tk ls (o :: a.reverse) l' = tk ls a.reverse l' := by
    show (if at_ ls o ≤ l' then _ else _) = _
    rw [if_neg hno]
  rw [et2] at et
  have em : ∀ k ∈ a, (k ∈ row ls os w ↔ k ∈ (tk ls a.reverse l').reverse) := fun k hk => by
    unfold row
    rw [List.mem_reverse, List.mem_reverse, et, List.mem_append]
    refine ⟨fun z => z.resolve_left fun z1 => ?_, .inr⟩
    have zb : k ∈ b := List.mem_reverse.mp ((tk_sub ls b.reverse w).mem z1)
    exact nd2.2.2 k hk k (List.mem_cons_of_mem _ zb) rfl
  have eb : bel ls os w i = (((tk ls a.reverse l').reverse).map (at_ ls)).sum := by
    unfold bel
    rw [← ha]
    have e3 : a.filter (fun k => decide (k ∈ row ls os w)) = a.filter (fun k => decide (k ∈ (tk ls a.reverse l').reverse)) := List.filter_congr fun k hk => decide_eq_decide.mpr (em k hk)
    have s2 := (tk_sub ls a.reverse l').reverse
    rw [List.reverse_reverse] at s2
    rw [e3, sub_filter s2 nd2.1]
  rw [eb, List.map_reverse, sum_rev]
  have := tk_le ls a.reverse l' hl0
  omega
end Dg

set_option Elab.async false
set_option linter.all false
set_option maxRecDepth 100000
set_option maxHeartbeats 4000000
namespace My
open PySem PySem.Spec PyProof.Rows L2
def topS (i : Nat) : Stmt := PySem.Challenge.pw_loopstore_k28_whole_greedy_digits.main.body.getD i (.Pass ⟨0, 0, 0, 0⟩)
abbrev s_is_integer : Stmt := topS 8
theorem sc_is_integer : FnScope ["thing"] ["thing"] (defScope s_is_integer) := ⟨rfl, rfl, rfl, by decide +kernel, rfl, by decide +kernel, by decide +kernel⟩
abbrev s_is_number : Stmt := topS 9
theorem sc_is_number : FnScope ["thing", "least", "most"] ["thing", "least", "most"] (defScope s_is_number) := ⟨rfl, rfl, rfl, by decide +kernel, rfl, by decide +kernel, by decide +kernel⟩
abbrev s_are_numbers : Stmt := topS 10
theorem sc_are_numbers : FnScope ["things", "least", "most", "thing"] ["things", "least", "most"] (defScope s_are_numbers) := ⟨rfl, rfl, rfl, by decide +kernel, rfl, by decide +kernel, by decide +kernel⟩
abbrev s_is_loops : Stmt := topS 11
theorem sc_is_loops : FnScope ["thing"] ["thing"] (defScope s_is_loops) := ⟨rfl, rfl, rfl, by decide +kernel, rfl, by decide +kernel, by decide +kernel⟩
abbrev s_check_loops : Stmt := topS 12
theorem sc_check_loops : FnScope ["thing"] ["thing"] (defScope s_check_loops) := ⟨rfl, rfl, rfl, by decide +kernel, rfl, by decide +kernel, by decide +kernel⟩
abbrev s_ordered : Stmt := topS 14
theorem sc_ordered : FnScope ["loops"] ["loops"] (defScope s_ordered) := ⟨rfl, rfl, rfl, by decide +kernel, rfl, by decide +kernel, by decide +kernel⟩
abbrev s_doubling : Stmt := topS 15
theorem sc_doubling : FnScope ["loops", "ascending", "less", "more"] ["loops"] (defScope s_doubling) := ⟨rfl, rfl, rfl, by decide +kernel, rfl, by decide +kernel, by decide +kernel⟩
abbrev s_check_doubling : Stmt := topS 16
theorem sc_check_doubling : FnScope ["loops"] ["loops"] (defScope s_check_doubling) := ⟨rfl, rfl, rfl, by decide +kernel, rfl, by decide +kernel, by decide +kernel⟩
abbrev s_taken : Stmt := topS 17
theorem sc_taken : FnScope ["loops", "wait", "found", "left", "loop"] ["loops", "wait"] (defScope s_taken) := ⟨rfl, rfl, rfl, by decide +kernel, rfl, by decide +kernel, by decide +kernel⟩
abbrev s_digits : Stmt := topS 18
theorem sc_digits : FnScope ["loops", "wait"] ["loops", "wait"] (defScope s_digits) := ⟨rfl, rfl, rfl, by decide +kernel, rfl, by decide +kernel, by decide +kernel⟩
abbrev s__law_tape : Stmt := topS 20
theorem sc__law_tape : FnScope ["script"] ["script"] (defScope s__law_tape) := ⟨rfl, rfl, rfl, by decide +kernel, rfl, by decide +kernel, by decide +kernel⟩
abbrev s__law_pick : Stmt := topS 21
theorem sc__law_pick : FnScope ["tape", "size", "digit", "cell", "mixed"] ["tape", "size"] (defScope s__law_pick) := ⟨rfl, rfl, rfl, by decide +kernel, rfl, by decide +kernel, by decide +kernel⟩
abbrev s__law_order : Stmt := topS 22
theorem sc__law_order : FnScope ["loops", "pair", "k"] ["loops"] (defScope s__law_order) := ⟨rfl, rfl, rfl, by decide +kernel, rfl, by decide +kernel, by decide +kernel⟩
abbrev s__law_digits : Stmt := topS 23
theorem sc__law_digits : FnScope ["loops", "wait", "row", "left", "loop"] ["loops", "wait"] (defScope s__law_digits) := ⟨rfl, rfl, rfl, by decide +kernel, rfl, by decide +kernel, by decide +kernel⟩
abbrev s__law_doubled : Stmt := topS 24
theorem sc__law_doubled : FnScope ["tape", "most", "row", "turn", "length", "found"] ["tape", "most"] (defScope s__law_doubled) := ⟨rfl, rfl, rfl, by decide +kernel, rfl, by decide +kernel, by decide +kernel⟩
abbrev s_law : Stmt := topS 25
theorem sc_law : FnScope ["script", "tape", "turn", "loops", "total", "order", "seen", "wait", "row", "below", "k"] ["script"] (defScope s_law) := ⟨rfl, rfl, rfl, by decide +kernel, rfl, by decide +kernel, by decide +kernel⟩
structure Tx (K : PySem.W.Frag) (mg : Str → Option Value) where
  a_is_integer : Addr
  d_is_integer : FuncData
  F_is_integer : Fun K "is_integer" "is_integer" s_is_integer a_is_integer d_is_integer
  b_is_integer : Binds K d_is_integer ["thing"] []
  g_is_integer : mg "is_integer" = some (.ref a_is_integer)
  a_is_number : Addr
  d_is_number : FuncData
  F_is_number : Fun K "is_number" "is_number" s_is_number a_is_number d_is_number
  b_is_number : Binds K d_is_number ["thing", "least", "most"] []
  g_is_number : mg "is_number" = some (.ref a_is_number)
  a_are_numbers : Addr
  d_are_numbers : FuncData
  F_are_numbers : Fun K "are_numbers" "are_numbers" s_are_numbers a_are_numbers d_are_numbers
  b_are_numbers : Binds K d_are_numbers ["things", "least", "most"] []
  g_are_numbers : mg "are_numbers" = some (.ref a_are_numbers)
  a_is_loops : Addr
  d_is_loops : FuncData
  F_is_loops : Fun K "is_loops" "is_loops" s_is_loops a_is_loops d_is_loops
  b_is_loops : Binds K d_is_loops ["thing"] []
  g_is_loops : mg "is_loops" = some (.ref a_is_loops)
  a_check_loops : Addr
  d_check_loops : FuncData
  F_check_loops : Fun K "check_loops" "check_loops" s_check_loops a_check_loops d_check_loops
  b_check_loops : Binds K d_check_loops ["thing"] []
  g_check_loops : mg "check_loops" = some (.ref a_check_loops)
  a_ordered : Addr
  d_ordered : FuncData
  F_ordered : Fun K "ordered" "ordered" s_ordered a_ordered d_ordered
  b_ordered : Binds K d_ordered ["loops"] []
  g_ordered : mg "ordered" = some (.ref a_ordered)
  a_doubling : Addr
  d_doubling : FuncData
  F_doubling : Fun K "doubling" "doubling" s_doubling a_doubling d_doubling
  b_doubling : Binds K d_doubling ["loops"] []
  g_doubling : mg "doubling" = some (.ref a_doubling)
  a_check_doubling : Addr
  d_check_doubling : FuncData
  F_check_doubling : Fun K "check_doubling" "check_doubling" s_check_doubling a_check_doubling d_check_doubling
  b_check_doubling : Binds K d_check_doubling ["loops"] []
  g_check_doubling : mg "check_doubling" = some (.ref a_check_doubling)
  a_taken : Addr
  d_taken : FuncData
  F_taken : Fun K "taken" "taken" s_taken a_taken d_taken
  b_taken : Binds K d_taken ["loops", "wait"] []
  g_taken : mg "taken" = some (.ref a_taken)
  a_digits : Addr
  d_digits : FuncData
  F_digits : Fun K "digits" "digits" s_digits a_digits d_digits
  b_digits : Binds K d_digits ["loops", "wait"] []
  g_digits : mg "digits" = some (.ref a_digits)
  a__law_tape : Addr
  d__law_tape : FuncData
  F__law_tape : Fun K "_law_tape" "_law_tape" s__law_tape a__law_tape d__law_tape
  b__law_tape : Binds K d__law_tape ["script"] []
  g__law_tape : mg "_law_tape" = some (.ref a__law_tape)
  a__law_pick : Addr
  d__law_pick : FuncData
  F__law_pick : Fun K "_law_pick" "_law_pick" s__law_pick a__law_pick d__law_pick
  b__law_pick : Binds K d__law_pick ["tape", "size"] []
  g__law_pick : mg "_law_pick" = some (.ref a__law_pick)
  a__law_order : Addr
  d__law_order : FuncData
  F__law_order : Fun K "_law_order" "_law_order" s__law_order a__law_order d__law_order
  b__law_order : Binds K d__law_order ["loops"] []
  g__law_order : mg "_law_order" = some (.ref a__law_order)
  a__law_digits : Addr
  d__law_digits : FuncData
  F__law_digits : Fun K "_law_digits" "_law_digits" s__law_digits a__law_digits d__law_digits
  b__law_digits : Binds K d__law_digits ["loops", "wait"] []
  g__law_digits : mg "_law_digits" = some (.ref a__law_digits)
  a__law_doubled : Addr
  d__law_doubled : FuncData
  F__law_doubled : Fun K "_law_doubled" "_law_doubled" s__law_doubled a__law_doubled d__law_doubled
  b__law_doubled : Binds K d__law_doubled ["tape", "most"] []
  g__law_doubled : mg "_law_doubled" = some (.ref a__law_doubled)
  a_law : Addr
  d_law : FuncData
  F_law : Fun K "law" "law" s_law a_law d_law
  b_law : Binds K d_law ["script"] []
  g_law : mg "law" = some (.ref a_law)
  m_all : mg "all" = none
  m_bool : mg "bool" = none
  m_int : mg "int" = none
  m_isinstance : mg "isinstance" = none
  m_len : mg "len" = none
  m_list : mg "list" = none
  m_max : mg "max" = none
  m_range : mg "range" = none
  m_reversed : mg "reversed" = none
  m_sorted : mg "sorted" = none
  m_sum : mg "sum" = none
  m_tuple : mg "tuple" = none
  m_zip : mg "zip" = none
  t_MOST_LENGTH : Tok
  g_MOST_LENGTH : mg "MOST_LENGTH" = some (.int 40 t_MOST_LENGTH)
  t_MOST_LOOPS : Tok
  g_MOST_LOOPS : mg "MOST_LOOPS" = some (.int 8 t_MOST_LOOPS)
  k_ordered : Addr
  P_ordered : Addr
  C_ordered : LS13.FunC K "ordered" "ordered" s_ordered a_ordered d_ordered k_ordered
  tb_ordered : PySem.W.tabIn K "ordered" = some (k_ordered, P_ordered)
  np_ordered : K.lookup P_ordered = none
/- ((pss_cons (ps_set (i := 1) sc_law.nd rfl (.inr rfl) (pe_call (ok__law_tape T) (hr.mono (by decide)) (by rfl) T.g__law_tape T.F__law_tape.kp T.b__law_tape .nil pass0 (pa_cons (pv 0) pa_nil)))
  (pss_cons (ps_for PassesOwn.never rfl (pi_range1 (by rfl) T.m_range (pa_cons pe_int pa_nil)) (pg_name (i := 2) sc_law.nd rfl (.inl rfl))
   (pss_cons (ps_set (i := 3) sc_law.nd rfl (.inr rfl) (pe_call (ok__law_doubled T) (hr.mono (by decide)) (by rfl) T.g__law_doubled T.F__law_doubled.kp T.b__law_doubled .nil pass0 (pa_cons (pv 1) (pa_cons pe_int pa_nil))))
  (pss_cons (ps_set (i := 4) sc_law.nd rfl (.inr rfl) (pe_callB (cr_sumT rfl) (by rfl) T.m_sum (by decide +kernel) (pa_cons (pv 3) pa_nil)))
  (pss_cons (ps_set (i := 5) sc_law.nd rfl (.inl rfl) (pe_call (ok__law_order T) (hr.mono (by decide)) (by rfl) T.g__law_order T.F__law_order.kp T.b__law_order .nil pass0 (pa_cons (pv 3) pa_nil)))
  (pss_cons (ps_set (i := 6) sc_law.nd rfl (.inl rfl) pe_dnewT)
  (pss_one (ps_for PassesOwn.never rfl (pi_list (pe_op op_cat (pe_lst (pa_cons pe_int (pa_cons (pv 4) pa_nil))) (pe_lc (own := [("k", 10)]) (g := (gName 10)) (tt := tYes) rfl sc_law.nd (pi_range1 (by rfl) T.m_range (pa_cons pe_int pa_nil)) (blkOk_by (own := [("k", 10)]) (N := ["script", "tape", "turn", "loops", "total", "order", "seen", "wait", "row", "below", "k"]) (sc := defScope s_law) (by decide +kernel)) (fun _ _ _ _ _ => pg_name (i := 10) sc_law.nd rfl (.inl rfl)) (fun _ _ _ _ _ => pts_nil) (fun _ _ _ _ _ => (pe_op op_add pe_int (pe_call (ok__law_pick T) (hr.mono (by decide)) (by rfl) T.g__law_pick T.F__law_pick.kp T.b__law_pick .nil pass0 (pa_cons (pv 1) (pa_cons (pv 4) pa_nil)))))))) (pg_name (i := 7) sc_law.nd rfl (.inl rfl))
   (pss_cons (ps_set (i := 8) sc_law.nd rfl (.inr rfl) (pe_call (ok_digits T TB) (hr.mono (by decide)) (by rfl) T.g_digits T.F_digits.kp T.b_digits .nil pass0 (pa_cons (pv 3) (pa_cons (pv 7) pa_nil))))
  (pss_cons (ps_if (PW.pt (pw_or (pt_not (pt_val (pe_callB call_isi (by rfl) T.m_isinstance (by decide +kernel) (pa_cons (pv 8) (pa_cons (pe_bltn (v := .ty "tuple") (by rfl) T.m_tuple (by decide +kernel) rfl) pa_nil))))) (pw_or1 (pt_cmpR (op_neD hr.units) (pv 8) (pe_call (ok__law_digits T) (hr.mono (by decide)) (by rfl) T.g__law_digits T.F__law_digits.kp T.b__law_digits .nil pass0 (pa_cons (pv 3) (pa_cons (pv 7) pa_nil))) (nomark _))))) (pss_one (ps_ret pe_bl)) pss_nil)
  (pss_cons (ps_if (PW.pt (pw_or (pt_cmpR op_ne (pe_callB (cr_sum rfl) (by rfl) T.m_sum (by decide +kernel) (pa_cons (pe_lc (own := [("k", 10)]) (g := (gName 10)) (tt := tYes) rfl sc_law.nd (pi_tup (pv 8)) (blkOk_by (own := [("k", 10)]) (N := ["script", "tape", "turn", "loops", "total", "order", "seen", "wait", "row", "below", "k"]) (sc := defScope s_law) (by decide +kernel)) (fun _ _ _ _ _ => pg_name (i := 10) sc_law.nd rfl (.inl rfl)) (fun _ _ _ _ _ => pts_nil) (fun _ _ _ _ _ => (pe_ix (ixTK (K := K) (by rfl)) (pv 3) (pv 10) (fun _ _ => rfl)))) pa_nil)) (pv 7) (nomark _)) (pw_or1 (pt_cmpR (op_neD hr.units) (pe_lc (own := [("k", 10)]) (g := (gName 10)) rfl sc_law.nd (pi_list (pv 5)) (blkOk_by (own := [("k", 10)]) (N := ["script", "tape", "turn", "loops", "total", "order", "seen", "wait", "row", "below", "k"]) (sc := defScope s_law) (by decide +kernel)) (fun _ _ _ _ _ => pg_name (i := 10) sc_law.nd rfl (.inl rfl)) (fun _ _ _ _ _ => (pts_one (pt_cmpR (inK (K := K) (by rfl)) (pv 10) (pv 8) (by rfl)))) (fun _ _ _ _ _ => (pv 10))) (pe_callTy call_list_of (by rfl) T.m_list (by decide +kernel) (pa_cons (pv 8) pa_nil)) (nomark _))))) (pss_one (ps_ret pe_bl)) pss_nil)
  (pss_cons (ps_set (i := 9) sc_law.nd rfl (.inl rfl) pe_int)
  (pss_cons (ps_for PassesOwn.never rfl (pi_list (pv 5)) (pg_name (i := 10) sc_law.nd rfl (.inl rfl))
   (pss_cons (ps_if (PW.pt (pw_and (pt_cmpR (notInK (K := K) (by rfl)) (pv 10) (pv 8) (by rfl)) (pw_and1 (pt_cmpR op_ge (pv 9) (pe_ix (ixTK (K := K) (by rfl)) (pv 3) (pv 10) (fun _ _ => rfl)) (nomark _))))) (pss_one (ps_ret pe_bl)) pss_nil)
  (pss_one (ps_if (pt_cmpR (inK (K := K) (by rfl)) (pv 10) (pv 8) (by rfl)) (pss_one (ps_set (i := 9) sc_law.nd rfl (.inl rfl) (pe_op op_add (pv 9) (pe_ix (ixTK (K := K) (by rfl)) (pv 3) (pv 10) (fun _ _ => rfl))))) pss_nil))))
  (pss_cons (ps_if (pt_cmpR op_ne (pe_dget2 (by exact hu_of hr) (pv 6) (pv 8) (pv 7) ⟨by rfl, by rfl, by rfl, by rfl⟩) (pv 7) (nomark _)) (pss_one (ps_ret pe_bl)) pss_nil)
  (pss_one (ps_dput (by exact hu_of hr) (pv 6) (pv 8) (pv 7) rfl)))))))))))))))
  (pss_one (ps_ret (pe_and (pe_cmpR (op_eqD hr.units) (pe_call (ok_digits T TB) (hr.mono (by decide)) (by rfl) T.g_digits T.F_digits.kp T.b_digits .nil pass0 (pa_cons (pe_tup (pa_cons pe_int (pa_cons pe_int (pa_cons pe_int pa_nil)))) (pa_cons pe_int pa_nil))) (pe_tup (pa_cons pe_int (pa_cons pe_int (pa_cons pe_int pa_nil)))) (nomark _)) (pe_and (pe_cmpR (op_eqD hr.units) (pe_call (ok_digits T TB) (hr.mono (by decide)) (by rfl) T.g_digits T.F_digits.kp T.b_digits .nil pass0 (pa_cons (pe_tup (pa_cons pe_int (pa_cons pe_int (pa_cons pe_int pa_nil)))) (pa_cons pe_int pa_nil))) (pe_tup (pa_cons pe_int pa_nil)) (nomark _)) (pe_one (pe_cmpR (op_eqD hr.units) (pe_call (ok_digits T TB) (hr.mono (by decide)) (by rfl) T.g_digits T.F_digits.kp T.b_digits .nil pass0 (pa_cons (pe_tup (pa_cons pe_int (pa_cons pe_int pa_nil))) (pa_cons pe_int pa_nil))) (pe_tup (pa_cons pe_int (pa_cons pe_int pa_nil))) (nomark _)))))))))) ((pss_one (ps_ret (LS13.pe_sortLam (T := tabsOf T) (i0 := 0) (k := 0) (pe_callB call_len_seq (by rfl) T.m_len PySem.boot_len (pa_cons (pv 0) pa_nil)) (by rfl) T.m_sorted (by rfl) T.m_range rfl TB rfl (List.Mem.head _) (fun p hp _ => by rw [List.mem_singleton.mp hp]; rfl) (hr.mono (by decide)) rfl rfl ⟨rfl, rfl, rfl, rfl⟩ (by decide) rfl (fun _ _ _ _ _ _ => rfl))))) ((pss_cons (ps_set (i := 2) sc_taken.nd rfl (.inl rfl) (pe_lst pa_nil))
  (pss_cons (ps_set (i := 3) sc_taken.nd rfl (.inl rfl) (pv 1))
  (pss_cons (ps_for PassesOwn.never rfl (pi_reversed (by rfl) T.m_reversed (pa_cons (pe_call (ok_ordered T TB) (hr.mono (by decide)) (by rfl) T.g_ordered T.F_ordered.kp T.b_ordered .nil pass0 (pa_cons (pv 0) pa_nil)) pa_nil)) (pg_name (i := 4) sc_taken.nd rfl (.inl rfl))
   (pss_one (ps_if (pt_cmpR op_le (pe_ix ix_tup (pv 0) (pv 4) (fun _ _ => rfl)) (pv 3) (nomark _)) (pss_cons (ps_expr (pe_bm PySem.F.plainAttrs_list PySem.F.slot_list_append PySem.F.type_list_append mt_append (pv 2) (pa_cons (pv 4) pa_nil)))
  (pss_one (ps_aug (i := 3) sc_taken.nd rfl (.inl rfl) (pe_ix ix_tup (pv 0) (pv 4) (fun _ _ => rfl)) ip_sub))) pss_nil)))
  (pss_one (ps_ret (pe_callTy call_tuple_of (by rfl) T.m_tuple (by decide +kernel) (pa_cons (pe_revL (pv 2)) pa_nil)))))))) ((pss_one (ps_if (pt_not (pt_val (pe_call (ok_doubling T) (hr.mono (by decide)) (by rfl) T.g_doubling T.F_doubling.kp T.b_doubling .nil pass0 (pa_cons (pv 0) pa_nil)))) (pss_one ps_never) pss_nil))) ((pss_cons (ps_expr (pe_call (ok_check_doubling T) (hr.mono (by decide)) (by rfl) T.g_check_doubling T.F_check_doubling.kp T.b_check_doubling .nil pass0 (pa_cons (pv 0) pa_nil)))
  (pss_cons (ps_if (pt_not (pt_val (pe_call (ok_is_number T) (hr.mono (by decide)) (by rfl) T.g_is_number T.F_is_number.kp T.b_is_number .nil pass0 (pa_cons (pv 1) (pa_cons pe_int (pa_cons (pe_callB (cr_sumT rfl) (by rfl) T.m_sum (by decide +kernel) (pa_cons (pv 0) pa_nil)) pa_nil)))))) (pss_one ps_never) pss_nil)
  (pss_one (ps_ret (pe_call (ok_taken T TB) (hr.mono (by decide)) (by rfl) T.g_taken T.F_taken.kp T.b_taken .nil pass0 (pa_cons (pv 0) (pa_cons (pv 1) pa_nil)))))))) ((pss_one (ps_ret (pe_lc (own := [("pair", 1)]) (g := (gName 1)) (tt := tYes) rfl sc__law_order.nd (pi_list (pe_callB (cr_sortC (B := 1000) (d := 2) (by decide)) (by rfl) T.m_sorted (by decide +kernel) (pa_cons (pe_lc (own := [("k", 2)]) (g := (gName 2)) (tt := tYes) rfl sc__law_order.nd (pi_range1 (by rfl) T.m_range (pa_cons (pe_callB call_len_seq (by rfl) T.m_len PySem.boot_len (pa_cons (pv 0) pa_nil)) pa_nil)) (blkOk_by (own := [("k", 2)]) (N := ["loops", "pair", "k"]) (sc := defScope s__law_order) (by decide +kernel)) (fun _ _ _ _ _ => pg_name (i := 2) sc__law_order.nd rfl (.inl rfl)) (fun _ _ _ _ _ => pts_nil) (fun _ _ _ _ _ => (pe_tup (pa_cons (pe_ix (ixTK (K := K) (by rfl)) (pv 0) (pv 2) (fun _ _ => rfl)) (pa_cons (pv 2) pa_nil))))) pa_nil))) (blkOk_by (own := [("pair", 1)]) (N := ["loops", "pair", "k"]) (sc := defScope s__law_order) (by decide +kernel)) (fun _ _ _ _ _ => pg_name (i := 1) sc__law_order.nd rfl (.inl rfl)) (fun _ _ _ _ _ => pts_nil) (fun _ _ _ _ _ => (pe_ix (ixTK (K := K) (by rfl)) (pv 1) pe_int (fun _ _ => rfl))))))) ((pss_cons (ps_set (i := 2) sc__law_digits.nd rfl (.inl rfl) (pe_tup pa_nil))
  (pss_cons (ps_set (i := 3) sc__law_digits.nd rfl (.inl rfl) (pv 1))
  (pss_cons (ps_for PassesOwn.never rfl (pi_list (pe_revL (pe_call (ok__law_order T) (hr.mono (by decide)) (by rfl) T.g__law_order T.F__law_order.kp T.b__law_order .nil pass0 (pa_cons (pv 0) pa_nil)))) (pg_name (i := 4) sc__law_digits.nd rfl (.inl rfl))
   (pss_one (ps_if (pt_cmpR op_le (pe_ix ix_tup (pv 0) (pv 4) (fun _ _ => rfl)) (pv 3) (nomark _)) (pss_cons (ps_set (i := 2) sc__law_digits.nd rfl (.inl rfl) (pe_op catU (pe_tup (pa_cons (pv 4) pa_nil)) (pv 2)))
  (pss_one (ps_set (i := 3) sc__law_digits.nd rfl (.inl rfl) (pe_op op_sub (pv 3) (pe_ix ix_tup (pv 0) (pv 4) (fun _ _ => rfl)))))) pss_nil)))
  (pss_one (ps_ret (pv 2))))))) -/
section
variable {P : Program} {w : World} {K : PySem.W.Frag} {mg : Str → Option Value} {base : Heap}
def spTape (K : PySem.W.Frag) : Sp := fun vs H Q _ => ∃ (a : Addr) (ns : List Int), vs = [.ref a] ∧ SqL K H a (ns.map V.int) ∧ ∀ t s H', H t = none → H s = none → Same H H' → Tape H' t s → Q (.ref t) H'
theorem ok__law_tape (T : Tx K mg) : FnOk P w K mg base CX0 1 T.a__law_tape T.d__law_tape ["script"] (spTape K) := by
  refine T.F__law_tape.ok sc__law_tape (fun vs H Q E h => ?_) (fun cdv A outer s H vs Q E hr h => ?_)
  · obtain ⟨a, ns, rfl, _⟩ := h
    rfl
  · obtain ⟨a, ns, rfl, hS, q⟩ := h
    refine ⟨_, ((pss_one (ps_ret (pe_lst (pa_cons (pe_callTy call_list_of (by rfl) T.m_list (by decide +kernel) (pa_cons (pv 0) pa_nil)) (pa_cons pe_int (pa_cons pe_int (pa_cons pe_int (pa_cons pe_int pa_nil))))))))), ?_⟩
    refine ⟨.ref a, rfl, a, _, rfl, .inl hS, fun l nl => ?_⟩
    refine ⟨by show 5 ≤ sizeLine; decide, fun t nt => ?_⟩
    have nlt : l ≠ t := fun e => by
      rw [← e, upd_same] at nt
      cases nt
    have s1 : Same H (upd H l (.lst (ns.map V.int))) := same_upd nl
    refine q t l _ (Same.free s1 nt) nl (s1.trans (same_upd nt)) ⟨ns, 0, 0, 1, 0, nlt, upd_same, ?_, by decide⟩
    rw [upd_ne nlt, upd_same]
def spPick (K : PySem.W.Frag) : Sp := fun vs H Q _ => ∃ (t s : Addr) (n : Int), vs = [.ref t, .int n] ∧ (0 < n ∧ n < 2 ^ 60) ∧ Tape H t s ∧ ∀ r H', 0 ≤ r → r < n → Moved t H H' → Tape H' t s → Q (.int r) H'
theorem fm_of {a b : Int} (h : 0 < b) : 0 ≤ a.fmod b ∧ a.fmod b < b := by
  rw [Int.fmod_eq_emod_of_nonneg a (Int.le_of_lt h)]
  exact ⟨Int.emod_nonneg a (by omega), Int.emod_lt_of_pos a h⟩
theorem ok__law_pick (T : Tx K mg) : FnOk P w K mg base CX0 1 T.a__law_pick T.d__law_pick ["tape", "size"] (spPick K) := by
  refine T.F__law_pick.ok sc__law_pick (fun vs H Q E h => ?_) (fun cdv A outer s H vs Q E hr h => ?_)
  · obtain ⟨t, l, n, rfl, _⟩ := h
    rfl
  · obtain ⟨t, l, n, rfl, ⟨hn, hn2⟩, ⟨ns, pos, rest, mx, ct, hlt, ht, hl, hp⟩, q⟩ := h
    have wd : ∀ i : Int, CDivW i n := fun i => wide_div hn (b := 60) (by omega) (by decide) (by decide)
    refine ⟨_, ((pss_cons (ps_if (pt_cmpR op_gt (pe_ix ix_list (pv 0) pe_int (fun _ _ => rfl)) pe_int (nomark _)) (pss_cons (ps_set (i := 2) sc__law_pick.nd rfl (.inl rfl) (pe_op op_modN (pe_callTy call_int1 (by rfl) T.m_int (by decide +kernel) (pa_cons (pe_ix ix_list (pv 0) pe_int (fun _ _ => rfl)) pa_nil)) (pv 1)))
  (pss_cons (ps_asg (pe_op op_fdivW (pe_ix ix_list (pv 0) pe_int (fun _ _ => rfl)) (pv 1)) (pg_sub (pv 0) pe_int set_list))
  (pss_one (ps_ret (pv 2))))) pss_nil)
  (pss_cons (ps_asg (pe_op op_add (pe_ix ix_list (pv 0) pe_int (fun _ _ => rfl)) pe_int) (pg_sub (pv 0) pe_int set_list))
  (pss_cons (ps_set (i := 3) sc__law_pick.nd rfl (.inl rfl) pe_int)
  (Evl.pss_cut (ps_if (pt_cmpR op_lt (pe_ix ix_list (pv 0) pe_int (fun _ _ => rfl)) (pe_callB call_len_seq (by rfl) T.m_len PySem.boot_len (pa_cons (pe_ix ix_list (pv 0) pe_int (fun _ _ => rfl)) pa_nil)) (nomark _)) (pss_cons (ps_set (i := 3) sc__law_pick.nd rfl (.inl rfl) (pe_ix ix_list (pe_ix ix_list (pv 0) pe_int (fun _ _ => rfl)) (pe_ix ix_list (pv 0) pe_int (fun _ _ => rfl)) (fun _ _ => rfl)))
  (pss_one (ps_asg (pe_op op_add (pe_ix ix_list (pv 0) pe_int (fun _ _ => rfl)) pe_int) (pg_sub (pv 0) pe_int set_list)))) pss_nil)
  (pss_cons (ps_if (pt_cmpR op_ge (pv 3) (pe_op op_pow pe_int pe_int) (nomark _)) (pss_cons (ps_asg (pe_op op_fdivW (pv 3) (pv 1)) (pg_sub (pv 0) pe_int set_list))
  (pss_one (ps_ret (pe_op op_modN (pe_callTy call_int1 (by rfl) T.m_int (by decide +kernel) (pa_cons (pv 3) pa_nil)) (pv 1))))) pss_nil)
  (pss_cons (ps_set (i := 4) sc__law_pick.nd rfl (.inl rfl) (pe_op op_modN (pe_callTy call_int1 (by rfl) T.m_int (by decide +kernel) (pa_cons (pe_op op_add (pe_op op_add (pe_op op_mul (pe_ix ix_list (pv 0) pe_int (fun _ _ => rfl)) pe_int) (pe_op op_modN (pe_callTy call_int1 (by rfl) T.m_int (by decide +kernel) (pa_cons (pv 3) pa_nil)) pe_int)) (pe_op op_mul (pe_ix ix_list (pv 0) pe_int (fun _ _ => rfl)) pe_int)) pa_nil)) pe_int))
  (pss_cons (ps_set (i := 4) sc__law_pick.nd rfl (.inl rfl) (pe_op op_modN (pe_callTy call_int1 (by rfl) T.m_int (by decide +kernel) (pa_cons (pe_op op_mul (pv 4) (pe_op op_add (pe_op op_fdivW (pv 4) pe_int) pe_int)) pa_nil)) pe_int))
  (pss_cons (ps_asg (pv 4) (pg_sub (pv 0) pe_int set_list))
  (pss_one (ps_ret (pe_op op_modN (pe_callTy call_int1 (by rfl) T.m_int (by decide +kernel) (pa_cons (pe_op op_fdivW (pv 4) pe_int) pa_nil)) (pv 1))))))))))))), ?_⟩
    -- tape[2] > 1
    refine ⟨.ref t, rfl, t, _, 2, _, rfl, rfl, SqL.of ht, atI_nat (j := 2) rfl, _, _, rfl, rfl, _, rfl, ite2 (fun h1 => ?_) (fun h1 => ?_)⟩
    · -- digit
      refine ⟨.ref t, rfl, t, _, 2, _, rfl, rfl, SqL.of ht, atI_nat (j := 2) rfl, .inl ⟨_, rfl, ?_⟩⟩
      refine ⟨.int n, rfl, _, _, rfl, rfl, by omega, ?_⟩
      -- tape[2] = tape[2] // size
      refine ⟨.ref t, rfl, t, _, 2, _, rfl, rfl, SqL.of ht, atI_nat (j := 2) rfl, .int n, rfl, _, _, rfl, rfl, wd _, ?_⟩
      refine ⟨.ref t, rfl, t, _, 2, 2, rfl, rfl, ht, rfl, ?_⟩
      -- return digit
      refine ⟨_, rfl, ?_⟩
      refine q _ _ (fm_of hn).1 (fm_of hn).2 Moved.upd ⟨ns, pos, _, mx, ct, hlt, upd_same, ?_, hp⟩
      rw [upd_ne hlt]
      exact hl
    · -- tape[4] = tape[4] + 1
      refine ⟨.ref t, rfl, t, _, 4, _, rfl, rfl, SqL.of ht, atI_nat (j := 4) rfl, _, _, rfl, rfl, ?_⟩
      refine ⟨.ref t, rfl, t, _, 4, 4, rfl, rfl, ht, rfl, ?_⟩
      -- cell = 0; the first cut
      refine ⟨fun σ' H1 => ∃ (cell p2 : Int) (σ3 σ4 : Option V), σ' = [some (.ref t), some (.int n), σ3, some (.int cell), σ4] ∧ 0 ≤ p2 ∧ H1 t = some (.lst [.ref l, .int p2, .int rest, .int mx, .int (ct + 1)]) ∧ H1 l = some (.lst (ns.map V.int)) ∧ Moved t H H1, ?_, fun σ' H1 hm => ?_⟩
      · have hl1 : (upd H t (.lst [.ref l, .int pos, .int rest, .int mx, .int (ct + 1)])) l = some (.lst (ns.map V.int)) := by
          rw [upd_ne hlt]
          exact hl
        refine ⟨.ref t, rfl, t, _, 1, _, rfl, rfl, SqL.of upd_same, atI_nat (j := 1) rfl, .ref t, rfl, t, _, 0, _, rfl, rfl, SqL.of upd_same, atI_nat (j := 0) rfl, l, _, rfl, .inl (SqL.of hl1), _, _, rfl, rfl, _, rfl, ite2 (fun h2 => ?_) (fun h2 => ?_)⟩
        · have h3 : pos < ((ns.map V.int).length : Int) := of_decide_eq_true h2
          obtain ⟨j, rfl⟩ : ∃ j : Nat, pos = (j : Int) := ⟨pos.toNat, by omega⟩
          have hj : j < ns.length := by
            rw [List.length_map] at h3
            omega
          have gj : (ns.map V.int)[j]? = some (.int ns[j]) := by
            rw [List.getElem?_map, List.getElem?_eq_getElem hj]
            rfl
          -- cell = tape[0][tape[1]]
          refine ⟨.ref t, rfl, t, _, 0, _, rfl, rfl, SqL.of upd_same, atI_nat (j := 0) rfl, .ref t, rfl, t, _, 1, _, rfl, rfl, SqL.of upd_same, atI_nat (j := 1) rfl, l, _, _, _, rfl, rfl, SqL.of hl1, atI_nat gj, ?_⟩
          -- tape[1] = tape[1] + 1
          refine ⟨.ref t, rfl, t, _, 1, _, rfl, rfl, SqL.of upd_same, atI_nat (j := 1) rfl, _, _, rfl, rfl, ?_⟩
          refine ⟨.ref t, rfl, t, _, 1, 1, rfl, rfl, upd_same, rfl, ?_⟩
          rw [upd_upd]
          exact ⟨_, _, _, _, rfl, by omega, upd_same, (by rw [upd_ne hlt]; exact hl), Moved.upd⟩
        · exact ⟨_, _, _, _, rfl, hp, upd_same, hl1, Moved.upd⟩
      · obtain ⟨cell, p2, σ3, σ4, rfl, hp2, ht1, hl1, mv⟩ := hm
        -- cell >= 10 ** 18
        refine ⟨.int cell, rfl, 10, 18, rfl, rfl, ⟨by decide, by decide, by decide⟩, _, _, rfl, rfl, _, rfl, ite2 (fun h2 => ?_) (fun h2 => ?_)⟩
        · refine ⟨.int cell, rfl, .int n, rfl, _, _, rfl, rfl, wd _, .ref t, rfl, t, _, 2, 2, rfl, rfl, ht1, rfl, ?_⟩
          refine ⟨.int cell, rfl, .inl ⟨_, rfl, .int n, rfl, _, _, rfl, rfl, by omega, ?_⟩⟩
          refine q _ _ (fm_of hn).1 (fm_of hn).2 (mv.trans Moved.upd) ⟨ns, p2, _, mx, _, hlt, upd_same, ?_, hp2⟩
          rw [upd_ne hlt]
          exact hl1
        · -- mixed = ..
          refine ⟨.ref t, rfl, t, _, 3, _, rfl, rfl, SqL.of ht1, atI_nat (j := 3) rfl, _, _, rfl, rfl, .inr ⟨by decide, by decide⟩, ?_⟩
          refine ⟨.int cell, rfl, .inl ⟨_, rfl, _, _, rfl, rfl, (by show (2147483629 : Int) ≠ 0; decide), _, _, rfl, rfl, ?_⟩⟩
          refine ⟨.ref t, rfl, t, _, 4, _, rfl, rfl, SqL.of ht1, atI_nat (j := 4) rfl, _, _, rfl, rfl, .inr ⟨by decide, by decide⟩, _, _, rfl, rfl, ?_⟩
          refine .inl ⟨_, rfl, _, _, rfl, rfl, (by show (2147483647 : Int) ≠ 0; decide), ?_⟩
          have bm := fm_of (a := mx * 48271 + cell.fmod 2147483629 + (ct + 1) * 69621) (b := 2147483647) (by decide)
          -- mixed = int(mixed * ..) % ..
          refine ⟨_, rfl, _, rfl, _, _, rfl, rfl, ⟨by decide, by decide⟩, _, _, rfl, rfl, _, _, rfl, rfl, .inl ⟨Int.lt_of_lt_of_le (by decide) bm.1, Int.lt_trans bm.2 (by decide)⟩, .inl ⟨_, rfl, _, _, rfl, rfl, (by show (2147483399 : Int) ≠ 0; decide), ?_⟩⟩
          -- tape[3] = mixed
          refine ⟨_, rfl, .ref t, rfl, t, _, 3, 3, rfl, rfl, ht1, rfl, ?_⟩
          refine ⟨_, rfl, _, _, rfl, rfl, ⟨by decide, by decide⟩, .inl ⟨_, rfl, .int n, rfl, _, _, rfl, rfl, by omega, ?_⟩⟩
          refine q _ _ (fm_of hn).1 (fm_of hn).2 (mv.trans Moved.upd) ⟨ns, p2, _, _, _, hlt, upd_same, ?_, hp2⟩
          rw [upd_ne hlt]
          exact hl1
end

section
variable {P : Program} {w : World} {K : PySem.W.Frag} {mg : Str → Option Value} {base : Heap}
def spIsInt (K : PySem.W.Frag) : Sp := fun vs H Q _ => ∃ i : Int, vs = [.int i] ∧ Q (.bl true) H
theorem ok_is_integer (T : Tx K mg) : FnOk P w K mg base CX0 1 T.a_is_integer T.d_is_integer ["thing"] (spIsInt K) := by
  refine T.F_is_integer.ok sc_is_integer (fun vs H Q E h => ?_) (fun cdv A outer s H vs Q E hr h => ?_)
  · obtain ⟨i, rfl, _⟩ := h
    rfl
  · obtain ⟨i, rfl, q⟩ := h
    refine ⟨_, ((pss_one (ps_ret (pe_and (pe_callB call_isi (by rfl) T.m_isinstance (by decide +kernel) (pa_cons (pv 0) (pa_cons (pe_bltn (v := .ty "int") (by rfl) T.m_int (by decide +kernel) rfl) pa_nil))) (pe_one (pe_not (pe_callB call_isi (by rfl) T.m_isinstance (by decide +kernel) (pa_cons (pv 0) (pa_cons (pe_bltn (v := .ty "bool") (by rfl) T.m_bool (by decide +kernel) rfl) pa_nil))))))))), ?_⟩
    refine ⟨.int i, rfl, .int i, .ty "int", _, _, true, rfl, .ty _, .base (.int i), kit_ty (by decide +kernel), true, rfl, iteT ?_⟩
    refine ⟨.int i, rfl, .int i, .ty "bool", _, _, false, rfl, .ty _, .base (.int i), kit_ty (by decide +kernel), false, rfl, ?_⟩
    exact q
def spIsNum (K : PySem.W.Frag) : Sp := fun vs H Q _ => ∃ i a b : Int, vs = [.int i, .int a, .int b] ∧ Q (.bl (decide (a ≤ i) && decide (i ≤ b))) H
theorem ok_is_number (T : Tx K mg) : FnOk P w K mg base CX0 2 T.a_is_number T.d_is_number ["thing", "least", "most"] (spIsNum K) := by
  refine T.F_is_number.ok sc_is_number (fun vs H Q E h => ?_) (fun cdv A outer s H vs Q E hr h => ?_)
  · obtain ⟨i, a, b, rfl, _⟩ := h
    rfl
  · obtain ⟨i, a, b, rfl, q⟩ := h
    refine ⟨_, ((pss_one (ps_ret (pe_and (pe_call (ok_is_integer T) (hr.mono (by decide)) (by rfl) T.g_is_integer T.F_is_integer.kp T.b_is_integer .nil pass0 (pa_cons (pv 0) pa_nil)) (pe_one (pe_chain op_le op_le (pv 1) (pv 0) (pv 2))))))), ?_⟩
    refine ⟨.int i, rfl, i, rfl, true, rfl, iteT ?_⟩
    refine ⟨.int a, rfl, .int i, rfl, a, i, rfl, rfl, _, rfl, ?_⟩
    by_cases h : a ≤ i
    · rw [decide_eq_true h] at q ⊢
      refine iteT ⟨.int b, rfl, i, b, rfl, rfl, ?_⟩
      exact q
    · rw [decide_eq_false h] at q ⊢
      exact iteF q
def spAreNums (K : PySem.W.Frag) : Sp := fun vs H Q _ => ∃ (a : Addr) (ns : List Int) (lo hi : Int), vs = [.ref a, .int lo, .int hi] ∧ SqT K H a (ns.map V.int) ∧ ns.length ≤ 1000 ∧
  ∀ H', Same H H' → Q (.bl (ns.all fun n => decide (lo ≤ n) && decide (n ≤ hi))) H'
theorem ok_are_numbers (T : Tx K mg) : FnOk P w K mg base CX0 3 T.a_are_numbers T.d_are_numbers ["things", "least", "most"] (spAreNums K) := by
  refine T.F_are_numbers.ok sc_are_numbers (fun vs H Q E h => ?_) (fun cdv A outer s H vs Q E hr h => ?_)
  · obtain ⟨a, ns, lo, hi, rfl, _⟩ := h
    rfl
  · obtain ⟨a, ns, lo, hi, rfl, hT, hlen, q⟩ := h
    refine ⟨_, ((pss_one (ps_ret (pe_callB (cr_all rfl) (by rfl) T.m_all (by decide +kernel) (pa_cons (pe_lc (own := [("thing", 3)]) (g := (gName 3)) (tt := tYes) rfl sc_are_numbers.nd (pi_tup (pv 0)) (blkOk_by (own := [("thing", 3)]) (N := ["things", "least", "most", "thing"]) (sc := defScope s_are_numbers) (by decide +kernel)) (fun _ _ _ _ _ => pg_name (i := 3) sc_are_numbers.nd rfl (.inl rfl)) (fun _ _ _ _ _ => pts_nil) (fun _ _ _ _ _ => (pe_call (ok_is_number T) (hr.mono (by decide)) (by rfl) T.g_is_number T.F_is_number.kp T.b_is_number .nil pass0 (pa_cons (pv 3) (pa_cons (pv 1) (pa_cons (pv 2) pa_nil)))))) pa_nil))))), ?_⟩
    refine ⟨.ref a, rfl, a, rfl, ⟨_, hT⟩, fun D hD => lc_tup (K := K) (a := a) (xs := ns.map V.int)
      (fun i H' => Same H H' ∧ H D = none ∧ H' D = some (.lst (((ns.take i).map fun n => decide (lo ≤ n) && decide (n ≤ hi)).map V.bl)))
      ⟨same_upd hD, hD, upd_same⟩ (fun i H' _ p => sT p.1 hT) (fun i x H' hx p => ?_) (fun H' p => ?_)⟩
    · obtain ⟨sm, nD, eD⟩ := p
      rw [List.getElem?_map] at hx
      obtain ⟨n, hn, rfl⟩ := Option.map_eq_some_iff.mp hx
      refine ⟨rfl, ?_⟩
      refine ⟨.int n, rfl, .int lo, rfl, .int hi, rfl, n, lo, hi, rfl, ?_⟩
      have hi' : i < ns.length := (List.getElem?_eq_some_iff.mp hn).1
      refine ⟨_, eD, ?_, ?_⟩
      · rw [List.length_map, List.length_map, List.length_take]
        exact small1000 (by omega)
      · refine ⟨fun b o e => ?_, nD, ?_⟩
        · rw [upd_ne (ne_of_none e nD)]
          exact sm b o e
        · rw [upd_same, List.take_add_one, hn, List.map_append, List.map_append]
          rfl
    · obtain ⟨sm, nD, eD⟩ := p
      rw [List.length_map, List.take_of_length_le (Nat.le_refl _)] at eD
      refine ⟨D, _, rfl, SqL.of eD, ?_⟩
      have e2 : ((ns.map fun n => decide (lo ≤ n) && decide (n ≤ hi)).all id) = ns.all fun n => decide (lo ≤ n) && decide (n ≤ hi) := by
        rw [List.all_map]
        rfl
      rw [e2]
      exact q H' sm
end

section
variable {P : Program} {w : World} {K : PySem.W.Frag} {mg : Str → Option Value} {base : Heap}
theorem good_all {ns : List Int} (g : Rch.Good ns) : (ns.all fun n => decide (1 ≤ n) && decide (n ≤ 40)) = true := by
  rw [List.all_eq_true]
  intro n hn
  have := g.2.2 n hn
  rw [Bool.and_eq_true]
  exact ⟨decide_eq_true this.1, decide_eq_true this.2⟩
def spIsLoops (K : PySem.W.Frag) : Sp := fun vs H Q _ => ∃ (a : Addr) (ns : List Int), vs = [.ref a] ∧ SqT K H a (ns.map V.int) ∧ Rch.Good ns ∧ ∀ H', Same H H' → Q (.bl true) H'
theorem ok_is_loops (T : Tx K mg) : FnOk P w K mg base CX0 4 T.a_is_loops T.d_is_loops ["thing"] (spIsLoops K) := by
  refine T.F_is_loops.ok sc_is_loops (fun vs H Q E h => ?_) (fun cdv A outer s H vs Q E hr h => ?_)
  · obtain ⟨a, ns, rfl, _⟩ := h
    rfl
  · obtain ⟨a, ns, rfl, hT, g, q⟩ := h
    refine ⟨_, ((pss_one (ps_ret (pe_and (pe_callB call_isi (by rfl) T.m_isinstance (by decide +kernel) (pa_cons (pv 0) (pa_cons (pe_bltn (v := .ty "tuple") (by rfl) T.m_tuple (by decide +kernel) rfl) pa_nil))) (pe_and (pe_chain op_le op_le pe_int (pe_callB call_len_seq (by rfl) T.m_len PySem.boot_len (pa_cons (pv 0) pa_nil)) (pe_glob (v := .int 8) rfl T.g_MOST_LOOPS ⟨_, rfl⟩)) (pe_one (pe_call (ok_are_numbers T) (hr.mono (by decide)) (by rfl) T.g_are_numbers T.F_are_numbers.kp T.b_are_numbers .nil pass0 (pa_cons (pv 0) (pa_cons pe_int (pa_cons (pe_glob (v := .int 40) rfl T.g_MOST_LENGTH ⟨_, rfl⟩) pa_nil)))))))))), ?_⟩
    refine ⟨.ref a, rfl, .ref a, .ty "tuple", _, _, true, rfl, .ty _, tyTup hT, kit_ty (by decide +kernel), true, rfl, iteT ?_⟩
    have g1 := g.1
    have g2 := g.2.1
    refine ⟨.ref a, rfl, a, _, rfl, .inr hT, 1, _, rfl, rfl, true, ?_, iteT ⟨_, 8, rfl, rfl, true, ?_, iteT ?_⟩⟩
    · show V.bl (decide ((1 : Int) ≤ ((ns.map V.int).length : Int))) = V.bl true
      rw [List.length_map, decide_eq_true (by omega)]
    · show V.bl (decide (((ns.map V.int).length : Int) ≤ (8 : Int))) = V.bl true
      rw [List.length_map, decide_eq_true (by omega)]
    · refine ⟨.ref a, rfl, a, ns, 1, 40, rfl, hT, by omega, fun H' sm => ?_⟩
      have e := good_all g
      rw [e]
      exact q H' sm
end


/-! ### check_loops -/
section
variable {P : Program} {w : World} {K : PySem.W.Frag} {mg : Str → Option Value} {base : Heap}
def spChkLoops (K : PySem.W.Frag) : Sp := fun vs H Q _ => ∃ (a : Addr) (ns : List Int), vs = [.ref a] ∧ SqT K H a (ns.map V.int) ∧ Rch.Good ns ∧ ∀ H', Same H H' → Q .non H'
theorem ok_check_loops (T : Tx K mg) : FnOk P w K mg base CX0 5 T.a_check_loops T.d_check_loops ["thing"] (spChkLoops K) := by
  refine T.F_check_loops.ok sc_check_loops (fun vs H Q E h => ?_) (fun cdv A outer s H vs Q E hr h => ?_)
  · obtain ⟨a, ns, rfl, _⟩ := h
    rfl
  · obtain ⟨a, ns, rfl, hT, g, q⟩ := h
    refine ⟨_, ((pss_one (ps_if (pt_not (pt_val (pe_call (ok_is_loops T) (hr.mono (by decide)) (by rfl) T.g_is_loops T.F_is_loops.kp T.b_is_loops .nil pass0 (pa_cons (pv 0) pa_nil)))) (pss_one ps_never) pss_nil))), ?_⟩
    refine ⟨.ref a, rfl, a, ns, rfl, hT, g, fun H' sm => ⟨true, rfl, iteF ?_⟩⟩
    exact q H' sm
end

theorem cut1 (xs : List V) : cutV xs (some 1) none = xs.drop 1 := by
  unfold cutV
  rw [show HT.sIx xs.length 0 (some 1) = min 1 xs.length from HT.sIx_nat xs.length 0 1, HT.sIx_none]
  cases xs with
  | nil => rfl
  | cons x r =>
    rw [show min 1 (x :: r).length = 1 by
      rw [List.length_cons]
      omega]
    show (List.take ((x :: r).length - 1) r) = r
    rw [List.length_cons, Nat.add_sub_cancel]
    exact List.take_length

/-! ### doubling: the program's judge -/
section
variable {P : Program} {w : World} {K : PySem.W.Frag} {mg : Str → Option Value} {base : Heap}
theorem all_chB : ∀ (r : List Int) (p : Int) (bs : List Bool), bs.length = r.length → (∀ k, k < r.length → bs[k]? = some (decide ((p :: r).getD (k + 1) 0 ≤ 2 * (p :: r).getD k 0))) → bs.all id = Db.chB p r
  | [], p, bs, hl, _ => by
    rw [List.length_eq_zero_iff.mp hl]
    rfl
  | l :: r, p, bs, hl, h => by
    cases bs with
    | nil => cases hl
    | cons b bs =>
      have h0 := h 0 (by rw [List.length_cons]; omega)
      have e0 : b = decide (l ≤ 2 * p) := Option.some.inj h0
      have ih := all_chB r l bs (by simpa using hl) (fun k hk => by
        have := h (k + 1) (by rw [List.length_cons]; omega)
        rw [List.getElem?_cons_succ] at this
        exact this)
      show (id b && bs.all id) = (decide (l ≤ 2 * p) && Db.chB l r)
      rw [ih, e0]
      rfl
def spDoubling (K : PySem.W.Frag) : Sp := fun vs H Q _ => ∃ (a : Addr) (ns : List Int), vs = [.ref a] ∧ SqT K H a (ns.map V.int) ∧ Rch.Good ns ∧ ∀ H', Same H H' → Q (.bl (Db.dbl ns)) H'
theorem ok_doubling (T : Tx K mg) : FnOk P w K mg base CX0 6 T.a_doubling T.d_doubling ["loops"] (spDoubling K) := by
  refine T.F_doubling.ok sc_doubling (fun vs H Q E h => ?_) (fun cdv A outer s H vs Q E hr h => ?_)
  · obtain ⟨a, ns, rfl, _⟩ := h
    rfl
  · obtain ⟨a, ns, rfl, hT, g, q⟩ := h
    refine ⟨_, ((pss_cons (ps_expr (pe_call (ok_check_loops T) (hr.mono (by decide)) (by rfl) T.g_check_loops T.F_check_loops.kp T.b_check_loops .nil pass0 (pa_cons (pv 0) pa_nil)))
  (pss_cons (ps_set (i := 1) sc_doubling.nd rfl (.inl rfl) (pe_callB RR.cr_sortedU (by rfl) T.m_sorted (by decide +kernel) (pa_cons (pv 0) pa_nil)))
  (pss_one (ps_ret (pe_and (pe_cmpR op_eq (pe_ix ix_list (pv 1) pe_int (fun _ _ => rfl)) pe_int (nomark _)) (pe_one (pe_callB (cr_all rfl) (by rfl) T.m_all (by decide +kernel) (pa_cons (pe_lc (own := [("less", 2), ("more", 3)]) (g := (gTup K 2 (gCons (gName 2) (gCons (gName 3) gNil)))) (tt := tYes) rfl sc_doubling.nd (pi_zip (by rfl) T.m_zip (pa_cons (pv 1) (pa_cons (pe_slice sl_list (pv 1) (po_some pe_int) po_none) pa_nil))) (blkOk_by (own := [("less", 2), ("more", 3)]) (N := ["loops", "ascending", "less", "more"]) (sc := defScope s_doubling) (by decide +kernel)) (fun _ _ _ _ _ => pg_tup rfl (pgs_cons (pg_name (i := 2) sc_doubling.nd rfl (.inl rfl)) (pgs_cons (pg_name (i := 3) sc_doubling.nd rfl (.inl rfl)) pgs_nil))) (fun _ _ _ _ _ => pts_nil) (fun _ _ _ _ _ => (pe_cmpR op_le (pv 3) (pe_op op_mul pe_int (pv 2)) (nomark _)))) pa_nil))))))))), ?_⟩
    refine ⟨.ref a, rfl, a, ns, rfl, hT, g, fun H1 s1 => ?_⟩
    refine ⟨.ref a, rfl, a, ns, rfl, sT s1 hT, fun ns' p pm so np => ?_⟩
    have e' := Rch.isort_of pm so
    have g' : Rch.Good ns' := g.perm pm
    have ed : Db.dbl ns = Db.isD ns' := by
      rw [e']
      rfl
    rw [ed] at q
    clear ed e'
    have s2 : Same H (upd H1 p (.lst (ns'.map V.int))) := s1.trans (same_upd np)
    have ep : (upd H1 p (.lst (ns'.map V.int))) p = some (.lst (ns'.map V.int)) := upd_same
    generalize upd H1 p (.lst (ns'.map V.int)) = H2 at *
    have g1 := g'.1
    have g2 := g'.2.1
    obtain ⟨x, r, rfl⟩ : ∃ x r, ns' = x :: r := by
      cases ns' with
      | nil => exact absurd g1 (by decide)
      | cons x r => exact ⟨x, r, rfl⟩
    have bd : ∀ y ∈ x :: r, 1 ≤ y ∧ y ≤ 40 := g'.2.2
    refine ⟨.ref p, rfl, p, _, 0, _, rfl, rfl, SqL.of ep, atI_nat (j := 0) rfl, rfl, _, rfl, ite2 (fun c => ?_) (fun c => ?_)⟩
    · have hx1 : x = 1 := V.int.inj (of_decide_eq_true c)
      subst hx1
      refine ⟨.ref p, rfl, .ref p, rfl, 1, rfl, p, _, rfl, SqL.of ep, fun c nc => ?_⟩
      have ecut : cutV (((1 : Int) :: r).map V.int) (some 1) none = r.map V.int := by
        rw [cut1]
        rfl
      rw [ecut]
      have s3 := same_upd (o := .lst (r.map V.int)) nc
      have ec : (upd H2 c (.lst (r.map V.int))) c = some (.lst (r.map V.int)) := upd_same
      have ep3 := s3 _ _ ep
      have s3' := s2.trans s3
      generalize upd H2 c (.lst (r.map V.int)) = H3 at *
      refine ⟨p, c, _, _, rfl, SqL.of ep3, SqL.of ec, fun D nD => lc_it (walk_zip (n := r.length) (by simp))
        (fun i H' => Same H3 H' ∧ H' D = some (.lst (((List.range i).map fun k => decide (((1 : Int) :: r).getD (k + 1) 0 ≤ 2 * ((1 : Int) :: r).getD k 0)).map V.bl)))
        ⟨same_upd nD, upd_same⟩ (fun i H' hi h => ⟨SqL.of (h.1 _ _ ep3), SqL.of (h.1 _ _ ec)⟩) (fun i v H' H4 hi h y => ?_) (fun H' h => ?_)⟩
      · obtain ⟨X, u, w, rfl, nX, rfl, eu, ew⟩ := y
        obtain ⟨sm, eD⟩ := h
        have hXD : D ≠ X := ne_of_none eD nX
        have eu' : (((1 : Int) :: r).map V.int)[i]? = some u := eu
        have ew' : (r.map V.int)[i]? = some w := ew
        rw [List.getElem?_map] at eu' ew'
        obtain ⟨lo, hlo, rfl⟩ := Option.map_eq_some_iff.mp eu'
        obtain ⟨up, hup, rfl⟩ := Option.map_eq_some_iff.mp ew'
        have b1 := bd lo (List.mem_of_getElem? hlo)
        have e1 : ((1 : Int) :: r).getD i 0 = lo := by
          rw [List.getD_eq_getElem?_getD, hlo]
          rfl
        have e2 : ((1 : Int) :: r).getD (i + 1) 0 = up := by
          rw [List.getD_eq_getElem?_getD, List.getElem?_cons_succ, hup]
          rfl
        refine ⟨X, _, rfl, SqT.of upd_same, rfl, _, [_], rfl, _, [], rfl, rfl, rfl, ?_⟩
        refine ⟨_, rfl, _, rfl, 2, lo, rfl, rfl, .inl ⟨by decide, by decide⟩, up, 2 * lo, rfl, rfl, _, (upd_ne hXD).trans eD, ?_, ?_, ?_⟩
        · rw [List.length_map, List.length_map, List.length_range]
          rw [List.length_cons] at g2
          exact small1000 (by omega)
        · exact (same_put (sm.trans (same_upd nX)) nD)
        · rw [upd_same, List.range_succ, List.map_append, List.map_append, List.map_singleton, List.map_singleton, e1, e2]
      · obtain ⟨sm, eD⟩ := h
        refine ⟨D, _, rfl, SqL.of eD, ?_⟩
        have ea := all_chB r 1 ((List.range r.length).map fun k => decide (((1 : Int) :: r).getD (k + 1) 0 ≤ 2 * ((1 : Int) :: r).getD k 0)) (by simp) (fun k hk => by
          rw [List.getElem?_map, List.getElem?_range hk]
          rfl)
        rw [ea]
        exact q H' (s3'.trans sm)
    · have hx1 : ¬ x = 1 := fun e => c (decide_eq_true (congrArg V.int e))
      have e : Db.isD (x :: r) = false := by
        show (decide (x = 1) && Db.chB x r) = false
        rw [decide_eq_false hx1]
        rfl
      rw [e] at q
      exact q H2 s2
end

/-! ### drawn doubling loops -/
def In40 (ns : List Int) : Prop := ∀ n ∈ ns, 1 ≤ n ∧ n ≤ 40
theorem In40.snoc {ns : List Int} {x : Int} (h : In40 ns) (h1 : 1 ≤ x) (h2 : x ≤ 40) : In40 (ns ++ [x]) := fun n hn => by
  rcases List.mem_append.mp hn with hn | hn
  · exact h n hn
  · rw [List.mem_singleton.mp hn]
    exact ⟨h1, h2⟩
theorem perm_sum {l m : List Int} (p : l.Perm m) : l.sum = m.sum := by
  induction p with
  | nil => rfl
  | cons x _ ih => rw [List.sum_cons, List.sum_cons, ih]
  | swap x y l =>
    rw [List.sum_cons, List.sum_cons, List.sum_cons, List.sum_cons]
    omega
  | trans _ _ h1 h2 => exact h1.trans h2
theorem erase_map (l : List Int) (j : Nat) : (l.map V.int).eraseIdx j = (l.eraseIdx j).map V.int := by
  induction l generalizing j with
  | nil => rfl
  | cons x l ih =>
    cases j with
    | zero => rfl
    | succ j => exact congrArg (V.int x :: ·) (ih j)
theorem seqIx {n j : Nat} (h : j < n) : seqIndex? (j : Int) n = some j := by
  unfold seqIndex?
  simp
  omega
theorem pop_perm (l : List Int) : ∀ {j : Nat} (h : j < l.length), (l[j] :: l.eraseIdx j).Perm l := by
  induction l with
  | nil =>
    intro j h
    exact absurd h (Nat.not_lt_zero _)
  | cons x l ih =>
    intro j h
    cases j with
    | zero => exact .refl _
    | succ j =>
      have hj : j < l.length := by
        rw [List.length_cons] at h
        omega
      show (l[j] :: x :: l.eraseIdx j).Perm (x :: l)
      exact (List.Perm.swap x l[j] _).trans ((ih hj).cons x)
/-- rows that grow by at most the double -/
structure Dbl (row : List Int) (m : Int) : Prop where
  i4 : In40 row
  so : row.Pairwise (· ≤ ·)
  dd : Db.isD row = true
  su : row.sum ≤ m
theorem Dbl.snoc {row : List Int} {m l x0 : Int} (D : Dbl row m) (h1 : 1 ≤ l) (h2 : l ≤ 40) (hm : ∀ x ∈ row, x ≤ l) (hs : row.sum + l ≤ m) (h0 : x0 ∈ row) (hd : l ≤ 2 * x0) : Dbl (row ++ [l]) m := by
  have es : (row ++ [l]).sum = row.sum + l := by
    rw [List.sum_append]
    simp
  refine ⟨D.i4.snoc h1 h2, ?_, Db.isD_snoc D.so D.dd h0 hd, by rw [es]; exact hs⟩
  rw [List.pairwise_append]
  refine ⟨D.so, List.pairwise_singleton _ _, fun x hx y hy => ?_⟩
  rw [List.mem_singleton.mp hy]
  exact hm x hx
section
variable {P : Program} {w : World} {K : PySem.W.Frag} {mg : Str → Option Value} {base : Heap}
/-- doubling loops, in any order -/
def spDoubled3 (K : PySem.W.Frag) : Sp := fun vs H Q _ => ∃ (t s : Addr) (m : Int), vs = [.ref t, .int m] ∧ 1 ≤ m ∧ Tape H t s ∧ ∀ a ns H', Rch.Good ns → Db.dbl ns = true → ns.sum ≤ m → a ≠ t → H a = none → Moved t H H' → Tape H' t s → H' a = some (.tup (ns.map V.int)) → Q (.ref a) H'
theorem ok__law_doubled (T : Tx K mg) : FnOk P w K mg base CX0 2 T.a__law_doubled T.d__law_doubled ["tape", "most"] (spDoubled3 K) := by
  refine T.F__law_doubled.ok sc__law_doubled (fun vs H Q E h => ?_) (fun cdv A outer s H vs Q E hr h => ?_)
  · obtain ⟨t, sc, m, rfl, _⟩ := h
    rfl
  · obtain ⟨t, sc, m, rfl, hm1, tp, q⟩ := h
    refine ⟨_, ((pss_cons (ps_set (i := 2) sc__law_doubled.nd rfl (.inl rfl) (pe_lst (pa_cons pe_int pa_nil)))
  (pss_cons (ps_for PassesOwn.never rfl (pi_range1 (by rfl) T.m_range (pa_cons (pe_call (ok__law_pick T) (hr.mono (by decide)) (by rfl) T.g__law_pick T.F__law_pick.kp T.b__law_pick .nil pass0 (pa_cons (pv 0) (pa_cons pe_int pa_nil))) pa_nil)) (pg_name (i := 3) sc__law_doubled.nd rfl (.inl rfl))
   (pss_cons (ps_set (i := 4) sc__law_doubled.nd rfl (.inl rfl) (pe_op op_add pe_int (pe_call (ok__law_pick T) (hr.mono (by decide)) (by rfl) T.g__law_pick T.F__law_pick.kp T.b__law_pick .nil pass0 (pa_cons (pv 0) (pa_cons (pe_op op_mul pe_int (pe_callB (cr_max rfl) (by rfl) T.m_max (by decide +kernel) (pa_cons (pv 2) pa_nil))) pa_nil)))))
  (pss_one (ps_if (PW.pt (pw_and (pt_cmpR op_ge (pv 4) (pe_callB (cr_max rfl) (by rfl) T.m_max (by decide +kernel) (pa_cons (pv 2) pa_nil)) (nomark _)) (pw_and (pt_cmpR op_le (pe_op op_add (pe_callB (cr_sum rfl) (by rfl) T.m_sum (by decide +kernel) (pa_cons (pv 2) pa_nil)) (pv 4)) (pv 1) (nomark _)) (pw_and1 (pt_cmpR op_le (pv 4) pe_int (nomark _)))))) (pss_one (ps_expr (pe_bm PySem.F.plainAttrs_list PySem.F.slot_list_append PySem.F.type_list_append mt_append (pv 2) (pa_cons (pv 4) pa_nil)))) pss_nil))))
  (pss_cons (ps_set (i := 5) sc__law_doubled.nd rfl (.inl rfl) (pe_lst pa_nil))
  (pss_cons (ps_for PassesOwn.never rfl (pi_range1 (by rfl) T.m_range (pa_cons (pe_callB call_len_seq (by rfl) T.m_len PySem.boot_len (pa_cons (pv 2) pa_nil)) pa_nil)) (pg_name (i := 3) sc__law_doubled.nd rfl (.inl rfl))
   (pss_one (ps_expr (pe_bm PySem.F.plainAttrs_list PySem.F.slot_list_append PySem.F.type_list_append mt_append (pv 5) (pa_cons (pe_bm PySem.F.plainAttrs_list PySem.F.slot_list_pop PySem.F.type_list_pop mt_popAt (pv 2) (pa_cons (pe_call (ok__law_pick T) (hr.mono (by decide)) (by rfl) T.g__law_pick T.F__law_pick.kp T.b__law_pick .nil pass0 (pa_cons (pv 0) (pa_cons (pe_callB call_len_seq (by rfl) T.m_len PySem.boot_len (pa_cons (pv 2) pa_nil)) pa_nil))) pa_nil)) pa_nil)))))
  (pss_one (ps_ret (pe_callTy call_tuple_of (by rfl) T.m_tuple (by decide +kernel) (pa_cons (pv 5) pa_nil))))))))), ?_⟩
    refine ⟨by show 1 ≤ sizeLine; decide, fun r nr => ?_⟩
    have hrt : r ≠ t := tp.ne nr
    have hrs : r ≠ sc := tp.ne2 nr
    have tp0 : Tape (upd H r (.lst [.int 1])) t sc := tp.keep (same_upd nr)
    have mv0 : Moved t H (upd H r (.lst [.int 1])) := Moved.same (same_upd nr)
    refine ⟨.ref t, rfl, t, sc, 8, rfl, ⟨by decide, by decide⟩, tp0, fun k H1 hk0 hk8 mv1 tp1 => ?_⟩
    have e1 : H1 r = some (.lst ([1].map V.int)) := mv1 r _ hrt upd_same
    have D1 : Dbl [1] m := ⟨fun n hn => by rw [List.mem_singleton.mp hn]; decide, List.pairwise_singleton _ _, rfl, by simpa using hm1⟩
    refine ⟨k, rfl, by omega, by omega, for_range (lo := 0) (n := k.toNat)
      (fun i σ H' => ∃ (y3 y4 y5 : Option V) (row : List Int), σ = [some (.ref t), some (.int m), some (.ref r), y3, y4, y5] ∧ H' r = some (.lst (row.map V.int)) ∧ Dbl row m ∧ 1 ≤ row.length ∧ row.length ≤ 1 + i ∧ (∀ b o, b ≠ t → b ≠ r → H b = some o → H' b = some o) ∧ Tape H' t sc)
      ⟨_, _, _, [1], rfl, e1, D1, Nat.le_refl _, Nat.le_refl _, fun b o n1 n2 e => mv1 b o n1 (mv0 b o n1 e), tp1⟩ (fun i σ H' hi h => ?_) (fun σ H' h => ?_)⟩
    · obtain ⟨y3, y4, y5, row, rfl, er, db, l1, l2, kp, tp'⟩ := h
      refine ⟨.ref t, rfl, .ref r, rfl, r, row, rfl, SqL.of er, by omega, fun mx hm _ => ?_⟩
      have bm := db.i4 mx hm
      refine ⟨2, mx, rfl, rfl, .inl ⟨by decide, by decide⟩, t, sc, 2 * mx, rfl, ⟨by omega, by omega⟩, tp', fun d H2 hd0 hd1 mv2 tp2 => ?_⟩
      have er2 : H2 r = some (.lst (row.map V.int)) := mv2 r _ hrt er
      have kp2 : ∀ b o, b ≠ t → b ≠ r → H b = some o → H2 b = some o := fun b o n1 n2 e => mv2 b o n1 (kp b o n1 n2 e)
      refine ⟨1, d, rfl, rfl, ?_⟩
      refine ⟨_, rfl, .ref r, rfl, r, row, rfl, SqL.of er2, by omega, fun m2 _ hm2 => ⟨_, _, rfl, rfl, _, rfl, ite2 (fun c1 => ?_) (fun c1 => ?_)⟩⟩
      · have c1' : 1 + d ≥ m2 := of_decide_eq_true c1
        refine ⟨.ref r, rfl, r, row, rfl, SqL.of er2, _, rfl, _, _, rfl, rfl, _, rfl, _, _, rfl, rfl, _, rfl, ite2 (fun c2 => ?_) (fun c2 => ?_)⟩
        · have c2' : row.sum + (1 + d) ≤ m := of_decide_eq_true c2
          refine ⟨_, rfl, _, _, rfl, rfl, _, rfl, ?_⟩
          by_cases c3 : 1 + d ≤ 40
          · rw [decide_eq_true c3]
            refine ⟨.ref r, rfl, .inl ⟨rfl, _, SqL.of er2⟩, _, rfl, r, _, _, rfl, rfl, er2, ?_, ?_⟩
            · rw [List.length_map]
              exact small1000 (by omega)
            · refine ⟨_, _, _, row ++ [1 + d], rfl, ?_, db.snoc (by omega) c3 (fun x hx => Int.le_trans (hm2 x hx) c1') c2' hm (by omega), ?_, ?_, fun b o n1 n2 e => ?_, tp2.but hrt hrs⟩
              · rw [upd_same, List.map_append]
                rfl
              · rw [List.length_append]
                omega
              · rw [List.length_append]
                show row.length + 1 ≤ _
                omega
              · rw [upd_ne n2]
                exact kp2 b o n1 n2 e
          · rw [decide_eq_false c3]
            exact ⟨_, _, _, row, rfl, er2, db, l1, by omega, kp2, tp2⟩
        · exact ⟨_, _, _, row, rfl, er2, db, l1, by omega, kp2, tp2⟩
      · exact ⟨_, _, _, row, rfl, er2, db, l1, by omega, kp2, tp2⟩
    · obtain ⟨y3, y4, y5, row, rfl, er, db, l1, l2, kp, tp'⟩ := h
      have l8 : row.length ≤ 8 := by omega
      refine ⟨Nat.zero_le _, fun f nf => ?_⟩
      have hfr : f ≠ r := fun e => by
        rw [e, er] at nf
        cases nf
      have hft : f ≠ t := tp'.ne nf
      have hfs : f ≠ sc := tp'.ne2 nf
      have er1 : (upd H' f (.lst [])) r = some (.lst (row.map V.int)) := by
        rw [upd_ne hfr.symm]
        exact er
      refine ⟨.ref r, rfl, r, _, rfl, .inl (SqL.of er1), _, rfl, by omega, by rw [List.length_map]; omega, for_range (lo := 0) (n := (((row.map V.int).length : Nat) : Int).toNat)
        (fun i σ H' => ∃ (y3 y4 : Option V) (row' fs : List Int), σ = [some (.ref t), some (.int m), some (.ref r), y3, y4, some (.ref f)] ∧ H' r = some (.lst (row'.map V.int)) ∧ H' f = some (.lst (fs.map V.int)) ∧ (fs ++ row').Perm row ∧ fs.length = i ∧ row'.length + i = row.length ∧ (∀ b o, b ≠ t → b ≠ r → b ≠ f → H b = some o → H' b = some o) ∧ Tape H' t sc)
        ⟨_, _, row, [], rfl, er1, upd_same, .refl _, rfl, rfl, fun b o n1 n2 n3 e => ?_, tp'.keep (same_upd nf)⟩ (fun i σ H2 hi h => ?_) (fun σ H2 h => ?_)⟩
      · rw [upd_ne n3]
        exact kp b o n1 n2 e
      · obtain ⟨y3, y4, row', fs, rfl, e1, e2, pm, z1, z2, kp2, tp2⟩ := h
        rw [Int.toNat_natCast, List.length_map] at hi
        have hpos : 0 < row'.length := by omega
        refine ⟨.ref f, rfl, .inl ⟨rfl, _, SqL.of e2⟩, .ref r, rfl, .inl ⟨rfl, _, SqL.of e1⟩, .ref t, rfl, .ref r, rfl, r, _, rfl, .inl (SqL.of e1), t, sc, _, rfl, ⟨?_, ?_⟩, tp2, fun k H3 hk0 hk1 mv3 tp3 => ?_⟩
        · rw [List.length_map]
          omega
        · rw [List.length_map]
          omega
        · rw [List.length_map] at hk1
          have e3 : H3 r = some (.lst (row'.map V.int)) := mv3 r _ hrt e1
          have e4 : H3 f = some (.lst (fs.map V.int)) := mv3 f _ hft e2
          obtain ⟨j, rfl⟩ : ∃ j : Nat, k = (j : Int) := ⟨k.toNat, by omega⟩
          have hj : j < row'.length := by omega
          have gj : (row'.map V.int)[j]? = some (.int row'[j]) := by
            rw [List.getElem?_map, List.getElem?_eq_getElem hj]
            rfl
          refine ⟨r, _, (j : Int), j, _, rfl, rfl, e3, by omega, by omega, ?_, gj, ?_⟩
          · rw [List.length_map]
            exact seqIx hj
          have e5 : (upd H3 r (.lst ((row'.map V.int).eraseIdx j))) f = some (.lst (fs.map V.int)) := by
            rw [upd_ne hfr]
            exact e4
          refine ⟨f, _, _, rfl, rfl, e5, ?_, ?_⟩
          · rw [List.length_map]
            exact small1000 (by omega)
          · refine ⟨_, _, row'.eraseIdx j, fs ++ [row'[j]], rfl, ?_, ?_, ?_, ?_, ?_, fun b o n1 n2 n3 e => ?_, ?_⟩
            · rw [upd_ne hfr.symm, upd_same, erase_map]
            · rw [upd_same, List.map_append]
              rfl
            · rw [List.append_assoc]
              exact ((pop_perm row' hj).append_left fs).trans pm
            · rw [List.length_append, z1]
              rfl
            · rw [List.length_eraseIdx_of_lt hj]
              omega
            · rw [upd_ne n3, upd_ne n2]
              exact mv3 b o n1 (kp2 b o n1 n2 n3 e)
            · exact (tp3.but hrt hrs).but hft hfs
      · obtain ⟨y3, y4, row', fs, rfl, e1, e2, pm, z1, z2, kp2, tp2⟩ := h
        rw [Int.toNat_natCast, List.length_map] at z1 z2
        have er' : row' = [] := List.length_eq_zero_iff.mp (by omega)
        rw [er', List.append_nil] at pm
        refine ⟨.ref f, rfl, f, _, rfl, .inl ⟨SqL.of e2, fun p np => ?_⟩⟩
        have hpt : p ≠ t := tp2.ne np
        have hpr : p ≠ r := fun e => by
          rw [e, e1] at np
          cases np
        have hpf : p ≠ f := fun e => by
          rw [e, e2] at np
          cases np
        have hHp : H p = none := by
          cases z : H p with
          | none => rfl
          | some o =>
            rw [kp2 p o hpt hpr hpf z] at np
            cases np
        have ei : Rch.isort fs = row := (Rch.isort_of pm.symm db.so).symm
        have esum : fs.sum = row.sum := perm_sum pm
        refine q p fs _ ⟨by omega, by omega, fun n hn => db.i4 n (pm.mem_iff.mp hn)⟩ (by show Db.isD (Rch.isort fs) = true; rw [ei]; exact db.dd) (by rw [esum]; exact db.su) hpt hHp (fun b o n1 e => ?_) (tp2.keep (same_upd np)) upd_same
        have nb1 : b ≠ p := ne_of_none e hHp
        have nb2 : b ≠ r := ne_of_none e nr
        have nb3 : b ≠ f := fun z => by
          subst z
          rw [kp b o n1 nb2 e] at nf
          cases nf
        rw [upd_ne nb1]
        exact kp2 b o n1 nb2 nb3 e
end

/-! ### digits -/
section
variable {P : Program} {w : World} {K : PySem.W.Frag} {mg : Str → Option Value} {base : Heap}
open LS13 LamX
def tabsOf (T : Tx K mg) : List (Addr × Str) := [(T.P_ordered, (("ordered" : Str) ++ ".<locals>.") ++ "<lambda>")]
abbrev TBo (T : Tx K mg) (base : Heap) : Prop := TabB base mg T.k_ordered T.P_ordered
def spOrdered (T : Tx K mg) : Sp := fun vs H Q _ => ∃ (a : Addr) (ls os : List Int), vs = [.ref a] ∧ SqT K H a (ls.map V.int) ∧ ls.length ≤ 1000 ∧ Dg.Ord ls os ∧ Tabs (tabsOf T) H ∧
  ∀ p H', H p = none → ExtN H H' → Tabs (tabsOf T) H' → H' p = some (.lst (os.map V.int)) → Q (.ref p) H'
theorem ok_ordered (T : Tx K mg) (TB : TBo T base) : FnOk P w K mg base CX0 3 T.a_ordered T.d_ordered ["loops"] (spOrdered T) := by
  refine T.C_ordered.ok sc_ordered (fun vs H Q E h => ?_) (fun A outer s H vs Q E hr h => ?_)
  · obtain ⟨a, ls, os, rfl, _⟩ := h
    rfl
  · obtain ⟨a, ls, os, rfl, hT, hz, hO, hTb, q⟩ := h
    refine ⟨_, ((pss_one (ps_ret (LS13.pe_sortLam (T := tabsOf T) (i0 := 0) (k := 0) (pe_callB call_len_seq (by rfl) T.m_len PySem.boot_len (pa_cons (pv 0) pa_nil)) (by rfl) T.m_sorted (by rfl) T.m_range rfl TB rfl (List.Mem.head _) (fun p hp _ => by rw [List.mem_singleton.mp hp]; rfl) (hr.mono (by decide)) rfl rfl ⟨rfl, rfl, rfl, rfl⟩ (by decide) rfl (fun _ _ _ _ _ _ => rfl))))), ?_⟩
    refine ⟨.ref a, rfl, a, _, rfl, .inr hT, a, ls, by rw [List.length_map], rfl, hT, hz, hTb, fun os' p H2 pe pw np eN T2 ep => ?_⟩
    obtain rfl := Dg.Ord.uniq ⟨pe, pw⟩ hO
    exact q p H2 np eN T2 ep
theorem Tape.ext {t s : Addr} {H H' : Hp} (h : Tape H t s) (e : ExtN H H') : Tape H' t s := by
  obtain ⟨ns, a, b, c, d, h1, h2, h3, h4⟩ := h
  exact ⟨ns, a, b, c, d, h1, e _ _ h2 (fun _ z => by cases z), e _ _ h3 (fun _ z => by cases z), h4⟩
theorem ext_same {H H' : Hp} (e : Same H H') : ExtN H H' := ExtN.of e
theorem ext_upd {H : Hp} {p : Addr} {o : HO} (np : H p = none) : ExtN H (upd H p o) := ExtN.of fun b o' e => by
  rw [upd_ne (ne_of_none e np)]
  exact e
theorem tabs_moved {T : Tx K mg} {t s : Addr} {H H' : Hp} (h : Tabs (tabsOf T) H) (tp : Tape H t s) (m : Moved t H H') (e : ∀ c q, H c = some (CodeO c q) → c ≠ t) : Tabs (tabsOf T) H' := fun p hp => by
  obtain ⟨ps, h1, h2, h3⟩ := h p hp
  have nt : p.1 ≠ t := fun z => by
    obtain ⟨_, _, _, _, _, _, e2, _⟩ := tp
    rw [z, e2] at h1
    cases h1
  refine ⟨ps, m _ _ nt h1, h2, fun pos cv hc => ?_⟩
  obtain ⟨c, e1, e2⟩ := h3 pos cv hc
  exact ⟨c, e1, m _ _ (e c _ e2) e2⟩
theorem codeO_t {t s : Addr} {H : Hp} (tp : Tape H t s) : ∀ c q, H c = some (CodeO c q) → c ≠ t := fun c q h z => by
  obtain ⟨_, _, _, _, _, _, e2, _⟩ := tp
  rw [z, e2] at h
  unfold CodeO at h
  cases h
/-- a draw leaves the tables -/
theorem tabs_mv {T : Tx K mg} {t s : Addr} {H H' : Hp} (h : Tabs (tabsOf T) H) (tp : Tape H t s) (m : Moved t H H') : Tabs (tabsOf T) H' := tabs_moved h tp m (codeO_t tp)
theorem tabs_but {T : Tx K mg} {F : Addr} {xs : List V} {H H' : Hp} (h : Tabs (tabsOf T) H) (eF : H F = some (.lst xs)) (m : ∀ x o, x ≠ F → H x = some o → H' x = some o) : Tabs (tabsOf T) H' := fun p hp => by
  obtain ⟨ps, h1, h2, h3⟩ := h p hp
  refine ⟨ps, m _ _ (fun z => by rw [z, eF] at h1; cases h1) h1, h2, fun pos cv hc => ?_⟩
  obtain ⟨c, e1, e2⟩ := h3 pos cv hc
  exact ⟨c, e1, m _ _ (fun z => by
    rw [z, eF] at e2
    unfold CodeO at e2
    cases e2) e2⟩
def spTaken (T : Tx K mg) : Sp := fun vs H Q _ => ∃ (a : Addr) (ls os : List Int) (w : Int), vs = [.ref a, .int w] ∧ SqT K H a (ls.map V.int) ∧ ls.length ≤ 1000 ∧ Dg.Ord ls os ∧ Tabs (tabsOf T) H ∧
  ∀ p H', ExtN H H' → Tabs (tabsOf T) H' → H' p = some (.tup ((Dg.row ls os w).map V.int)) → Q (.ref p) H'
theorem ok_taken (T : Tx K mg) (TB : TBo T base) : FnOk P w K mg base CX0 4 T.a_taken T.d_taken ["loops", "wait"] (spTaken T) := by
  refine T.F_taken.ok sc_taken (fun vs H Q E h => ?_) (fun cdv A outer s H vs Q E hr h => ?_)
  · obtain ⟨a, ls, os, w, rfl, _⟩ := h
    rfl
  · obtain ⟨a, ls, os, w, rfl, hT, hz, hO, hTb, q⟩ := h
    refine ⟨_, ((pss_cons (ps_set (i := 2) sc_taken.nd rfl (.inl rfl) (pe_lst pa_nil))
  (pss_cons (ps_set (i := 3) sc_taken.nd rfl (.inl rfl) (pv 1))
  (pss_cons (ps_for PassesOwn.never rfl (pi_reversed (by rfl) T.m_reversed (pa_cons (pe_call (ok_ordered T TB) (hr.mono (by decide)) (by rfl) T.g_ordered T.F_ordered.kp T.b_ordered .nil pass0 (pa_cons (pv 0) pa_nil)) pa_nil)) (pg_name (i := 4) sc_taken.nd rfl (.inl rfl))
   (pss_one (ps_if (pt_cmpR op_le (pe_ix ix_tup (pv 0) (pv 4) (fun _ _ => rfl)) (pv 3) (nomark _)) (pss_cons (ps_expr (pe_bm PySem.F.plainAttrs_list PySem.F.slot_list_append PySem.F.type_list_append mt_append (pv 2) (pa_cons (pv 4) pa_nil)))
  (pss_one (ps_aug (i := 3) sc_taken.nd rfl (.inl rfl) (pe_ix ix_tup (pv 0) (pv 4) (fun _ _ => rfl)) ip_sub))) pss_nil)))
  (pss_one (ps_ret (pe_callTy call_tuple_of (by rfl) T.m_tuple (by decide +kernel) (pa_cons (pe_revL (pv 2)) pa_nil)))))))), ?_⟩
    refine ⟨Nat.zero_le _, fun F nF => ?_⟩
    have sF := same_upd (o := .lst []) nF
    have eF : upd H F (.lst []) F = some (.lst []) := upd_same
    generalize upd H F (.lst []) = H1 at *
    refine ⟨.int w, rfl, .ref a, rfl, a, ls, os, rfl, sT sF hT, hz, hO, hTb.ext sF, fun p H2 np eN T2 ep => ?_⟩
    have eF2 := eN _ _ eF (fun _ z => by cases z)
    have hTp := sT_ext (sT sF hT) eN
    have el : (os.map V.int).length = os.length := List.length_map _
    have pF : p ≠ F := ne_of_none eF np |>.symm
    refine ⟨p, os.map V.int, rfl, SqL.of ep, for_it (walk_rev (K := K) (a := p) (xs := os.map V.int))
      (fun i σ H' => ∃ (y4 : Option V), σ = [some (.ref a), some (.int w), some (.ref F), some (.int (w - ((Dg.tk ls (os.reverse.take i) w).map (Dg.at_ ls)).sum)), y4] ∧ (∀ x o, x ≠ F → H2 x = some o → H' x = some o) ∧ H' F = some (.lst ((Dg.tk ls (os.reverse.take i) w).map V.int)))
      ⟨_, by rw [show w - ((Dg.tk ls (os.reverse.take 0) w).map (Dg.at_ ls)).sum = w from Int.sub_zero w]; rfl, fun _ _ _ z => z, eF2⟩ (fun i σ H' hi h => ?_) (fun i x σ H3 H' hi h y => ?_) (fun σ H' h => ?_)⟩
    · obtain ⟨_, _, kp, _⟩ := h
      exact SqL.of (kp _ _ pF ep)
    · obtain ⟨y4, rfl, kp, eF3⟩ := h
      obtain ⟨eH3, hx⟩ := y
      cases eH3
      have hx : (os.map V.int)[(os.map V.int).length - 1 - i]? = some x := hx
      rw [el] at hx hi
      rw [List.getElem?_map] at hx
      obtain ⟨o, ho, rfl⟩ := Option.map_eq_some_iff.mp hx
      have hr2 : os.reverse[i]? = some o := by
        rw [List.getElem?_reverse hi]
        exact ho
      have et : os.reverse.take (i + 1) = os.reverse.take i ++ [o] := by rw [List.take_add_one, hr2]; rfl
      have hm := hO.mem (List.mem_of_getElem? ho)
      have hTp' : SqT K H3 a (ls.map V.int) := by
        rcases hTp with (h | ⟨o', h⟩) | h
        · exact .inl (.inl (kp _ _ (fun z => by rw [z, eF2] at h; cases h) h))
        · exact .inl (.inr ⟨o', kp _ _ (fun z => by rw [z, eF2] at h; cases h) h⟩)
        · exact .inr h
      obtain ⟨f, hf⟩ : ∃ f, f = Dg.tk ls (os.reverse.take i) w := ⟨_, rfl⟩
      rw [← hf] at eF3
      have e1 : Dg.tk ls (os.reverse.take (i + 1)) w = f ++ Dg.tk ls [o] (w - (f.map (Dg.at_ ls)).sum) := by rw [et, Dg.tk_app, ← hf]
      have fl : f.length ≤ 1000 := by
        have := (Dg.tk_sub ls (os.reverse.take i) w).length_le
        rw [← hf, List.length_take] at this
        have := hO.len
        omega
      have hat : atI (ls.map V.int) o = some (.int (Dg.at_ ls o)) := atI_of hm.1 (by
        have : o.toNat < ls.length := by omega
        unfold Dg.at_
        rw [List.getElem?_map, List.getD_eq_getElem?_getD, List.getElem?_eq_getElem this]
        rfl)
      have e2 : w - ((Dg.tk ls (os.reverse.take (i + 1)) w).map (Dg.at_ ls)).sum = w - (f.map (Dg.at_ ls)).sum - ((Dg.tk ls [o] (w - (f.map (Dg.at_ ls)).sum)).map (Dg.at_ ls)).sum := by
        rw [e1, List.map_append, List.sum_append]
        omega
      rw [e2, e1, ← hf]
      generalize w - (f.map (Dg.at_ ls)).sum = l at *
      refine ⟨.ref a, rfl, .int o, rfl, a, _, o, .int (Dg.at_ ls o), rfl, rfl, hTp', hat, .int l, rfl, _, _, rfl, rfl, _, rfl, ite2 (fun c => ?_) (fun c => ?_)⟩
      · have c' := of_decide_eq_true c
        have e3 : Dg.tk ls [o] l = [o] := if_pos c'
        rw [e3]
        refine ⟨.ref F, rfl, .inl ⟨rfl, _, SqL.of eF3⟩, .int o, rfl, F, _, _, rfl, rfl, eF3, small1000 (by rw [List.length_map]; omega), ?_⟩
        have hT4 : SqT K (upd H3 F (.lst (f.map V.int ++ [V.int o]))) a (ls.map V.int) := by
          rcases hTp' with (h | ⟨o', h⟩) | h
          · exact .inl (.inl (by rw [upd_ne (fun z => by rw [z, eF3] at h; cases h)]; exact h))
          · exact .inl (.inr ⟨o', by rw [upd_ne (fun z => by rw [z, eF3] at h; cases h)]; exact h⟩)
          · exact .inr h
        refine ⟨.int l, rfl, .ref a, rfl, .int o, rfl, a, _, o, .int (Dg.at_ ls o), rfl, rfl, hT4, hat, _, _, rfl, rfl, some (.int o), ?_, fun x o' n e => ?_, ?_⟩
        · show _ = [some (V.ref a), some (V.int w), some (V.ref F), some (V.int (l - (Dg.at_ ls o + 0))), some (V.int o)]
          rw [Int.add_zero]
          rfl
        · rw [upd_ne n]
          exact kp x o' n e
        · rw [upd_same, List.map_append]
          rfl
      · have c' : ¬ Dg.at_ ls o ≤ l := fun z => c (decide_eq_true z)
        have e3 : Dg.tk ls [o] l = [] := if_neg c'
        rw [e3]
        refine ⟨some (.int o), ?_, kp, by rw [List.append_nil]; exact eF3⟩
        show _ = [some (V.ref a), some (V.int w), some (V.ref F), some (V.int (l - 0)), some (V.int o)]
        rw [Int.sub_zero]
        rfl
    · obtain ⟨y4, rfl, kp, eF3⟩ := h
      rw [el, ← List.length_reverse, List.take_length] at eF3
      refine ⟨.ref F, rfl, F, _, rfl, SqL.of eF3, fun R nR => ?_⟩
      refine ⟨R, _, rfl, .inl ⟨SqL.of upd_same, fun Z nZ => ?_⟩⟩
      rw [← List.map_reverse] at nZ ⊢
      have eH' : ExtN H H' := fun b o e n => kp b o (ne_of_none e nF) (eN b o (sF b o e) n)
      have tH' := tabs_but T2 eF2 kp
      refine q Z _ ((eH'.trans (ext_upd nR)).trans (ext_upd nZ)) ((tH'.ext (same_upd nR)).ext (same_upd nZ)) upd_same
def spChkDbl (K : PySem.W.Frag) : Sp := fun vs H Q _ => ∃ (a : Addr) (ns : List Int), vs = [.ref a] ∧ SqT K H a (ns.map V.int) ∧ Rch.Good ns ∧ Db.dbl ns = true ∧ ∀ H', Same H H' → Q .non H'
theorem ok_check_doubling (T : Tx K mg) : FnOk P w K mg base CX0 7 T.a_check_doubling T.d_check_doubling ["loops"] (spChkDbl K) := by
  refine T.F_check_doubling.ok sc_check_doubling (fun vs H Q E h => ?_) (fun cdv A outer s H vs Q E hr h => ?_)
  · obtain ⟨a, ns, rfl, _⟩ := h
    rfl
  · obtain ⟨a, ns, rfl, hT, g, d, q⟩ := h
    refine ⟨_, ((pss_one (ps_if (pt_not (pt_val (pe_call (ok_doubling T) (hr.mono (by decide)) (by rfl) T.g_doubling T.F_doubling.kp T.b_doubling .nil pass0 (pa_cons (pv 0) pa_nil)))) (pss_one ps_never) pss_nil))), ?_⟩
    refine ⟨.ref a, rfl, a, ns, rfl, hT, g, fun H' sm => ⟨true, by rw [d], iteF ?_⟩⟩
    exact q H' sm
def spDigits (T : Tx K mg) : Sp := fun vs H Q _ => ∃ (a : Addr) (ls os : List Int) (w : Int), vs = [.ref a, .int w] ∧ SqT K H a (ls.map V.int) ∧ Rch.Good ls ∧ Db.dbl ls = true ∧ Dg.Ord ls os ∧ 1 ≤ w ∧ w ≤ ls.sum ∧ Tabs (tabsOf T) H ∧
  ∀ p H', ExtN H H' → Tabs (tabsOf T) H' → H' p = some (.tup ((Dg.row ls os w).map V.int)) → Q (.ref p) H'
theorem ok_digits (T : Tx K mg) (TB : TBo T base) : FnOk P w K mg base CX0 8 T.a_digits T.d_digits ["loops", "wait"] (spDigits T) := by
  refine T.F_digits.ok sc_digits (fun vs H Q E h => ?_) (fun cdv A outer s H vs Q E hr h => ?_)
  · obtain ⟨a, ls, os, w, rfl, _⟩ := h
    rfl
  · obtain ⟨a, ls, os, w, rfl, hT, g, d, hO, w1, w2, hTb, q⟩ := h
    refine ⟨_, ((pss_cons (ps_expr (pe_call (ok_check_doubling T) (hr.mono (by decide)) (by rfl) T.g_check_doubling T.F_check_doubling.kp T.b_check_doubling .nil pass0 (pa_cons (pv 0) pa_nil)))
  (pss_cons (ps_if (pt_not (pt_val (pe_call (ok_is_number T) (hr.mono (by decide)) (by rfl) T.g_is_number T.F_is_number.kp T.b_is_number .nil pass0 (pa_cons (pv 1) (pa_cons pe_int (pa_cons (pe_callB (cr_sumT rfl) (by rfl) T.m_sum (by decide +kernel) (pa_cons (pv 0) pa_nil)) pa_nil)))))) (pss_one ps_never) pss_nil)
  (pss_one (ps_ret (pe_call (ok_taken T TB) (hr.mono (by decide)) (by rfl) T.g_taken T.F_taken.kp T.b_taken .nil pass0 (pa_cons (pv 0) (pa_cons (pv 1) pa_nil)))))))), ?_⟩
    refine ⟨.ref a, rfl, a, ls, rfl, hT, g, d, fun H1 s1 => ?_⟩
    refine ⟨.int w, rfl, .ref a, rfl, a, ls, rfl, sT s1 hT, w, 1, ls.sum, rfl, true, ?_, iteF ?_⟩
    · rw [decide_eq_true w1, decide_eq_true w2]
      rfl
    have g2 := g.2.1
    exact ⟨.ref a, rfl, .int w, rfl, a, ls, os, w, rfl, sT s1 hT, by omega, hO, hTb.ext s1, fun p H' eN t ep => q p H' ((ExtN.of s1).trans eN) t ep⟩
end

/-! ### t + u as one thing -/
def rCatU (K : PySem.W.Frag) : R2 := fun x y H Q => ∃ a b xs ys, x = .ref a ∧ y = .ref b ∧ SqT K H a xs ∧ SqT K H b ys ∧ xs.length + ys.length ≤ sizeLine ∧ ∀ p H', Same H H' → SqT K H' p (xs ++ ys) → Q (.ref p) H'
theorem catU {X : Cx} : OpR X (binaryOp .Add) (rCatU X.K) := by
  intro pins s σ H x y v u Q I rx ry h
  obtain ⟨a, b, xs, ys, rfl, rfl, ha, hb, hz, q⟩ := h
  refine op_catA pins s σ H _ _ v u Q I rx ry ⟨a, b, xs, ys, rfl, rfl, ha, hb, hz, fun e => ?_, fun _ e => ?_, fun _ _ p np => ?_⟩
  · subst e
    exact q b H (fun _ _ h => h) hb
  · subst e
    refine q a H (fun _ _ h => h) ?_
    rw [List.append_nil]
    exact ha
  · exact q p _ (same_upd np) (SqT.of upd_same)

/-! ### the law's own order and digits -/
section
variable {P : Program} {w : World} {K : PySem.W.Frag} {mg : Str → Option Value} {base : Heap}
open LS13 LamX
def pr (ls : List Int) (k : Int) : List Int := [Dg.at_ ls k, k]
theorem ord_of {ls : List Int} (g : ∀ x ∈ ls, 0 ≤ x ∧ x < 1000) (hl : ls.length < 1000) {rs : List (List Int)} (pm : rs.Perm ((rgI ls.length).map (pr ls))) (pw : rs.Pairwise fun x y => TS.code 1000 x ≤ TS.code 1000 y) : Dg.Ord ls (rs.map fun r => r.getD 1 0) := by
  have shape : ∀ r ∈ rs, ∃ k : Int, r = pr ls k ∧ 0 ≤ k ∧ k < ls.length := fun r hr => by
    obtain ⟨k, hk, rfl⟩ := List.mem_map.mp (pm.mem_iff.mp hr)
    unfold rgI at hk
    obtain ⟨i, hi, rfl⟩ := List.mem_map.mp hk
    have := List.mem_range.mp hi
    exact ⟨_, rfl, by omega, by omega⟩
  have atb : ∀ k : Int, 0 ≤ k → k < ls.length → 0 ≤ Dg.at_ ls k ∧ Dg.at_ ls k < 1000 := fun k h0 h1 => by
    unfold Dg.at_
    rw [List.getD_eq_getElem?_getD, List.getElem?_eq_getElem (show k.toNat < ls.length by omega)]
    exact g _ (List.getElem_mem _)
  refine ⟨?_, ?_⟩
  · have := pm.map (fun r => r.getD 1 0)
    rw [List.map_map] at this
    have e : (rgI ls.length).map ((fun r => r.getD 1 0) ∘ pr ls) = rgI ls.length := by
      refine Eq.trans (List.map_congr_left fun k _ => ?_) (List.map_id _)
      rfl
    rw [e] at this
    exact this
  · rw [List.pairwise_map]
    refine (List.Pairwise.imp_of_mem ?_ pw)
    intro x y hx hy h
    obtain ⟨k, rfl, k0, k1⟩ := shape x hx
    obtain ⟨j, rfl, j0, j1⟩ := shape y hy
    have hk := atb k k0 k1
    have hj := atb j j0 j1
    have e1 : ∀ q : Int, TS.code 1000 (pr ls q) = Dg.at_ ls q * 1000 + q := fun q => by
      show Dg.at_ ls q * 1000 ^ 1 + (q * 1000 ^ 0 + 0) = _
      omega
    rw [e1, e1] at h
    show Dg.at_ ls k < Dg.at_ ls j ∨ (Dg.at_ ls k = Dg.at_ ls j ∧ k ≤ j)
    omega
def spLOrder (K : PySem.W.Frag) : Sp := fun vs H Q _ => ∃ (a : Addr) (ls os : List Int), vs = [.ref a] ∧ SqT K H a (ls.map V.int) ∧ Rch.Good ls ∧ Dg.Ord ls os ∧ ∀ p H', H p = none → Same H H' → H' p = some (.lst (os.map V.int)) → Q (.ref p) H'
theorem ok__law_order (T : Tx K mg) : FnOk P w K mg base CX0 1 T.a__law_order T.d__law_order ["loops"] (spLOrder K) := by
  refine T.F__law_order.ok sc__law_order (fun vs H Q E h => ?_) (fun cdv A outer s H vs Q E hr h => ?_)
  · obtain ⟨a, ls, os, rfl, _⟩ := h
    rfl
  · obtain ⟨a, ls, os, rfl, hT, g, hO, q⟩ := h
    refine ⟨_, ((pss_one (ps_ret (pe_lc (own := [("pair", 1)]) (g := (gName 1)) (tt := tYes) rfl sc__law_order.nd (pi_list (pe_callB (cr_sortC (B := 1000) (d := 2) (by decide)) (by rfl) T.m_sorted (by decide +kernel) (pa_cons (pe_lc (own := [("k", 2)]) (g := (gName 2)) (tt := tYes) rfl sc__law_order.nd (pi_range1 (by rfl) T.m_range (pa_cons (pe_callB call_len_seq (by rfl) T.m_len PySem.boot_len (pa_cons (pv 0) pa_nil)) pa_nil)) (blkOk_by (own := [("k", 2)]) (N := ["loops", "pair", "k"]) (sc := defScope s__law_order) (by decide +kernel)) (fun _ _ _ _ _ => pg_name (i := 2) sc__law_order.nd rfl (.inl rfl)) (fun _ _ _ _ _ => pts_nil) (fun _ _ _ _ _ => (pe_tup (pa_cons (pe_ix (ixTK (K := K) (by rfl)) (pv 0) (pv 2) (fun _ _ => rfl)) (pa_cons (pv 2) pa_nil))))) pa_nil))) (blkOk_by (own := [("pair", 1)]) (N := ["loops", "pair", "k"]) (sc := defScope s__law_order) (by decide +kernel)) (fun _ _ _ _ _ => pg_name (i := 1) sc__law_order.nd rfl (.inl rfl)) (fun _ _ _ _ _ => pts_nil) (fun _ _ _ _ _ => (pe_ix (ixTK (K := K) (by rfl)) (pv 1) pe_int (fun _ _ => rfl))))))), ?_⟩
    have g2 := g.2.1
    refine ⟨.ref a, rfl, a, _, rfl, .inr hT, _, rfl, by rw [List.length_map]; omega, by rw [List.length_map]; omega, fun D nD => lc_range (lo := 0) (n := ((((ls.map V.int).length : Nat) : Int)).toNat)
      (fun i H' => ∃ qs : List Addr, Same H H' ∧ H' D = some (.lst (qs.map V.ref)) ∧ Tups fI H' qs (((rgI ls.length).take i).map (pr ls)))
      ⟨[], same_upd nD, upd_same, .nil⟩ (fun i H' hi p => ?_) (fun H' p => ?_)⟩
    · obtain ⟨qs, sm, eD, tq⟩ := p
      rw [List.length_map] at hi
      have hi' : i < ls.length := by omega
      have hat : atI (ls.map V.int) (0 + (i : Int)) = some (.int (Dg.at_ ls (i : Int))) := atI_of (by omega) (by
        unfold Dg.at_
        rw [show ((0 : Int) + (i : Int)).toNat = i by omega, Int.toNat_natCast, List.getElem?_map, List.getD_eq_getElem?_getD, List.getElem?_eq_getElem hi']
        rfl)
      refine ⟨rfl, .ref a, rfl, .int _, rfl, a, _, _, .int (Dg.at_ ls (i : Int)), rfl, rfl, sT sm hT, hat, .int (0 + (i : Int)), rfl, by show 2 ≤ sizeLine; decide, fun c nc => ?_⟩
      have s2 := same_upd (o := .tup [V.int (Dg.at_ ls (i : Int)), .int (0 + (i : Int))]) nc
      refine ⟨_, s2 _ _ eD, ?_, qs ++ [c], same_put (sm.trans s2) nD, by rw [upd_same, List.map_append]; rfl, ?_⟩
      · rw [List.length_map, tq.length, List.length_map, List.length_take]
        exact small1000 (by omega)
      · have ht : (rgI ls.length)[i]? = some (i : Int) := by
          unfold rgI
          rw [List.getElem?_map, List.getElem?_range hi']
          rfl
        rw [take_snoc ht, List.map_append]
        refine ((tq.new nc).snoc (x := pr ls (i : Int)) ?_).put (s2 _ _ eD)
        rw [upd_same, Int.zero_add]
        rfl
    · obtain ⟨qs, sm, eD, tq⟩ := p
      have et : (rgI ls.length).take ((((ls.map V.int).length : Nat) : Int)).toNat = rgI ls.length := by
        rw [List.length_map, Int.toNat_natCast]
        exact List.take_of_length_le (by rw [Dg.rgI_len]; exact Nat.le_refl _)
      rw [et] at tq
      have g40 : ∀ x ∈ ls, 0 ≤ x ∧ x < 1000 := fun x hx => by
        have := g.2.2 x hx
        omega
      refine ⟨D, qs, _, rfl, SqL.of eD, tq, fun r hr => ?_, fun ps' rs' p tps pm pw np => ?_⟩
      · obtain ⟨k, hk, rfl⟩ := List.mem_map.mp hr
        unfold rgI at hk
        obtain ⟨i, hi, rfl⟩ := List.mem_map.mp hk
        have hi := List.mem_range.mp hi
        refine ⟨rfl, fun m hm => ?_⟩
        rcases List.mem_cons.mp hm with rfl | hm
        · unfold Dg.at_
          rw [Int.toNat_natCast, List.getD_eq_getElem?_getD, List.getElem?_eq_getElem hi]
          exact g40 _ (List.getElem_mem _)
        · rw [List.mem_singleton.mp hm]
          omega
      · have hO' := ord_of g40 (by omega) pm pw
        have eos : rs'.map (fun r => r.getD 1 0) = os := hO'.uniq hO
        have lr : rs'.length = ls.length := by
          have := congrArg List.length eos
          rw [List.length_map] at this
          exact this.trans hO.len
        have sp := same_upd (o := .lst (ps'.map V.ref)) np
        have ep : (upd H' p (.lst (ps'.map V.ref))) p = some (.lst (ps'.map V.ref)) := upd_same
        have tp2 := tps.same sp
        have s2 := sm.trans sp
        generalize upd H' p (.lst (ps'.map V.ref)) = H2 at *
        refine ⟨p, rfl, ⟨_, SqL.of ep⟩, fun D2 nD2 => lc_list (K := K) (a := p) (xs := ps'.map V.ref)
          (fun i H' => Same H2 H' ∧ H' D2 = some (.lst (((rs'.take i).map fun r => r.getD 1 0).map V.int)))
          ⟨same_upd nD2, upd_same⟩ (fun i H' _ p => SqL.of (p.1 _ _ ep)) (fun i z H' hz p => ?_) (fun HD p => ?_)⟩
        · obtain ⟨sm3, eD2⟩ := p
          obtain ⟨r, x, rfl, hx, er⟩ := tp2.get hz
          have hsh : ∃ k, x = pr ls k := by
            obtain ⟨k, _, rfl⟩ := List.mem_map.mp (pm.mem_iff.mp (List.mem_of_getElem? hx))
            exact ⟨k, rfl⟩
          obtain ⟨k, rfl⟩ := hsh
          refine ⟨rfl, .ref r, rfl, r, _, 1, .int k, rfl, rfl, SqT.of (sm3 _ _ er), atI_nat (j := 1) rfl, ?_⟩
          refine ⟨_, eD2, ?_, same_put sm3 nD2, ?_⟩
          · rw [List.length_map, List.length_map, List.length_take]
            exact small1000 (by omega)
          · rw [upd_same, take_snoc hx, List.map_append, List.map_append]
            rfl
        · obtain ⟨sm3, eD2⟩ := p
          have lp : (ps'.map V.ref).length = rs'.length := by rw [List.length_map, tp2.length]
          rw [lp, List.take_length, eos] at eD2
          have nH : H D2 = none := by
            cases z : H D2 with
            | none => rfl
            | some o =>
              rw [s2 _ _ z] at nD2
              cases nD2
          exact q D2 HD nH (s2.trans sm3) eD2
def spLDigits (K : PySem.W.Frag) : Sp := fun vs H Q _ => ∃ (a : Addr) (ls os : List Int) (w : Int), vs = [.ref a, .int w] ∧ SqT K H a (ls.map V.int) ∧ Rch.Good ls ∧ Dg.Ord ls os ∧ ∀ p H', Same H H' → SqT K H' p ((Dg.row ls os w).map V.int) → Q (.ref p) H'
theorem ok__law_digits (T : Tx K mg) : FnOk P w K mg base CX0 2 T.a__law_digits T.d__law_digits ["loops", "wait"] (spLDigits K) := by
  refine T.F__law_digits.ok sc__law_digits (fun vs H Q E h => ?_) (fun cdv A outer s H vs Q E hr h => ?_)
  · obtain ⟨a, ls, os, w, rfl, _⟩ := h
    rfl
  · obtain ⟨a, ls, os, w, rfl, hT, g, hO, q⟩ := h
    refine ⟨_, ((pss_cons (ps_set (i := 2) sc__law_digits.nd rfl (.inl rfl) (pe_tup pa_nil))
  (pss_cons (ps_set (i := 3) sc__law_digits.nd rfl (.inl rfl) (pv 1))
  (pss_cons (ps_for PassesOwn.never rfl (pi_list (pe_revL (pe_call (ok__law_order T) (hr.mono (by decide)) (by rfl) T.g__law_order T.F__law_order.kp T.b__law_order .nil pass0 (pa_cons (pv 0) pa_nil)))) (pg_name (i := 4) sc__law_digits.nd rfl (.inl rfl))
   (pss_one (ps_if (pt_cmpR op_le (pe_ix ix_tup (pv 0) (pv 4) (fun _ _ => rfl)) (pv 3) (nomark _)) (pss_cons (ps_set (i := 2) sc__law_digits.nd rfl (.inl rfl) (pe_op catU (pe_tup (pa_cons (pv 4) pa_nil)) (pv 2)))
  (pss_one (ps_set (i := 3) sc__law_digits.nd rfl (.inl rfl) (pe_op op_sub (pv 3) (pe_ix ix_tup (pv 0) (pv 4) (fun _ _ => rfl)))))) pss_nil)))
  (pss_one (ps_ret (pv 2))))))), ?_⟩
    have g2 := g.2.1
    refine ⟨Nat.zero_le _, fun u nu => ?_⟩
    have su := same_upd (o := .tup []) nu
    have eu : upd H u (.tup []) u = some (.tup []) := upd_same
    generalize upd H u (.tup []) = H1 at *
    refine ⟨.int w, rfl, .ref a, rfl, a, ls, os, rfl, sT su hT, g, hO, fun p H2 np s2 ep => ⟨p, _, rfl, SqL.of ep, fun R nR => ?_⟩⟩
    have sR := same_upd (o := .lst (os.map V.int).reverse) nR
    have eR : upd H2 R (.lst (os.map V.int).reverse) R = some (.lst (os.map V.int).reverse) := upd_same
    have s3 := (su.trans s2).trans sR
    have eu3 := sR _ _ (s2 _ _ eu)
    generalize upd H2 R (.lst (os.map V.int).reverse) = H3 at *
    rw [← List.map_reverse] at eR
    refine ⟨R, rfl, ⟨_, SqL.of eR⟩, for_list (K := K) (xs := os.reverse.map V.int)
      (fun i σ H' => ∃ (r : Addr) (y4 : Option V), σ = [some (.ref a), some (.int w), some (.ref r), some (.int (w - ((Dg.tk ls (os.reverse.take i) w).map (Dg.at_ ls)).sum)), y4] ∧ Same H3 H' ∧ SqT K H' r ((Dg.tk ls (os.reverse.take i) w).reverse.map V.int))
      ⟨u, _, by rw [show w - ((Dg.tk ls (os.reverse.take 0) w).map (Dg.at_ ls)).sum = w from Int.sub_zero w]; rfl, fun _ _ z => z, SqT.of eu3⟩ (fun i σ H' _ h => ?_) (fun i x σ H' hx h => ?_) (fun σ H' h => ?_)⟩
    · obtain ⟨_, _, _, sm, _⟩ := h
      exact SqL.of (sm _ _ eR)
    · obtain ⟨r, y4, rfl, sm, hr0⟩ := h
      rw [List.getElem?_map] at hx
      obtain ⟨o, ho, rfl⟩ := Option.map_eq_some_iff.mp hx
      have hm := hO.mem (List.mem_reverse.mp (List.mem_of_getElem? ho))
      have et : os.reverse.take (i + 1) = os.reverse.take i ++ [o] := by rw [List.take_add_one, ho]; rfl
      have hTp := sT sm (sT s3 hT)
      obtain ⟨f, hf⟩ : ∃ f, f = Dg.tk ls (os.reverse.take i) w := ⟨_, rfl⟩
      rw [← hf] at hr0
      have fl : f.length ≤ 8 := by
        have := (Dg.tk_sub ls (os.reverse.take i) w).length_le
        rw [← hf, List.length_take] at this
        have := hO.len
        rw [List.length_reverse] at *
        omega
      have e1 : Dg.tk ls (os.reverse.take (i + 1)) w = f ++ Dg.tk ls [o] (w - (f.map (Dg.at_ ls)).sum) := by rw [et, Dg.tk_app, ← hf]
      have e2 : w - ((Dg.tk ls (os.reverse.take (i + 1)) w).map (Dg.at_ ls)).sum = w - (f.map (Dg.at_ ls)).sum - ((Dg.tk ls [o] (w - (f.map (Dg.at_ ls)).sum)).map (Dg.at_ ls)).sum := by
        rw [e1, List.map_append, List.sum_append]
        omega
      have hat : atI (ls.map V.int) o = some (.int (Dg.at_ ls o)) := atI_of hm.1 (by
        have : o.toNat < ls.length := by omega
        unfold Dg.at_
        rw [List.getElem?_map, List.getD_eq_getElem?_getD, List.getElem?_eq_getElem this]
        rfl)
      rw [e2, e1, ← hf]
      generalize w - (f.map (Dg.at_ ls)).sum = l at *
      refine ⟨.ref a, rfl, .int o, rfl, a, _, o, .int (Dg.at_ ls o), rfl, rfl, hTp, hat, .int l, rfl, _, _, rfl, rfl, _, rfl, ite2 (fun c => ?_) (fun c => ?_)⟩
      · have c' := of_decide_eq_true c
        have e3 : Dg.tk ls [o] l = [o] := if_pos c'
        rw [e3]
        refine ⟨.int o, rfl, by show 1 ≤ sizeLine; decide, fun z nz => ?_⟩
        have sz := same_upd (o := .tup [V.int o]) nz
        refine ⟨.ref r, rfl, z, r, _, _, rfl, rfl, SqT.of upd_same, sT sz hr0, ?_, fun p4 H4 s4 hp4 => ?_⟩
        · rw [List.length_map, List.length_reverse]
          show 1 + f.length ≤ 2 ^ 24
          omega
        refine ⟨.int l, rfl, .ref a, rfl, .int o, rfl, a, _, o, .int (Dg.at_ ls o), rfl, rfl, sT s4 (sT sz hTp), hat, _, _, rfl, rfl, p4, some (.int o), ?_, (sm.trans sz).trans s4, ?_⟩
        · show _ = [some (V.ref a), some (V.int w), some (V.ref p4), some (V.int (l - (Dg.at_ ls o + 0))), some (V.int o)]
          rw [Int.add_zero]
          rfl
        · rw [List.reverse_append]
          exact hp4
      · have c' : ¬ Dg.at_ ls o ≤ l := fun z => c (decide_eq_true z)
        have e3 : Dg.tk ls [o] l = [] := if_neg c'
        rw [e3]
        refine ⟨r, some (.int o), ?_, sm, by rw [List.append_nil]; exact hr0⟩
        show _ = [some (V.ref a), some (V.int w), some (V.ref r), some (V.int (l - 0)), some (V.int o)]
        rw [Int.sub_zero]
        rfl
    · obtain ⟨r, y4, rfl, sm, hr0⟩ := h
      rw [List.length_map, List.take_length] at hr0
      exact ⟨.ref r, rfl, q r H' (s3.trans sm) hr0⟩
end

/-! ### the law of digits -/
theorem iteB' {A B : Prop} {b : Bool} (h : b = true) (a : A) : if b = true then A else B := by
  rw [if_pos h]
  exact a
theorem inV_ints (k : Int) : ∀ r : List Int, inV (.int k) (r.map V.int) = decide (k ∈ r)
  | [] => rfl
  | x :: r => by
    show (eqV (.int x) (.int k) || inV (.int k) (r.map V.int)) = _
    rw [inV_ints k r]
    show ((x == k) || decide (k ∈ r)) = _
    by_cases e : x = k
    · subst e
      simp
    · have e' : ¬ k = x := fun z => e z.symm
      rw [beq_false_of_ne e, Bool.false_or]
      exact decide_eq_decide.mpr ⟨fun z => List.mem_cons_of_mem _ z, fun z => (List.mem_cons.mp z).resolve_left e'⟩
theorem sum_nn : ∀ (r : List Int), (∀ y ∈ r, 1 ≤ y) → 0 ≤ r.sum
  | [], _ => Int.le_refl _
  | x :: r, h => by
    have ih := sum_nn r fun y hy => h y (by simp [hy])
    have := h x (by simp)
    rw [List.sum_cons]
    omega
/-- a dict from rows to their sums -/
def SumD (ls : List Int) (kvs : List (List Key × V)) : Prop := ∀ kv ∈ kvs, ∃ r : List Int, kv.1 = r.map Sum.inl ∧ kv.2 = .int (r.map (Dg.at_ ls)).sum
theorem inl_inj : ∀ {a b : List Int}, (a.map Sum.inl : List Key) = b.map Sum.inl → a = b
  | [], [], _ => rfl
  | [], _ :: _, h => by cases h
  | _ :: _, [], h => by cases h
  | x :: a, y :: b, h => by
    injection h with h1 h2
    injection h1 with h1
    rw [h1, inl_inj h2]
theorem SumD.get {ls : List Int} {kvs : List (List Key × V)} (h : SumD ls kvs) {r : List Int} {v : V} (e : valV kvs (r.map Sum.inl) = some v) : v = .int (r.map (Dg.at_ ls)).sum := by
  unfold valV at e
  obtain ⟨kv, h1, rfl⟩ := Option.map_eq_some_iff.mp e
  obtain ⟨r', e1, e2⟩ := h kv (List.mem_of_find?_eq_some h1)
  have := of_decide_eq_true (List.find?_some (p := fun kv : List Key × V => decide (kv.1 = r.map Sum.inl)) h1)
  rw [e1] at this
  rw [e2, inl_inj this]
theorem SumD.put {ls : List Int} {kvs : List (List Key × V)} (h : SumD ls kvs) (r : List Int) : SumD ls (putK kvs (r.map Sum.inl) (.int (r.map (Dg.at_ ls)).sum)) := by
  intro kv hkv
  unfold putK at hkv
  split at hkv
  · obtain ⟨kv0, h0, rfl⟩ := List.mem_map.mp hkv
    by_cases c : kv0.1 = r.map Sum.inl
    · rw [if_pos c]
      exact ⟨r, c, rfl⟩
    · rw [if_neg c]
      exact h kv0 h0
  · rcases List.mem_append.mp hkv with h0 | h0
    · exact h kv h0
    · rw [List.mem_singleton.mp h0]
      exact ⟨r, rfl, rfl⟩
section
variable {P : Program} {w : World} {K : PySem.W.Frag} {mg : Str → Option Value} {base : Heap}
open LS13 LamX
theorem tabs_butO {T : Tx K mg} {F : Addr} {u : HO} {H H' : Hp} (h : Tabs (tabsOf T) H) (eF : H F = some u) (n1 : ∀ ps, u ≠ .tbl ps) (n2 : ∀ φ, u ≠ .ext φ) (m : ∀ x o, x ≠ F → H x = some o → H' x = some o) : Tabs (tabsOf T) H' := fun p hp => by
  obtain ⟨ps, h1, h2, h3⟩ := h p hp
  refine ⟨ps, m _ _ (fun z => by rw [z, eF] at h1; exact n1 _ (Option.some.inj h1)) h1, h2, fun pos cv hc => ?_⟩
  obtain ⟨c, e1, e2⟩ := h3 pos cv hc
  exact ⟨c, e1, m _ _ (fun z => by
    rw [z, eF] at e2
    exact n2 _ (Option.some.inj e2)) e2⟩
def lawLevel : Nat := 9
def spLaw (T : Tx K mg) : Sp := fun vs H Q _ => ∃ (a : Addr) (ns : List Int), vs = [.ref a] ∧ SqL K H a (ns.map V.int) ∧ ns.length ≤ 63 ∧ Tabs (tabsOf T) H ∧ ∀ H', Q (.bl true) H'
theorem ok_law (T : Tx K mg) (TB : TBo T base) : FnOk P w K mg base CX0 9 T.a_law T.d_law ["script"] (spLaw T) := by
  refine T.F_law.ok sc_law (fun vs H Q E h => ?_) (fun cdv A outer s H vs Q E hr h => ?_)
  · obtain ⟨a, ns, rfl, _⟩ := h
    rfl
  · obtain ⟨a, ns0, rfl, hS, hlen, hTb, q⟩ := h
    refine ⟨_, ((pss_cons (ps_set (i := 1) sc_law.nd rfl (.inr rfl) (pe_call (ok__law_tape T) (hr.mono (by decide)) (by rfl) T.g__law_tape T.F__law_tape.kp T.b__law_tape .nil pass0 (pa_cons (pv 0) pa_nil)))
  (pss_cons (ps_for PassesOwn.never rfl (pi_range1 (by rfl) T.m_range (pa_cons pe_int pa_nil)) (pg_name (i := 2) sc_law.nd rfl (.inl rfl))
   (pss_cons (ps_set (i := 3) sc_law.nd rfl (.inr rfl) (pe_call (ok__law_doubled T) (hr.mono (by decide)) (by rfl) T.g__law_doubled T.F__law_doubled.kp T.b__law_doubled .nil pass0 (pa_cons (pv 1) (pa_cons pe_int pa_nil))))
  (pss_cons (ps_set (i := 4) sc_law.nd rfl (.inr rfl) (pe_callB (cr_sumT rfl) (by rfl) T.m_sum (by decide +kernel) (pa_cons (pv 3) pa_nil)))
  (pss_cons (ps_set (i := 5) sc_law.nd rfl (.inl rfl) (pe_call (ok__law_order T) (hr.mono (by decide)) (by rfl) T.g__law_order T.F__law_order.kp T.b__law_order .nil pass0 (pa_cons (pv 3) pa_nil)))
  (pss_cons (ps_set (i := 6) sc_law.nd rfl (.inl rfl) pe_dnewT)
  (pss_one (ps_for PassesOwn.never rfl (pi_list (pe_op op_cat (pe_lst (pa_cons pe_int (pa_cons (pv 4) pa_nil))) (pe_lc (own := [("k", 10)]) (g := (gName 10)) (tt := tYes) rfl sc_law.nd (pi_range1 (by rfl) T.m_range (pa_cons pe_int pa_nil)) (blkOk_by (own := [("k", 10)]) (N := ["script", "tape", "turn", "loops", "total", "order", "seen", "wait", "row", "below", "k"]) (sc := defScope s_law) (by decide +kernel)) (fun _ _ _ _ _ => pg_name (i := 10) sc_law.nd rfl (.inl rfl)) (fun _ _ _ _ _ => pts_nil) (fun _ _ _ _ _ => (pe_op op_add pe_int (pe_call (ok__law_pick T) (hr.mono (by decide)) (by rfl) T.g__law_pick T.F__law_pick.kp T.b__law_pick .nil pass0 (pa_cons (pv 1) (pa_cons (pv 4) pa_nil)))))))) (pg_name (i := 7) sc_law.nd rfl (.inl rfl))
   (pss_cons (ps_set (i := 8) sc_law.nd rfl (.inr rfl) (pe_call (ok_digits T TB) (hr.mono (by decide)) (by rfl) T.g_digits T.F_digits.kp T.b_digits .nil pass0 (pa_cons (pv 3) (pa_cons (pv 7) pa_nil))))
  (pss_cons (ps_if (PW.pt (pw_or (pt_not (pt_val (pe_callB call_isi (by rfl) T.m_isinstance (by decide +kernel) (pa_cons (pv 8) (pa_cons (pe_bltn (v := .ty "tuple") (by rfl) T.m_tuple (by decide +kernel) rfl) pa_nil))))) (pw_or1 (pt_cmpR (op_neD hr.units) (pv 8) (pe_call (ok__law_digits T) (hr.mono (by decide)) (by rfl) T.g__law_digits T.F__law_digits.kp T.b__law_digits .nil pass0 (pa_cons (pv 3) (pa_cons (pv 7) pa_nil))) (nomark _))))) (pss_one (ps_ret pe_bl)) pss_nil)
  (pss_cons (ps_if (PW.pt (pw_or (pt_cmpR op_ne (pe_callB (cr_sum rfl) (by rfl) T.m_sum (by decide +kernel) (pa_cons (pe_lc (own := [("k", 10)]) (g := (gName 10)) (tt := tYes) rfl sc_law.nd (pi_tup (pv 8)) (blkOk_by (own := [("k", 10)]) (N := ["script", "tape", "turn", "loops", "total", "order", "seen", "wait", "row", "below", "k"]) (sc := defScope s_law) (by decide +kernel)) (fun _ _ _ _ _ => pg_name (i := 10) sc_law.nd rfl (.inl rfl)) (fun _ _ _ _ _ => pts_nil) (fun _ _ _ _ _ => (pe_ix (ixTK (K := K) (by rfl)) (pv 3) (pv 10) (fun _ _ => rfl)))) pa_nil)) (pv 7) (nomark _)) (pw_or1 (pt_cmpR (op_neD hr.units) (pe_lc (own := [("k", 10)]) (g := (gName 10)) rfl sc_law.nd (pi_list (pv 5)) (blkOk_by (own := [("k", 10)]) (N := ["script", "tape", "turn", "loops", "total", "order", "seen", "wait", "row", "below", "k"]) (sc := defScope s_law) (by decide +kernel)) (fun _ _ _ _ _ => pg_name (i := 10) sc_law.nd rfl (.inl rfl)) (fun _ _ _ _ _ => (pts_one (pt_cmpR (inK (K := K) (by rfl)) (pv 10) (pv 8) (by rfl)))) (fun _ _ _ _ _ => (pv 10))) (pe_callTy call_list_of (by rfl) T.m_list (by decide +kernel) (pa_cons (pv 8) pa_nil)) (nomark _))))) (pss_one (ps_ret pe_bl)) pss_nil)
  (pss_cons (ps_set (i := 9) sc_law.nd rfl (.inl rfl) pe_int)
  (pss_cons (ps_for PassesOwn.never rfl (pi_list (pv 5)) (pg_name (i := 10) sc_law.nd rfl (.inl rfl))
   (pss_cons (ps_if (PW.pt (pw_and (pt_cmpR (notInK (K := K) (by rfl)) (pv 10) (pv 8) (by rfl)) (pw_and1 (pt_cmpR op_ge (pv 9) (pe_ix (ixTK (K := K) (by rfl)) (pv 3) (pv 10) (fun _ _ => rfl)) (nomark _))))) (pss_one (ps_ret pe_bl)) pss_nil)
  (pss_one (ps_if (pt_cmpR (inK (K := K) (by rfl)) (pv 10) (pv 8) (by rfl)) (pss_one (ps_set (i := 9) sc_law.nd rfl (.inl rfl) (pe_op op_add (pv 9) (pe_ix (ixTK (K := K) (by rfl)) (pv 3) (pv 10) (fun _ _ => rfl))))) pss_nil))))
  (pss_cons (ps_if (pt_cmpR op_ne (pe_dget2 (by exact hu_of hr) (pv 6) (pv 8) (pv 7) ⟨by rfl, by rfl, by rfl, by rfl⟩) (pv 7) (nomark _)) (pss_one (ps_ret pe_bl)) pss_nil)
  (pss_one (ps_dput (by exact hu_of hr) (pv 6) (pv 8) (pv 7) rfl)))))))))))))))
  (pss_one (ps_ret (pe_and (pe_cmpR (op_eqD hr.units) (pe_call (ok_digits T TB) (hr.mono (by decide)) (by rfl) T.g_digits T.F_digits.kp T.b_digits .nil pass0 (pa_cons (pe_tup (pa_cons pe_int (pa_cons pe_int (pa_cons pe_int pa_nil)))) (pa_cons pe_int pa_nil))) (pe_tup (pa_cons pe_int (pa_cons pe_int (pa_cons pe_int pa_nil)))) (nomark _)) (pe_and (pe_cmpR (op_eqD hr.units) (pe_call (ok_digits T TB) (hr.mono (by decide)) (by rfl) T.g_digits T.F_digits.kp T.b_digits .nil pass0 (pa_cons (pe_tup (pa_cons pe_int (pa_cons pe_int (pa_cons pe_int pa_nil)))) (pa_cons pe_int pa_nil))) (pe_tup (pa_cons pe_int pa_nil)) (nomark _)) (pe_one (pe_cmpR (op_eqD hr.units) (pe_call (ok_digits T TB) (hr.mono (by decide)) (by rfl) T.g_digits T.F_digits.kp T.b_digits .nil pass0 (pa_cons (pe_tup (pa_cons pe_int (pa_cons pe_int pa_nil))) (pa_cons pe_int pa_nil))) (pe_tup (pa_cons pe_int (pa_cons pe_int pa_nil))) (nomark _)))))))))), ?_⟩
    refine ⟨.ref a, rfl, a, ns0, rfl, hS, fun t sc H1 nt ns' sm tp => ?_⟩
    refine ⟨3, rfl, by decide, by decide, for_range (lo := 0) (n := (3 : Int).toNat)
      (fun i σ H' => ∃ (y2 y3 y4 y5 y6 y7 y8 y9 y10 : Option V), σ = [some (.ref a), some (.ref t), y2, y3, y4, y5, y6, y7, y8, y9, y10] ∧ Tape H' t sc ∧ Tabs (tabsOf T) H')
      ⟨_, _, _, _, _, _, _, _, _, rfl, tp, hTb.ext sm⟩ (fun i σ H' hi h => ?_) (fun σ H' h => ?_)⟩
    · obtain ⟨y2, y3, y4, y5, y6, y7, y8, y9, y10, rfl, tpa, tba⟩ := h
      refine ⟨.ref t, rfl, t, sc, 200, rfl, by decide, tpa, fun la ls H2 g d hs nla fla mv2 tp2 ela => ?_⟩
      have tb2 := tabs_mv tba tpa mv2
      obtain ⟨os, hO⟩ := Dg.Ord.ex ls
      have g2 := g.2.1
      obtain ⟨tot, htot⟩ : ∃ tot, tot = ls.sum := ⟨_, rfl⟩
      have tot1 : 1 ≤ tot := by
        rw [htot]
        cases ls with
        | nil => exact absurd g.1 (by decide)
        | cons x r =>
          have hx := g.2.2 x (by simp)
          have : 0 ≤ r.sum := sum_nn r fun y hy => (g.2.2 y (by simp [hy])).1
          rw [List.sum_cons]
          omega
      refine ⟨.ref la, rfl, la, ls, rfl, SqT.of ela, ?_⟩
      rw [← htot]
      refine ⟨.ref la, rfl, la, ls, os, rfl, SqT.of ela, g, hO, fun O H3 nO s3 eO => ?_⟩
      have tp3 := tp2.keep s3
      have tb3 := tb2.ext s3
      have ela3 := s3 _ _ ela
      refine fun D nD => ?_
      have sD := same_upd (o := .dT []) nD
      have eD : upd H3 D (.dT []) D = some (.dT []) := upd_same
      have tp4 := tp3.keep sD
      have tb4 := tb3.ext sD
      have ela4 := sD _ _ ela3
      have eO4 := sD _ _ eO
      have nDt := tp3.ne nD
      generalize upd H3 D (.dT []) = H4 at *
      refine ⟨.int tot, rfl, by show 2 ≤ sizeLine; decide, fun L1 nL1 => ?_⟩
      have sL1 := same_upd (o := .lst [V.int 1, .int tot]) nL1
      have eL1 : upd H4 L1 (.lst [V.int 1, .int tot]) L1 = some (.lst [V.int 1, .int tot]) := upd_same
      have tp5 := tp4.keep sL1
      have nL1t := tp4.ne nL1
      have ela5 := sL1 _ _ ela4
      have eO5 := sL1 _ _ eO4
      have eD5 := sL1 _ _ eD
      have tb5 := tb4.ext sL1
      generalize upd H4 L1 (.lst [V.int 1, .int tot]) = H5 at *
      refine ⟨12, rfl, by decide, by decide, fun L2 nL2 => lc_range (lo := 0) (n := (12 : Int).toNat)
        (fun i H' => ∃ zs : List Int, H' L2 = some (.lst (zs.map V.int)) ∧ zs.length = i ∧ (∀ z ∈ zs, 1 ≤ z ∧ z ≤ tot) ∧ (∀ b o, b ≠ t → b ≠ L2 → H5 b = some o → H' b = some o) ∧ Tape H' t sc)
        ⟨[], upd_same, rfl, fun _ h => by simp at h, fun b o _ n e => by rw [upd_ne n]; exact e, tp5.keep (same_upd nL2)⟩ (fun i H' hi p => ?_) (fun H6 p => ?_)⟩
      · obtain ⟨zs, eZ, lz, bz, kp, tpz⟩ := p
        have nL2t := tp5.ne nL2
        have hi' : i < 12 := hi
        refine ⟨rfl, .ref t, rfl, .int tot, rfl, t, sc, tot, rfl, ⟨by omega, by omega⟩, tpz, fun r H7 r0 r1 mv7 tp7 => ⟨_, _, rfl, rfl, ?_⟩⟩
        have eZ7 := mv7 _ _ nL2t eZ
        refine ⟨_, eZ7, by rw [List.length_map]; exact small1000 (by omega), zs ++ [1 + r], ?_, by rw [List.length_append, lz]; rfl, fun z hz => ?_, fun b o n1 n2 e => ?_, tp7.but nL2t (tp5.ne2 nL2)⟩
        · rw [upd_same, List.map_append]
          rfl
        · rcases List.mem_append.mp hz with h | h
          · exact bz z h
          · rw [List.mem_singleton.mp h]
            omega
        · rw [upd_ne n2]
          exact mv7 _ _ n1 (kp b o n1 n2 e)
      · obtain ⟨zs, eZ, lz, bz, kp, tpz⟩ := p
        have nL2t := tp5.ne nL2
        have ne5 : ∀ {b : Addr} {o : HO}, H5 b = some o → b ≠ L2 := fun e => ne_of_none e nL2
        have lz : zs.length = 12 := lz
        have net : ∀ {b : Addr} {xs : List V}, H2 b = none → b ≠ t := fun e => tp2.ne e
        have eL16 := kp _ _ nL1t (ne5 eL1) eL1
        have eO6 := kp _ _ (tp2.ne nO) (ne5 eO5) eO5
        have eD6 := kp _ _ nDt (ne5 eD5) eD5
        have ela6 := kp _ _ nla (ne5 ela5) ela5
        have tb6 : Tabs (tabsOf T) H6 := fun pp hp => by
          obtain ⟨ps, h1, h2, h3⟩ := tb5 pp hp
          have nt1 : ∀ {b : Addr} {o : HO}, H5 b = some o → (∀ xs, o ≠ .lst xs) → b ≠ t := fun {b o} e n z => by
            obtain ⟨_, _, _, _, _, _, e2, _⟩ := tp5
            rw [z, e2] at e
            exact n _ (Option.some.inj e).symm
          refine ⟨ps, kp _ _ (nt1 h1 fun xs z => by cases z) (ne5 h1) h1, h2, fun pos cv hc => ?_⟩
          obtain ⟨c, e1, e2⟩ := h3 pos cv hc
          exact ⟨c, e1, kp _ _ (nt1 e2 fun xs z => by unfold CodeO at z; cases z) (ne5 e2) e2⟩
        refine ⟨L1, L2, _, _, rfl, rfl, eL16, eZ, ?_, fun W nW => ?_⟩
        · rw [List.length_map, lz]
          show 2 + 12 ≤ 2 ^ 24
          decide
        have eW0 : ([V.int 1, .int tot] ++ zs.map V.int) = (1 :: tot :: zs).map V.int := rfl
        rw [eW0]
        have sW := same_upd (o := .lst ((1 :: tot :: zs).map V.int)) nW
        have eW : upd H6 W (.lst ((1 :: tot :: zs).map V.int)) W = some (.lst ((1 :: tot :: zs).map V.int)) := upd_same
        have tpw := tpz.keep sW
        have tbw := tb6.ext sW
        have eOw := sW _ _ eO6
        have eDw := sW _ _ eD6
        have elaw := sW _ _ ela6
        have nDW : D ≠ W := ne_of_none eD6 nW
        generalize upd H6 W (.lst ((1 :: tot :: zs).map V.int)) = Hw at *
        have bw : ∀ z ∈ (1 :: tot :: zs), 1 ≤ z ∧ z ≤ tot := fun z hz => by
          rcases List.mem_cons.mp hz with rfl | hz
          · omega
          · rcases List.mem_cons.mp hz with rfl | hz
            · omega
            · exact bz z hz
        refine ⟨W, rfl, ⟨_, SqL.of eW⟩, for_list (K := K) (xs := (1 :: tot :: zs).map V.int)
          (fun i σ H' => ∃ (kvs : List (List Key × V)) (y7 y8 y9 y10 : Option V), σ = [some (.ref a), some (.ref t), some (.int (0 + (_ : Int))), some (.ref la), some (.int tot), some (.ref O), some (.ref D), y7, y8, y9, y10] ∧ (∀ b o, b ≠ D → Hw b = some o → (∀ ps, o ≠ .tbl ps) → H' b = some o) ∧ Tabs (tabsOf T) H' ∧ H' D = some (.dT kvs) ∧ kvs.length ≤ i ∧ SumD ls kvs)
          ⟨[], _, _, _, _, rfl, fun _ _ _ z _ => z, tbw, eDw, Nat.le_refl _, fun _ h => by simp at h⟩ (fun i σ H' _ h => ?_) (fun i x σ H' hx h => ?_) (fun σ H' h => ?_)⟩
        · obtain ⟨_, _, _, _, _, _, kp', _⟩ := h
          exact SqL.of (kp' _ _ nDW.symm eW (fun _ z => by cases z))
        · obtain ⟨kvs, y7, y8, y9, y10, rfl, kp', tb', eD', lk, sd⟩ := h
          rw [List.getElem?_map] at hx
          obtain ⟨wt, hwt, rfl⟩ := Option.map_eq_some_iff.mp hx
          have hwb := bw wt (List.mem_of_getElem? hwt)
          have hi14 : i < 14 := by
            have := (List.getElem?_eq_some_iff.mp hwt).1
            simp only [List.length_cons] at this
            omega
          have nlD : la ≠ D := fun z => by rw [z, eDw] at elaw; cases elaw
          have nOD : O ≠ D := fun z => by rw [z, eDw] at eOw; cases eOw
          have ela' := kp' _ _ nlD elaw (fun _ z => by cases z)
          have eO' := kp' _ _ nOD eOw (fun _ z => by cases z)
          refine ⟨.ref la, rfl, .int wt, rfl, la, ls, os, wt, rfl, SqT.of ela', g, d, hO, hwb.1, by omega, tb', fun p H9 eN T9 ep => ?_⟩
          have ela9 := eN _ _ ela' (fun _ z => by cases z)
          have eO9 := eN _ _ eO' (fun _ z => by cases z)
          have eD9 := eN _ _ eD' (fun _ z => by cases z)
          have kp9 : ∀ b o, b ≠ D → Hw b = some o → (∀ ps, o ≠ .tbl ps) → H9 b = some o := fun b o n e nt => eN _ _ (kp' b o n e nt) nt
          have rs := Dg.row_sum hO g d (w := wt) (by omega) (by omega)
          have rf := Dg.row_filter hO wt
          have rb := fun {i : Nat} {o : Int} (h : os[i]? = some o) (n : o ∉ Dg.row ls os wt) => Dg.bel_lt hO (w := wt) (by omega) h n
          have rl : (Dg.row ls os wt).length ≤ 8 := by
            have := (Dg.row_sub ls os wt).length_le
            have := hO.len
            omega
          have rsub : ∀ o ∈ Dg.row ls os wt, o ∈ os := fun o ho => (Dg.row_sub ls os wt).mem ho
          have bst := fun {i : Nat} {o : Int} (h : os[i]? = some o) => Dg.bel_step (ls := ls) (w := wt) h
          have b00 : Dg.bel ls os wt 0 = 0 := rfl
          have lO := hO.len
          have hat : ∀ o ∈ os, atI (ls.map V.int) o = some (.int (Dg.at_ ls o)) := fun o ho => by
            have hm := hO.mem ho
            exact atI_of hm.1 (by
              have : o.toNat < ls.length := by omega
              unfold Dg.at_
              rw [List.getElem?_map, List.getD_eq_getElem?_getD, List.getElem?_eq_getElem this]
              rfl)
          generalize Dg.bel ls os wt = bl at *
          refine ⟨.ref p, rfl, .ref p, .ty "tuple", _, _, true, rfl, .ty _, tyTup (SqT.of ep), kit_ty (by decide +kernel), true, rfl, iteF ?_⟩
          refine ⟨.ref p, rfl, .ref la, rfl, .int wt, rfl, la, ls, os, wt, rfl, SqT.of ela9, g, hO, fun p2 H10 s10 hp2 => ?_⟩
          generalize hr0 : Dg.row ls os wt = row at *
          refine ⟨My.dI row, My.dI row, dp_dI (SqT.of (s10 _ _ ep)), dp_dI hp2, (Shp.dI _).ok (by decide), (Shp.dI _).ok (by decide), false, ne_same (Shp.dI _), iteF ?_⟩
          have ep10 := s10 _ _ ep
          have ela10 := s10 _ _ ela9
          have eO10 := s10 _ _ eO9
          -- the sum
          refine ⟨.ref p, rfl, p, rfl, ⟨_, SqT.of ep10⟩, fun D2 nD2 => lc_tup (K := K) (a := p) (xs := row.map V.int)
            (fun i H' => Same H10 H' ∧ H' D2 = some (.lst (((row.take i).map (Dg.at_ ls)).map V.int)))
            ⟨same_upd nD2, upd_same⟩ (fun i H' _ p => SqT.of (p.1 _ _ ep10)) (fun i z H' hz p => ?_) (fun H11 p => ?_)⟩
          · obtain ⟨sm, eD2⟩ := p
            rw [List.getElem?_map] at hz
            obtain ⟨o, ho, rfl⟩ := Option.map_eq_some_iff.mp hz
            refine ⟨rfl, .ref la, rfl, .int o, rfl, la, _, o, .int (Dg.at_ ls o), rfl, rfl, SqT.of (sm _ _ ela10), hat o (rsub o (List.mem_of_getElem? ho)), ?_⟩
            refine ⟨_, eD2, ?_, same_put sm nD2, ?_⟩
            · rw [List.length_map, List.length_map, List.length_take]
              exact small1000 (by omega)
            · rw [upd_same, take_snoc ho, List.map_append, List.map_append]
              rfl
          obtain ⟨s11, eD2⟩ := p
          rw [List.length_map, List.take_length] at eD2
          refine ⟨D2, _, rfl, SqL.of eD2, .int wt, rfl, rfl, false, ne_no rs, iteF ?_⟩
          have eO11 := s11 _ _ eO10
          have ep11 := s11 _ _ ep10
          -- the order of what is taken
          refine ⟨.ref O, rfl, O, rfl, ⟨_, SqL.of eO11⟩, fun D3 nD3 => lc_list (K := K) (a := O) (xs := os.map V.int)
            (fun i H' => Same H11 H' ∧ H' D3 = some (.lst (((os.take i).filter fun k => decide (k ∈ row)).map V.int)))
            ⟨same_upd nD3, upd_same⟩ (fun i H' _ p => SqL.of (p.1 _ _ eO11)) (fun i z H' hz p => ?_) (fun H12 p => ?_)⟩
          · obtain ⟨sm, eD3⟩ := p
            rw [List.getElem?_map] at hz
            obtain ⟨o, ho, rfl⟩ := Option.map_eq_some_iff.mp hz
            have et : (os.take (i + 1)).filter (fun k => decide (k ∈ row)) = (os.take i).filter (fun k => decide (k ∈ row)) ++ if o ∈ row then [o] else [] := by
              rw [take_snoc ho, List.filter_append]
              congr 1
              rw [List.filter_cons]
              split
              · rename_i c
                rw [if_pos (of_decide_eq_true c)]
                rfl
              · rename_i c
                rw [if_neg (fun z => c (decide_eq_true z))]
                rfl
            refine ⟨rfl, .int o, rfl, .ref p, rfl, p, _, rfl, .inr (SqT.of (sm _ _ ep11)), rfl, flat_ints _, ?_⟩
            rw [if_neg Bool.false_ne_true, inV_ints, et]
            by_cases c : o ∈ row
            · rw [if_pos c]
              refine ⟨_, rfl, iteB' (decide_eq_true c) ⟨_, rfl, _, eD3, ?_, same_put sm nD3, ?_⟩⟩
              · have := (List.length_filter_le (fun k => decide (k ∈ row)) (os.take i))
                rw [List.length_take] at this
                rw [List.length_map]
                exact small1000 (by omega)
              · rw [upd_same, List.map_append]
                rfl
            · rw [if_neg c, List.append_nil]
              refine ⟨_, rfl, ?_⟩
              rw [decide_eq_false c]
              exact iteF ⟨sm, eD3⟩
          obtain ⟨s12, eD3⟩ := p
          rw [List.length_map, List.take_of_length_le (Nat.le_refl _), rf] at eD3
          have ep12 := s12 _ _ ep11
          refine ⟨.ref p, rfl, p, _, rfl, .inr (SqT.of ep12), fun L3 nL3 => ?_⟩
          have sL3 := same_upd (o := .lst (row.map V.int)) nL3
          refine ⟨.list (row.map PyData.int), .list (row.map PyData.int), .lst (SqL.of (sL3 _ _ eD3)) (dpa_ints row), .lst (SqL.of upd_same) (dpa_ints row), (Shp.list Shp.int row).ok (by decide), (Shp.list Shp.int row).ok (by decide), false, ne_same (Shp.list Shp.int row), iteF ?_⟩
          have s13 := ((s10.trans s11).trans s12).trans sL3
          have eD13 := s13 _ _ eD9
          have ela13 := s13 _ _ ela9
          have eO13 := s13 _ _ eO9
          have ep13 := s13 _ _ ep
          have tb13 := T9.ext s13
          have kp13 : ∀ b o, b ≠ D → Hw b = some o → (∀ ps, o ≠ .tbl ps) → (upd H12 L3 (.lst (row.map V.int))) b = some o := fun b o n e nt => s13 _ _ (kp9 b o n e nt)
          generalize upd H12 L3 (.lst (row.map V.int)) = H13 at *
          refine ⟨.ref O, rfl, O, rfl, ⟨_, SqL.of eO13⟩, for_list (K := K) (xs := os.map V.int)
            (fun i2 σ H' => ∃ (y10 : Option V), σ = [some (.ref a), some (.ref t), some (.int (0 + (_ : Int))), some (.ref la), some (.int tot), some (.ref O), some (.ref D), some (.int wt), some (.ref p), some (.int (bl i2)), y10] ∧ H' = H13)
            ⟨_, by rw [b00]; rfl, rfl⟩ (fun i2 σ H' _ h => ?_) (fun i2 x σ H' hx h => ?_) (fun σ H' h => ?_)⟩
          · obtain ⟨_, _, rfl⟩ := h
            exact SqL.of eO13
          · obtain ⟨y10, rfl, rfl⟩ := h
            rw [List.getElem?_map] at hx
            obtain ⟨o, ho, rfl⟩ := Option.map_eq_some_iff.mp hx
            have hao := hat o (List.mem_of_getElem? ho)
            have b1 := bst ho
            refine ⟨.int o, rfl, .ref p, rfl, p, _, rfl, .inr (SqT.of ep13), rfl, flat_ints _, ?_⟩
            rw [if_pos rfl, inV_ints]
            by_cases c : o ∈ row
            · have e1 : (!decide (o ∈ row)) = false := by rw [decide_eq_true c]; rfl
              rw [e1]
              refine ⟨_, rfl, iteF (iteF ?_)⟩
              refine ⟨.int o, rfl, .ref p, rfl, p, _, rfl, .inr (SqT.of ep13), rfl, flat_ints _, ?_⟩
              rw [if_neg Bool.false_ne_true, inV_ints, decide_eq_true c]
              refine ⟨_, rfl, iteT ?_⟩
              refine ⟨.int (bl i2), rfl, .ref la, rfl, .int o, rfl, la, _, o, .int (Dg.at_ ls o), rfl, rfl, SqT.of ela13, hao, _, _, rfl, rfl, some (.int o), ?_, rfl⟩
              rw [b1, if_pos c]
              rfl
            · have e1 : (!decide (o ∈ row)) = true := by rw [decide_eq_false c]; rfl
              have lt := rb ho c
              rw [e1]
              refine ⟨_, rfl, iteT ?_⟩
              refine ⟨.int (bl i2), rfl, .ref la, rfl, .int o, rfl, la, _, o, .int (Dg.at_ ls o), rfl, rfl, SqT.of ela13, hao, _, _, rfl, rfl, false, congrArg V.bl (decide_eq_false (by omega)), iteF ?_⟩
              refine ⟨.int o, rfl, .ref p, rfl, p, _, rfl, .inr (SqT.of ep13), rfl, flat_ints _, ?_⟩
              rw [if_neg Bool.false_ne_true, inV_ints, decide_eq_false c]
              refine ⟨_, rfl, iteF ⟨some (.int o), ?_, rfl⟩⟩
              rw [b1, if_neg c, Int.add_zero]
              rfl
          · obtain ⟨y10, rfl, rfl⟩ := h
            have ek : row.map V.int = ((row.map Sum.inl : List Key)).map kV := by
              rw [List.map_map]
              rfl
            have ep13' := ep13
            rw [ek] at ep13'
            have ev : (valV kvs (row.map Sum.inl)).getD (.int wt) = .int wt := by
              cases hv : valV kvs (row.map Sum.inl) with
              | none => rfl
              | some v =>
                rw [sd.get hv, rs]
                rfl
            refine ⟨.ref D, rfl, D, rfl, .inr ⟨kvs, .inl eD13⟩, .ref p, rfl, .int wt, rfl, _, DGet.t eD13 ep13', ?_⟩
            rw [ev]
            refine ⟨.int wt, rfl, rfl, false, ne_no rfl, iteF ?_⟩
            refine ⟨.int wt, rfl, .ref D, rfl, .ref p, rfl, D, _, rfl, DPut.t eD13 ep13' ?_, putK kvs (row.map Sum.inl) (.int wt), _, _, _, _, rfl, fun b o n e nt => ?_, ?_, upd_same, ?_, ?_⟩
            · show kvs.length < 2 ^ 24
              omega
            · rw [upd_ne n]
              exact kp13 b o n e nt
            · exact tabs_butO tb13 eD13 (fun _ z => by cases z) (fun _ z => by cases z) fun x o n e => by
                rw [upd_ne n]
                exact e
            · have := length_putK kvs (row.map Sum.inl) (.int wt)
              omega
            · rw [← rs]
              exact sd.put row
        · obtain ⟨kvs, y7, y8, y9, y10, rfl, kp', tb', eD', lk, sd⟩ := h
          obtain ⟨ns2, pos2, rest2, mx2, ct2, t1, t2, t3, t4⟩ := tpw
          have nsD : sc ≠ D := fun z => by rw [z, eDw] at t3; cases t3
          exact ⟨_, _, _, _, _, _, _, _, _, rfl, ⟨ns2, pos2, rest2, mx2, ct2, t1, kp' _ _ nDt.symm t2 (fun _ z => by cases z), kp' _ _ nsD t3 (fun _ z => by cases z), t4⟩, tb'⟩
    · obtain ⟨y2, y3, y4, y5, y6, y7, y8, y9, y10, rfl, tpa, tba⟩ := h
      have g124 : Rch.Good [1, 2, 4] := ⟨by decide, by decide, fun n hn => by
        simp only [List.mem_cons, List.not_mem_nil, or_false] at hn
        omega⟩
      have g21 : Rch.Good [2, 1] := ⟨by decide, by decide, fun n hn => by
        simp only [List.mem_cons, List.not_mem_nil, or_false] at hn
        omega⟩
      have o124 : Dg.Ord [1, 2, 4] [0, 1, 2] := ⟨by decide, by simp [lexle]⟩
      have o21 : Dg.Ord [2, 1] [1, 0] := ⟨by decide, by simp [lexle]⟩
      have r1 : Dg.row [1, 2, 4] [0, 1, 2] 7 = [0, 1, 2] := by decide
      have r2 : Dg.row [1, 2, 4] [0, 1, 2] 4 = [2] := by decide
      have r3 : Dg.row [2, 1] [1, 0] 3 = [1, 0] := by decide
      refine ⟨by show 3 ≤ sizeLine; decide, fun u nu => ?_⟩
      have su := same_upd (o := .tup [V.int 1, .int 2, .int 4]) nu
      have eu : upd H' u (.tup [V.int 1, .int 2, .int 4]) u = some (.tup [V.int 1, .int 2, .int 4]) := upd_same
      have tb1 := tba.ext su
      generalize upd H' u (.tup [V.int 1, .int 2, .int 4]) = Ha at *
      refine ⟨u, [1, 2, 4], [0, 1, 2], 7, rfl, SqT.of eu, g124, by decide +kernel, o124, by decide, by decide, tb1, fun p Hb eN tb2 ep => ?_⟩
      rw [r1] at ep
      refine ⟨by show 3 ≤ sizeLine; decide, fun v nv => ?_⟩
      have sv := same_upd (o := .tup [V.int 0, .int 1, .int 2]) nv
      refine ⟨My.dI [0, 1, 2], My.dI [0, 1, 2], dp_dI (SqT.of (sv _ _ ep)), dp_dI (SqT.of upd_same), (Shp.dI _).ok (by decide), (Shp.dI _).ok (by decide), ?_⟩
      rw [eq_same (Shp.dI _)]
      have tb3 := tb2.ext sv
      generalize upd Hb v (.tup [V.int 0, .int 1, .int 2]) = Hc at *
      refine ⟨true, rfl, iteT ⟨by show 3 ≤ sizeLine; decide, fun u2 nu2 => ?_⟩⟩
      have su2 := same_upd (o := .tup [V.int 1, .int 2, .int 4]) nu2
      refine ⟨u2, [1, 2, 4], [0, 1, 2], 4, rfl, SqT.of upd_same, g124, by decide +kernel, o124, by decide, by decide, tb3.ext su2, fun p2 Hd eN2 tb4 ep2 => ?_⟩
      rw [r2] at ep2
      refine ⟨by show 1 ≤ sizeLine; decide, fun v2 nv2 => ?_⟩
      have sv2 := same_upd (o := .tup [V.int 2]) nv2
      refine ⟨My.dI [2], My.dI [2], dp_dI (SqT.of (sv2 _ _ ep2)), dp_dI (SqT.of upd_same), (Shp.dI _).ok (by decide), (Shp.dI _).ok (by decide), true, eq_same (Shp.dI _), iteT ?_⟩
      have tb5 := tb4.ext sv2
      generalize upd Hd v2 (.tup [V.int 2]) = He at *
      refine ⟨by show 2 ≤ sizeLine; decide, fun u3 nu3 => ?_⟩
      have su3 := same_upd (o := .tup [V.int 2, .int 1]) nu3
      refine ⟨u3, [2, 1], [1, 0], 3, rfl, SqT.of upd_same, g21, by decide +kernel, o21, by decide, by decide, tb5.ext su3, fun p3 Hf eN3 tb6 ep3 => ?_⟩
      rw [r3] at ep3
      refine ⟨by show 2 ≤ sizeLine; decide, fun v3 nv3 => ?_⟩
      have sv3 := same_upd (o := .tup [V.int 1, .int 0]) nv3
      refine ⟨My.dI [1, 0], My.dI [1, 0], dp_dI (SqT.of (sv3 _ _ ep3)), dp_dI (SqT.of upd_same), (Shp.dI _).ok (by decide), (Shp.dI _).ok (by decide), ?_⟩
      rw [eq_same (Shp.dI _)]
      exact q _
end

/-! ### the end, with the table of the def that makes a lambda -/
theorem fin_mk {l : PySem.W.OpenLaw} {w : World} {K : PySem.W.Frag} {h : Heap} {mg mb : Str → Option Value} {mean : ExcName → Option Value} {loose : List Str} {q : Program} {fa f_law : Addr} (KX : K.In h) (Tp : PyProof.Rows.Top q loose mean mg mb h) (hmg : mg "law" = some (.ref fa))
    (hq : ∃ d, (recsOf q).find? (fun e => e.name == ("ordered" : Str)) = some d) {an : Option Addr} {kV dc pm cd ct : Value}
    (hT : ∃ T : Tx K mg, T.a_law = f_law ∧ T.d_law = PySem.W.fnOf "law" "law" (defArgs s_law) (defBody s_law) (defScope s_law) .none kV dc pm an cd ct) :
    LamX.LawAtS l w K CX0 lawLevel 63 "script" mg fa h := by
  obtain ⟨T, ea, ed⟩ := hT
  have e := hmg.symm.trans T.g_law
  cases e
  obtain ⟨d, hd⟩ := hq
  have t := PySem.W.tab_of Tp KX hd T.tb_ordered
  have one : ∀ {A : Addr × Addr → Prop}, A (T.k_ordered, T.P_ordered) → ∀ p ∈ [(T.k_ordered, T.P_ordered)], A p := fun a p hp => by
    rw [List.mem_singleton.mp hp]
    exact a
  refine ⟨T.d_law, [(T.k_ordered, T.P_ordered)], spLaw T, one t.2, one T.np_ordered, one t.1, fun s v => by rw [ed]; exact .of_eq rfl, fun H a ns hl _ hH hS => ?_, fun base _ _ hTB => ok_law T (hTB _ (List.mem_singleton.mpr rfl))⟩
  refine ⟨a, ns, rfl, hS, hl, fun p hp => ?_, fun _ => rfl⟩
  rw [List.mem_singleton.mp hp]
  exact LamX.TabS.nil (hH _ (List.mem_singleton.mpr rfl))

theorem all_mk {w : World} {K : PySem.W.Frag} {h : Heap} {mg : Str → Option Value} (X : K.In h) (G : h.Ns mainGlobals mg)
    {f_is_integer : Addr} {od_is_integer an_is_integer : Option Addr} {sl_is_integer : Array (Option Value)} {oc_is_integer kV_is_integer dc_is_integer pm_is_integer cd_is_integer ct_is_integer : Value}
    {f_is_number : Addr} {od_is_number an_is_number : Option Addr} {sl_is_number : Array (Option Value)} {oc_is_number kV_is_number dc_is_number pm_is_number cd_is_number ct_is_number : Value}
    {f_are_numbers : Addr} {od_are_numbers an_are_numbers : Option Addr} {sl_are_numbers : Array (Option Value)} {oc_are_numbers kV_are_numbers dc_are_numbers pm_are_numbers cd_are_numbers ct_are_numbers : Value}
    {f_is_loops : Addr} {od_is_loops an_is_loops : Option Addr} {sl_is_loops : Array (Option Value)} {oc_is_loops kV_is_loops dc_is_loops pm_is_loops cd_is_loops ct_is_loops : Value}
    {f_check_loops : Addr} {od_check_loops an_check_loops : Option Addr} {sl_check_loops : Array (Option Value)} {oc_check_loops kV_check_loops dc_check_loops pm_check_loops cd_check_loops ct_check_loops : Value}
    {f_ordered : Addr} {od_ordered an_ordered : Option Addr} {sl_ordered : Array (Option Value)} {oc_ordered kV_ordered dc_ordered pm_ordered ct_ordered : Value}
    {f_doubling : Addr} {od_doubling an_doubling : Option Addr} {sl_doubling : Array (Option Value)} {oc_doubling kV_doubling dc_doubling pm_doubling cd_doubling ct_doubling : Value}
    {f_check_doubling : Addr} {od_check_doubling an_check_doubling : Option Addr} {sl_check_doubling : Array (Option Value)} {oc_check_doubling kV_check_doubling dc_check_doubling pm_check_doubling cd_check_doubling ct_check_doubling : Value}
    {f_taken : Addr} {od_taken an_taken : Option Addr} {sl_taken : Array (Option Value)} {oc_taken kV_taken dc_taken pm_taken cd_taken ct_taken : Value}
    {f_digits : Addr} {od_digits an_digits : Option Addr} {sl_digits : Array (Option Value)} {oc_digits kV_digits dc_digits pm_digits cd_digits ct_digits : Value}
    {f__law_tape : Addr} {od__law_tape an__law_tape : Option Addr} {sl__law_tape : Array (Option Value)} {oc__law_tape kV__law_tape dc__law_tape pm__law_tape cd__law_tape ct__law_tape : Value}
    {f__law_pick : Addr} {od__law_pick an__law_pick : Option Addr} {sl__law_pick : Array (Option Value)} {oc__law_pick kV__law_pick dc__law_pick pm__law_pick cd__law_pick ct__law_pick : Value}
    {f__law_order : Addr} {od__law_order an__law_order : Option Addr} {sl__law_order : Array (Option Value)} {oc__law_order kV__law_order dc__law_order pm__law_order cd__law_order ct__law_order : Value}
    {f__law_digits : Addr} {od__law_digits an__law_digits : Option Addr} {sl__law_digits : Array (Option Value)} {oc__law_digits kV__law_digits dc__law_digits pm__law_digits cd__law_digits ct__law_digits : Value}
    {f__law_doubled : Addr} {od__law_doubled an__law_doubled : Option Addr} {sl__law_doubled : Array (Option Value)} {oc__law_doubled kV__law_doubled dc__law_doubled pm__law_doubled cd__law_doubled ct__law_doubled : Value}
    {f_law : Addr} {od_law an_law : Option Addr} {sl_law : Array (Option Value)} {oc_law kV_law dc_law pm_law cd_law ct_law : Value}
    {t_MOST_LENGTH : Tok}
    {t_MOST_LOOPS : Tok}
    {kc_ordered P_ordered : Addr} {co_ordered : Value} {cod_ordered : Option Addr} {cvs_ordered : Array Value} {csl_ordered : Array (Option Value)}
    (a_is_integer : PySem.W.nsIn K mainGlobals "is_integer" = some (some (.ref f_is_integer))) (l_is_integer : K.lookup f_is_integer = some ⟨oc_is_integer, od_is_integer, .func (PySem.W.fnOf "is_integer" "is_integer" (defArgs s_is_integer) (defBody s_is_integer) (defScope s_is_integer) .none kV_is_integer dc_is_integer pm_is_integer an_is_integer cd_is_integer ct_is_integer), sl_is_integer⟩) (c_is_integer : PySem.W.codeIn K cd_is_integer "is_integer" = true) (k_is_integer : PySem.W.keepIn K (.ref f_is_integer) = true)
    (a_is_number : PySem.W.nsIn K mainGlobals "is_number" = some (some (.ref f_is_number))) (l_is_number : K.lookup f_is_number = some ⟨oc_is_number, od_is_number, .func (PySem.W.fnOf "is_number" "is_number" (defArgs s_is_number) (defBody s_is_number) (defScope s_is_number) .none kV_is_number dc_is_number pm_is_number an_is_number cd_is_number ct_is_number), sl_is_number⟩) (c_is_number : PySem.W.codeIn K cd_is_number "is_number" = true) (k_is_number : PySem.W.keepIn K (.ref f_is_number) = true)
    (a_are_numbers : PySem.W.nsIn K mainGlobals "are_numbers" = some (some (.ref f_are_numbers))) (l_are_numbers : K.lookup f_are_numbers = some ⟨oc_are_numbers, od_are_numbers, .func (PySem.W.fnOf "are_numbers" "are_numbers" (defArgs s_are_numbers) (defBody s_are_numbers) (defScope s_are_numbers) .none kV_are_numbers dc_are_numbers pm_are_numbers an_are_numbers cd_are_numbers ct_are_numbers), sl_are_numbers⟩) (c_are_numbers : PySem.W.codeIn K cd_are_numbers "are_numbers" = true) (k_are_numbers : PySem.W.keepIn K (.ref f_are_numbers) = true)
    (a_is_loops : PySem.W.nsIn K mainGlobals "is_loops" = some (some (.ref f_is_loops))) (l_is_loops : K.lookup f_is_loops = some ⟨oc_is_loops, od_is_loops, .func (PySem.W.fnOf "is_loops" "is_loops" (defArgs s_is_loops) (defBody s_is_loops) (defScope s_is_loops) .none kV_is_loops dc_is_loops pm_is_loops an_is_loops cd_is_loops ct_is_loops), sl_is_loops⟩) (c_is_loops : PySem.W.codeIn K cd_is_loops "is_loops" = true) (k_is_loops : PySem.W.keepIn K (.ref f_is_loops) = true)
    (a_check_loops : PySem.W.nsIn K mainGlobals "check_loops" = some (some (.ref f_check_loops))) (l_check_loops : K.lookup f_check_loops = some ⟨oc_check_loops, od_check_loops, .func (PySem.W.fnOf "check_loops" "check_loops" (defArgs s_check_loops) (defBody s_check_loops) (defScope s_check_loops) .none kV_check_loops dc_check_loops pm_check_loops an_check_loops cd_check_loops ct_check_loops), sl_check_loops⟩) (c_check_loops : PySem.W.codeIn K cd_check_loops "check_loops" = true) (k_check_loops : PySem.W.keepIn K (.ref f_check_loops) = true)
    (a_ordered : PySem.W.nsIn K mainGlobals "ordered" = some (some (.ref f_ordered))) (l_ordered : K.lookup f_ordered = some ⟨oc_ordered, od_ordered, .func (PySem.W.fnOf "ordered" "ordered" (defArgs s_ordered) (defBody s_ordered) (defScope s_ordered) .none kV_ordered dc_ordered pm_ordered an_ordered (.ref kc_ordered) ct_ordered), sl_ordered⟩) (c_ordered : PySem.W.codeIn K (.ref kc_ordered) "ordered" = true) (k_ordered : PySem.W.keepIn K (.ref f_ordered) = true)
    (a_doubling : PySem.W.nsIn K mainGlobals "doubling" = some (some (.ref f_doubling))) (l_doubling : K.lookup f_doubling = some ⟨oc_doubling, od_doubling, .func (PySem.W.fnOf "doubling" "doubling" (defArgs s_doubling) (defBody s_doubling) (defScope s_doubling) .none kV_doubling dc_doubling pm_doubling an_doubling cd_doubling ct_doubling), sl_doubling⟩) (c_doubling : PySem.W.codeIn K cd_doubling "doubling" = true) (k_doubling : PySem.W.keepIn K (.ref f_doubling) = true)
    (a_check_doubling : PySem.W.nsIn K mainGlobals "check_doubling" = some (some (.ref f_check_doubling))) (l_check_doubling : K.lookup f_check_doubling = some ⟨oc_check_doubling, od_check_doubling, .func (PySem.W.fnOf "check_doubling" "check_doubling" (defArgs s_check_doubling) (defBody s_check_doubling) (defScope s_check_doubling) .none kV_check_doubling dc_check_doubling pm_check_doubling an_check_doubling cd_check_doubling ct_check_doubling), sl_check_doubling⟩) (c_check_doubling : PySem.W.codeIn K cd_check_doubling "check_doubling" = true) (k_check_doubling : PySem.W.keepIn K (.ref f_check_doubling) = true)
    (a_taken : PySem.W.nsIn K mainGlobals "taken" = some (some (.ref f_taken))) (l_taken : K.lookup f_taken = some ⟨oc_taken, od_taken, .func (PySem.W.fnOf "taken" "taken" (defArgs s_taken) (defBody s_taken) (defScope s_taken) .none kV_taken dc_taken pm_taken an_taken cd_taken ct_taken), sl_taken⟩) (c_taken : PySem.W.codeIn K cd_taken "taken" = true) (k_taken : PySem.W.keepIn K (.ref f_taken) = true)
    (a_digits : PySem.W.nsIn K mainGlobals "digits" = some (some (.ref f_digits))) (l_digits : K.lookup f_digits = some ⟨oc_digits, od_digits, .func (PySem.W.fnOf "digits" "digits" (defArgs s_digits) (defBody s_digits) (defScope s_digits) .none kV_digits dc_digits pm_digits an_digits cd_digits ct_digits), sl_digits⟩) (c_digits : PySem.W.codeIn K cd_digits "digits" = true) (k_digits : PySem.W.keepIn K (.ref f_digits) = true)
    (a__law_tape : PySem.W.nsIn K mainGlobals "_law_tape" = some (some (.ref f__law_tape))) (l__law_tape : K.lookup f__law_tape = some ⟨oc__law_tape, od__law_tape, .func (PySem.W.fnOf "_law_tape" "_law_tape" (defArgs s__law_tape) (defBody s__law_tape) (defScope s__law_tape) .none kV__law_tape dc__law_tape pm__law_tape an__law_tape cd__law_tape ct__law_tape), sl__law_tape⟩) (c__law_tape : PySem.W.codeIn K cd__law_tape "_law_tape" = true) (k__law_tape : PySem.W.keepIn K (.ref f__law_tape) = true)
    (a__law_pick : PySem.W.nsIn K mainGlobals "_law_pick" = some (some (.ref f__law_pick))) (l__law_pick : K.lookup f__law_pick = some ⟨oc__law_pick, od__law_pick, .func (PySem.W.fnOf "_law_pick" "_law_pick" (defArgs s__law_pick) (defBody s__law_pick) (defScope s__law_pick) .none kV__law_pick dc__law_pick pm__law_pick an__law_pick cd__law_pick ct__law_pick), sl__law_pick⟩) (c__law_pick : PySem.W.codeIn K cd__law_pick "_law_pick" = true) (k__law_pick : PySem.W.keepIn K (.ref f__law_pick) = true)
    (a__law_order : PySem.W.nsIn K mainGlobals "_law_order" = some (some (.ref f__law_order))) (l__law_order : K.lookup f__law_order = some ⟨oc__law_order, od__law_order, .func (PySem.W.fnOf "_law_order" "_law_order" (defArgs s__law_order) (defBody s__law_order) (defScope s__law_order) .none kV__law_order dc__law_order pm__law_order an__law_order cd__law_order ct__law_order), sl__law_order⟩) (c__law_order : PySem.W.codeIn K cd__law_order "_law_order" = true) (k__law_order : PySem.W.keepIn K (.ref f__law_order) = true)
    (a__law_digits : PySem.W.nsIn K mainGlobals "_law_digits" = some (some (.ref f__law_digits))) (l__law_digits : K.lookup f__law_digits = some ⟨oc__law_digits, od__law_digits, .func (PySem.W.fnOf "_law_digits" "_law_digits" (defArgs s__law_digits) (defBody s__law_digits) (defScope s__law_digits) .none kV__law_digits dc__law_digits pm__law_digits an__law_digits cd__law_digits ct__law_digits), sl__law_digits⟩) (c__law_digits : PySem.W.codeIn K cd__law_digits "_law_digits" = true) (k__law_digits : PySem.W.keepIn K (.ref f__law_digits) = true)
    (a__law_doubled : PySem.W.nsIn K mainGlobals "_law_doubled" = some (some (.ref f__law_doubled))) (l__law_doubled : K.lookup f__law_doubled = some ⟨oc__law_doubled, od__law_doubled, .func (PySem.W.fnOf "_law_doubled" "_law_doubled" (defArgs s__law_doubled) (defBody s__law_doubled) (defScope s__law_doubled) .none kV__law_doubled dc__law_doubled pm__law_doubled an__law_doubled cd__law_doubled ct__law_doubled), sl__law_doubled⟩) (c__law_doubled : PySem.W.codeIn K cd__law_doubled "_law_doubled" = true) (k__law_doubled : PySem.W.keepIn K (.ref f__law_doubled) = true)
    (a_law : PySem.W.nsIn K mainGlobals "law" = some (some (.ref f_law))) (l_law : K.lookup f_law = some ⟨oc_law, od_law, .func (PySem.W.fnOf "law" "law" (defArgs s_law) (defBody s_law) (defScope s_law) .none kV_law dc_law pm_law an_law cd_law ct_law), sl_law⟩) (c_law : PySem.W.codeIn K cd_law "law" = true) (k_law : PySem.W.keepIn K (.ref f_law) = true)
    (t1_ordered : K.lookup kc_ordered = some ⟨co_ordered, cod_ordered, .fields cvs_ordered, csl_ordered⟩) (t2_ordered : cvs_ordered[11]? = some (.ref P_ordered)) (t3_ordered : K.lookup P_ordered = none)
    (z_all : PySem.W.nsIn K mainGlobals "all" = some none)
    (z_bool : PySem.W.nsIn K mainGlobals "bool" = some none)
    (z_int : PySem.W.nsIn K mainGlobals "int" = some none)
    (z_isinstance : PySem.W.nsIn K mainGlobals "isinstance" = some none)
    (z_len : PySem.W.nsIn K mainGlobals "len" = some none)
    (z_list : PySem.W.nsIn K mainGlobals "list" = some none)
    (z_max : PySem.W.nsIn K mainGlobals "max" = some none)
    (z_range : PySem.W.nsIn K mainGlobals "range" = some none)
    (z_reversed : PySem.W.nsIn K mainGlobals "reversed" = some none)
    (z_sorted : PySem.W.nsIn K mainGlobals "sorted" = some none)
    (z_sum : PySem.W.nsIn K mainGlobals "sum" = some none)
    (z_tuple : PySem.W.nsIn K mainGlobals "tuple" = some none)
    (z_zip : PySem.W.nsIn K mainGlobals "zip" = some none)
    (y_MOST_LENGTH : PySem.W.nsIn K mainGlobals "MOST_LENGTH" = some (some (.int 40 t_MOST_LENGTH)))
    (y_MOST_LOOPS : PySem.W.nsIn K mainGlobals "MOST_LOOPS" = some (some (.int 8 t_MOST_LOOPS)))
    : ∃ T : Tx K mg, T.a_law = f_law ∧ T.d_law = PySem.W.fnOf "law" "law" (defArgs s_law) (defBody s_law) (defScope s_law) .none kV_law dc_law pm_law an_law cd_law ct_law :=
  ⟨{ a_is_integer := f_is_integer, d_is_integer := _, F_is_integer := fun_mk (st := s_is_integer) l_is_integer c_is_integer k_is_integer, b_is_integer := (fun_mk (st := s_is_integer) l_is_integer c_is_integer k_is_integer).binds (ps := ["thing"]) (fun _ _ _ _ _ _ us hl => match us, hl with | [_], _ => rfl), g_is_integer := PySem.W.mg_of X G a_is_integer,
     a_is_number := f_is_number, d_is_number := _, F_is_number := fun_mk (st := s_is_number) l_is_number c_is_number k_is_number, b_is_number := (fun_mk (st := s_is_number) l_is_number c_is_number k_is_number).binds (ps := ["thing", "least", "most"]) (fun _ _ _ _ _ _ us hl => match us, hl with | [_, _, _], _ => rfl), g_is_number := PySem.W.mg_of X G a_is_number,
     a_are_numbers := f_are_numbers, d_are_numbers := _, F_are_numbers := fun_mk (st := s_are_numbers) l_are_numbers c_are_numbers k_are_numbers, b_are_numbers := (fun_mk (st := s_are_numbers) l_are_numbers c_are_numbers k_are_numbers).binds (ps := ["things", "least", "most"]) (fun _ _ _ _ _ _ us hl => match us, hl with | [_, _, _], _ => rfl), g_are_numbers := PySem.W.mg_of X G a_are_numbers,
     a_is_loops := f_is_loops, d_is_loops := _, F_is_loops := fun_mk (st := s_is_loops) l_is_loops c_is_loops k_is_loops, b_is_loops := (fun_mk (st := s_is_loops) l_is_loops c_is_loops k_is_loops).binds (ps := ["thing"]) (fun _ _ _ _ _ _ us hl => match us, hl with | [_], _ => rfl), g_is_loops := PySem.W.mg_of X G a_is_loops,
     a_check_loops := f_check_loops, d_check_loops := _, F_check_loops := fun_mk (st := s_check_loops) l_check_loops c_check_loops k_check_loops, b_check_loops := (fun_mk (st := s_check_loops) l_check_loops c_check_loops k_check_loops).binds (ps := ["thing"]) (fun _ _ _ _ _ _ us hl => match us, hl with | [_], _ => rfl), g_check_loops := PySem.W.mg_of X G a_check_loops,
     a_ordered := f_ordered, d_ordered := _, F_ordered := fun_mk (st := s_ordered) l_ordered c_ordered k_ordered, b_ordered := (fun_mk (st := s_ordered) l_ordered c_ordered k_ordered).binds (ps := ["loops"]) (fun _ _ _ _ _ _ us hl => match us, hl with | [_], _ => rfl), g_ordered := PySem.W.mg_of X G a_ordered,
     a_doubling := f_doubling, d_doubling := _, F_doubling := fun_mk (st := s_doubling) l_doubling c_doubling k_doubling, b_doubling := (fun_mk (st := s_doubling) l_doubling c_doubling k_doubling).binds (ps := ["loops"]) (fun _ _ _ _ _ _ us hl => match us, hl with | [_], _ => rfl), g_doubling := PySem.W.mg_of X G a_doubling,
     a_check_doubling := f_check_doubling, d_check_doubling := _, F_check_doubling := fun_mk (st := s_check_doubling) l_check_doubling c_check_doubling k_check_doubling, b_check_doubling := (fun_mk (st := s_check_doubling) l_check_doubling c_check_doubling k_check_doubling).binds (ps := ["loops"]) (fun _ _ _ _ _ _ us hl => match us, hl with | [_], _ => rfl), g_check_doubling := PySem.W.mg_of X G a_check_doubling,
     a_taken := f_taken, d_taken := _, F_taken := fun_mk (st := s_taken) l_taken c_taken k_taken, b_taken := (fun_mk (st := s_taken) l_taken c_taken k_taken).binds (ps := ["loops", "wait"]) (fun _ _ _ _ _ _ us hl => match us, hl with | [_, _], _ => rfl), g_taken := PySem.W.mg_of X G a_taken,
     a_digits := f_digits, d_digits := _, F_digits := fun_mk (st := s_digits) l_digits c_digits k_digits, b_digits := (fun_mk (st := s_digits) l_digits c_digits k_digits).binds (ps := ["loops", "wait"]) (fun _ _ _ _ _ _ us hl => match us, hl with | [_, _], _ => rfl), g_digits := PySem.W.mg_of X G a_digits,
     a__law_tape := f__law_tape, d__law_tape := _, F__law_tape := fun_mk (st := s__law_tape) l__law_tape c__law_tape k__law_tape, b__law_tape := (fun_mk (st := s__law_tape) l__law_tape c__law_tape k__law_tape).binds (ps := ["script"]) (fun _ _ _ _ _ _ us hl => match us, hl with | [_], _ => rfl), g__law_tape := PySem.W.mg_of X G a__law_tape,
     a__law_pick := f__law_pick, d__law_pick := _, F__law_pick := fun_mk (st := s__law_pick) l__law_pick c__law_pick k__law_pick, b__law_pick := (fun_mk (st := s__law_pick) l__law_pick c__law_pick k__law_pick).binds (ps := ["tape", "size"]) (fun _ _ _ _ _ _ us hl => match us, hl with | [_, _], _ => rfl), g__law_pick := PySem.W.mg_of X G a__law_pick,
     a__law_order := f__law_order, d__law_order := _, F__law_order := fun_mk (st := s__law_order) l__law_order c__law_order k__law_order, b__law_order := (fun_mk (st := s__law_order) l__law_order c__law_order k__law_order).binds (ps := ["loops"]) (fun _ _ _ _ _ _ us hl => match us, hl with | [_], _ => rfl), g__law_order := PySem.W.mg_of X G a__law_order,
     a__law_digits := f__law_digits, d__law_digits := _, F__law_digits := fun_mk (st := s__law_digits) l__law_digits c__law_digits k__law_digits, b__law_digits := (fun_mk (st := s__law_digits) l__law_digits c__law_digits k__law_digits).binds (ps := ["loops", "wait"]) (fun _ _ _ _ _ _ us hl => match us, hl with | [_, _], _ => rfl), g__law_digits := PySem.W.mg_of X G a__law_digits,
     a__law_doubled := f__law_doubled, d__law_doubled := _, F__law_doubled := fun_mk (st := s__law_doubled) l__law_doubled c__law_doubled k__law_doubled, b__law_doubled := (fun_mk (st := s__law_doubled) l__law_doubled c__law_doubled k__law_doubled).binds (ps := ["tape", "most"]) (fun _ _ _ _ _ _ us hl => match us, hl with | [_, _], _ => rfl), g__law_doubled := PySem.W.mg_of X G a__law_doubled,
     a_law := f_law, d_law := _, F_law := fun_mk (st := s_law) l_law c_law k_law, b_law := (fun_mk (st := s_law) l_law c_law k_law).binds (ps := ["script"]) (fun _ _ _ _ _ _ us hl => match us, hl with | [_], _ => rfl), g_law := PySem.W.mg_of X G a_law,
     m_all := PySem.W.mg_none_of X G z_all,
     m_bool := PySem.W.mg_none_of X G z_bool,
     m_int := PySem.W.mg_none_of X G z_int,
     m_isinstance := PySem.W.mg_none_of X G z_isinstance,
     m_len := PySem.W.mg_none_of X G z_len,
     m_list := PySem.W.mg_none_of X G z_list,
     m_max := PySem.W.mg_none_of X G z_max,
     m_range := PySem.W.mg_none_of X G z_range,
     m_reversed := PySem.W.mg_none_of X G z_reversed,
     m_sorted := PySem.W.mg_none_of X G z_sorted,
     m_sum := PySem.W.mg_none_of X G z_sum,
     m_tuple := PySem.W.mg_none_of X G z_tuple,
     m_zip := PySem.W.mg_none_of X G z_zip,
     t_MOST_LENGTH := t_MOST_LENGTH, g_MOST_LENGTH := PySem.W.mg_of X G y_MOST_LENGTH,
     t_MOST_LOOPS := t_MOST_LOOPS, g_MOST_LOOPS := PySem.W.mg_of X G y_MOST_LOOPS,
     k_ordered := kc_ordered, P_ordered := P_ordered, C_ordered := LS13.funC_mk (st := s_ordered) l_ordered c_ordered, tb_ordered := LS13.tab_mk a_ordered l_ordered t1_ordered t2_ordered, np_ordered := t3_ordered }, rfl, rfl⟩
end My
open PySem PySem.W PyProof.Rows
set_option maxHeartbeats 0 in
theorem PySem.Challenge.cw_loopstore_k28_whole_greedy_digits_holds : PySem.Challenge.rw_loopstore_k28_whole_greedy_digits.Holds := by
  w_on; o_law; k_head; (case hw => w_witness2)
  k_fill
  refine LS13.walk_ofT (l := PySem.Challenge.rw_loopstore_k28_whole_greedy_digits) (n := 63) (k := My.lawLevel) (x := "script") (CX := fun _ => L2.CX0) rfl (by decide) rfl ⟨rfl, by decide, by decide⟩ (fun w h Y => PySem.W.km_in_of Y) ?F (fun _ _ _ _ _ h => h)
  case F =>
    intro w mg mb mean loose fa h Y KX Tp hmg
    refine' My.fin_mk KX Tp hmg ⟨_, rfl⟩ (My.all_mk (w := w) KX Tp.g ?a_is_integer ?l_is_integer ?c_is_integer ?k_is_integer ?a_is_number ?l_is_number ?c_is_number ?k_is_number ?a_are_numbers ?l_are_numbers ?c_are_numbers ?k_are_numbers ?a_is_loops ?l_is_loops ?c_is_loops ?k_is_loops ?a_check_loops ?l_check_loops ?c_check_loops ?k_check_loops ?a_ordered ?l_ordered ?c_ordered ?k_ordered ?a_doubling ?l_doubling ?c_doubling ?k_doubling ?a_check_doubling ?l_check_doubling ?c_check_doubling ?k_check_doubling ?a_taken ?l_taken ?c_taken ?k_taken ?a_digits ?l_digits ?c_digits ?k_digits ?a__law_tape ?l__law_tape ?c__law_tape ?k__law_tape ?a__law_pick ?l__law_pick ?c__law_pick ?k__law_pick ?a__law_order ?l__law_order ?c__law_order ?k__law_order ?a__law_digits ?l__law_digits ?c__law_digits ?k__law_digits ?a__law_doubled ?l__law_doubled ?c__law_doubled ?k__law_doubled ?a_law ?l_law ?c_law ?k_law ?t1_ordered ?t2_ordered ?t3_ordered ?z_all ?z_bool ?z_int ?z_isinstance ?z_len ?z_list ?z_max ?z_range ?z_reversed ?z_sorted ?z_sum ?z_tuple ?z_zip ?y_MOST_LENGTH ?y_MOST_LOOPS)
    (case a_is_integer => k_is); (case l_is_integer => k_is); (case c_is_integer => k_is); (case k_is_integer => k_is); (case a_is_number => k_is); (case l_is_number => k_is); (case c_is_number => k_is); (case k_is_number => k_is); (case a_are_numbers => k_is); (case l_are_numbers => k_is); (case c_are_numbers => k_is); (case k_are_numbers => k_is); (case a_is_loops => k_is); (case l_is_loops => k_is); (case c_is_loops => k_is); (case k_is_loops => k_is); (case a_check_loops => k_is); (case l_check_loops => k_is); (case c_check_loops => k_is); (case k_check_loops => k_is); (case a_ordered => k_is); (case l_ordered => k_is); (case c_ordered => k_is); (case k_ordered => k_is); (case a_doubling => k_is); (case l_doubling => k_is); (case c_doubling => k_is); (case k_doubling => k_is); (case a_check_doubling => k_is); (case l_check_doubling => k_is); (case c_check_doubling => k_is); (case k_check_doubling => k_is); (case a_taken => k_is); (case l_taken => k_is); (case c_taken => k_is); (case k_taken => k_is); (case a_digits => k_is); (case l_digits => k_is); (case c_digits => k_is); (case k_digits => k_is); (case a__law_tape => k_is); (case l__law_tape => k_is); (case c__law_tape => k_is); (case k__law_tape => k_is); (case a__law_pick => k_is); (case l__law_pick => k_is); (case c__law_pick => k_is); (case k__law_pick => k_is); (case a__law_order => k_is); (case l__law_order => k_is); (case c__law_order => k_is); (case k__law_order => k_is); (case a__law_digits => k_is); (case l__law_digits => k_is); (case c__law_digits => k_is); (case k__law_digits => k_is); (case a__law_doubled => k_is); (case l__law_doubled => k_is); (case c__law_doubled => k_is); (case k__law_doubled => k_is); (case a_law => k_is); (case l_law => k_is); (case c_law => k_is); (case k_law => k_is); (case t1_ordered => k_is); (case t2_ordered => rfl); (case t3_ordered => rfl); (case z_all => k_is); (case z_bool => k_is); (case z_int => k_is); (case z_isinstance => k_is); (case z_len => k_is); (case z_list => k_is); (case z_max => k_is); (case z_range => k_is); (case z_reversed => k_is); (case z_sorted => k_is); (case z_sum => k_is); (case z_tuple => k_is); (case z_zip => k_is); (case y_MOST_LENGTH => k_is); (case y_MOST_LOOPS => k_is)

