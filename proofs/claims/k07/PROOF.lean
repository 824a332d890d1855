import PyProof.Rows.All
import Wide.All
import OpenK.AllK
import Wide.FinOn
import HandS.ForMost
import HandS.Wide
import HandS.IsInst
import HandS.TupMul
import HandS.TupAny
import HandS.SortInts
import HandS.SortRule
import HandS.Strs
import HandS.Deep
import HandS.Style
import HandS.Evl
import HandS.OwnEq
import PyProof.InstNe
import HandS.Iter
import PySem.Challenge.RW_loopstore_k07_tables_are_compared
set_option Elab.async false
set_option linter.all false
set_option maxRecDepth 100000
set_option maxHeartbeats 4000000
/-! ## rules that the layer lacks -/
namespace RR
open PySem PySem.Spec PyProof.Rows L2 HT
section
variable {prog : Program} {w : World} {A : Around} {E : Value → Shared → Prop} {s : Shared}
/-- a tuple's items gathered -/
theorem collect_tuple {l : Addr} {vs : List Value} {Q : List Value → Shared → Prop} (hl : IsTup s.heap l vs.toArray)
    (h : Q vs { s with heap := (s.heap.push (seqObj "list" #[] 0)).update s.heap.objs.size (Obj.mapSeq (· ++ vs.toArray)) }) (hsz : vs.length ≤ sizeLine) :
    wpAny (model prog w) A (collect (.ref l)) Q E s := by
  obtain ⟨o, ho, hc, n, hd⟩ := id hl
  unfold collect
  refine wpAny_bind (wpAny_runValue (codeAny_builtin entry_proto_collect' ?_))
  show wpAny _ _ (do again (.builtin "list.__iadd__" ⟨[← newList [], .ref l], []⟩)) _ _ s
  refine wpAny_bind (wpAny_newList (wpAny_pure ⟨Code.quiet_builtin _ (by decide +kernel), codeAny_builtin entry_list_iadd' ?_⟩))
  show wpAny _ _ (Builtin.List.listExtendWith (.ref s.heap.objs.size) (.ref l) (.ref s.heap.objs.size)) _ _ { s with heap := s.heap.push (seqObj "list" #[] 0) }
  unfold Builtin.List.listExtendWith
  have ho' : (s.heap.push (seqObj "list" #[] 0)).get? l = some o := Heap.get?_push_of_some _ ho
  refine wpAny_bind (wpAny_typeOf (T := "tuple") ⟨o, ho', hc⟩ ?_)
  have ht : (Value.type "tuple" == Value.type "tuple") = true := by rfl
  rw [if_pos (by rw [ht]; simp)]
  refine wpAny_bind (listItems_at ho' hd ?_)
  refine wpAny_bind (listItems_at (xs := #[]) (n := 0) (Heap.get?_push_size _ rfl) rfl ?_)
  rw [if_neg (by simp)]
  refine wpAny_bind (listUpdate_at (xs := #[]) (n := 0) (Heap.get?_push_size _ rfl) rfl ?_ (Nat.zero_le _) (by show (#[] ++ vs.toArray).size ≤ sizeLine + 1; simp only [Array.size_append, List.size_toArray, List.length_nil]; omega))
  refine wpAny_pure ?_
  show wpAny (model prog w) A (do
      let o ← load s.heap.objs.size
      match o.data with
      | .seq xs _ => pure xs.toList
      | _ => unsupported "internal:collect") Q E { s with heap := (s.heap.push (seqObj "list" #[] 0)).update s.heap.objs.size (Obj.mapSeq (· ++ vs.toArray)) }
  refine wpAny_bind (wpAny_load (get?_update_seq (Heap.get?_push_size _ rfl) _) ?_)
  show wpAny _ _ (pure ((#[] : Array Value) ++ vs.toArray).toList) Q E _
  rw [show ((#[] : Array Value) ++ vs.toArray).toList = vs by simp]
  exact wpAny_pure h
theorem sorted_ordT {l : Addr} {vs : List Value} {ltv : Value → Value → Bool} {Q : Value → Shared → Prop} (O : SrtO.Swo ltv) (hl : IsTup s.heap l vs.toArray) (hz : vs.length ≤ sizeLine)
    (hS : 2 ≤ vs.length → ∀ (h₁ : Heap) (a : Addr), h₁.get? a = some (seqObj "list" vs.toArray 0) → (∀ b o, s.heap.get? b = some o → b ≠ a ∧ h₁.get? b = some o) → SrtO.SortableO prog w A.in1.in1 { s with heap := h₁ } a vs ltv)
    (h : ∀ out : List Value, SrtO.Srtd ltv out → SrtO.Stb ltv out vs → Q (.ref (s.heap.objs.size + 1)) { s with heap := sortedAll s.heap vs out.toArray }) :
    wpAny (model prog w) A (call (.builtin "sorted") [.ref l]) Q E s := by
  refine Calls.call_function_entry kind_sorted plain_sorted entry_sorted (args_sorted1 _) ?_
  unfold Builtin.«sorted»
  refine wpAny_bind (m := checkCount "sorted" 1 1 _) (wpAny_pure ?_)
  refine wpAny_bind (collect_tuple hl ?_ hz)
  refine wpAny_bind (wpAny_newList ?_ hz)
  have hsz : ((s.heap.push (seqObj "list" #[] 0)).update s.heap.objs.size (Obj.mapSeq (· ++ vs.toArray))).objs.size = s.heap.objs.size + 1 := by
    rw [Heap.size_update, size_push']
  have hoL : (((s.heap.push (seqObj "list" #[] 0)).update s.heap.objs.size (Obj.mapSeq (· ++ vs.toArray))).push (seqObj "list" vs.toArray 0)).get? (s.heap.objs.size + 1) = some (seqObj "list" vs.toArray 0) := by
    rw [← hsz]; exact Heap.get?_push_size _ rfl
  have keep : ∀ b o, s.heap.get? b = some o → b ≠ s.heap.objs.size + 1 ∧ (((s.heap.push (seqObj "list" #[] 0)).update s.heap.objs.size (Obj.mapSeq (· ++ vs.toArray))).push (seqObj "list" vs.toArray 0)).get? b = some o := fun b o q => by
    have hlt : b < s.heap.objs.size := Heap.lt_size q
    refine ⟨Nat.ne_of_lt (Nat.lt_succ_of_lt hlt), Heap.get?_push_of_some _ ?_⟩
    rw [Heap.get?_update_ne _ _ _ _ (Nat.ne_of_lt hlt)]
    exact Heap.get?_push_of_some _ q
  show wpAny _ _ _ _ _ { s with heap := ((s.heap.push (seqObj "list" #[] 0)).update s.heap.objs.size (Obj.mapSeq (· ++ vs.toArray))).push (seqObj "list" vs.toArray 0) }
  rw [hsz]
  refine wpAny_bind (wpAny_holding (wpAny_call_entry slot_list_sort ⟨_, hoL, rfl⟩ entry_list_sort (SrtO.list_sort_ord O hoL hz (fun h2 => hS h2 _ _ hoL keep) fun out hs hb => ⟨_, rfl, ?_⟩) (args_list_sort _)))
  exact wpAny_pure ⟨_, rfl, h out hs hb⟩
end
def rSortedU (K : PySem.W.Frag) : List V → Hp → VK → Prop := fun vs H Q => ∃ (a : Addr) (ns : List Int), vs = [V.ref a] ∧ SqT K H a (ns.map V.int) ∧
  ∀ (ns' : List Int) (p : Addr), ns'.Perm ns → ns'.Pairwise (· ≤ ·) → H p = none → Q (.ref p) (upd H p (.lst (ns'.map V.int)))
section
variable {X : Cx}
/-- sorted(t), t a tuple of ints -/
theorem cr_sortedU : CallR X (.builtin "sorted") (rSortedU X.K) := by
  intro pins s σ H vs us Q I r h
  obtain ⟨a, ns, rfl, hs, q⟩ := h
  obtain ⟨its, rv, hl, hz⟩ := I.tuple hs
  rw [Vals.ref1 r]
  have hi := rv.ints
  refine sorted_ordT SrtO.swo_int hl (by rw [← rv.length]; exact hz) (fun h2 h₁ a' _ _ => SrtO.ints_sortable hi h2) fun out h1 h2 => ?_
  obtain ⟨k1, k2, k3⟩ := SrtO.ints_out hi h1 h2
  obtain ⟨ep, he'⟩ := PyProof.Rows.sortedAll_at s.heap its out.toArray
  have hlen : ((out.map SrtO.iv).map V.int).length ≤ sizeLine := by
    rw [List.length_map, k2.length_eq]
    rw [List.length_map] at hz
    exact hz
  exact ⟨.ref _, upd H (s.heap.objs.size + 1) (.lst ((out.map SrtO.iv).map V.int)), I.laid (t' := s.toks) (fun _ _ => PyProof.Rows.sortedAll_old) (Nat.le_succ _) ⟨hlen, out, ep, vals_of_ints k1, he'⟩, rfl, q _ _ k2 k3 (I.hok.fresh (Nat.le_succ _))⟩
end
/-! ### t[::-1] -/
theorem adj_rev (n : Nat) : Builtin.Slice.sliceAdjust none none (-1) (n : Int) = ((n : Int) - 1, -1) := rfl
theorem pl_rev (n : Nat) : Builtin.Slice.slicePlaces ((n : Int) - 1) (-1) (-1) = n := by
  unfold Builtin.Slice.slicePlaces
  have h1 : ¬ ((-1 : Int) > 0) := by omega
  simp only [h1, if_false]
  split <;> simp <;> omega
theorem pick_rev (xs : List Value) : ((List.range xs.length).filterMap fun (m : Nat) => xs.toArray[(((xs.length : Int) - 1) + (m : Int) * (-1)).toNat]?) = xs.reverse := by
  have key : ∀ m, m ≤ xs.length → ((List.range m).filterMap fun (k : Nat) => xs.toArray[(((xs.length : Int) - 1) + (k : Int) * (-1)).toNat]?) = xs.reverse.take m := by
    intro m
    induction m with
    | zero => intro _; rfl
    | succ m ih =>
      intro hm
      rw [List.range_succ, List.filterMap_append, ih (by omega), List.take_add_one]
      have e : (((xs.length : Int) - 1) + (m : Int) * (-1)).toNat = xs.length - 1 - m := by omega
      have hl : m < xs.reverse.length := by rw [List.length_reverse]; omega
      have e2 : xs.toArray[xs.length - 1 - m]? = some (xs.reverse[m]) := by
        rw [List.getElem?_toArray, List.getElem_reverse, List.getElem?_eq_getElem]
      rw [List.getElem?_eq_getElem hl]
      simp only [List.filterMap_cons, List.filterMap_nil, e, e2, Option.toList_some]
  have := key xs.length (Nat.le_refl _)
  rw [this, List.take_of_length_le (by rw [List.length_reverse]; exact Nat.le_refl _)]
section
variable {prog : Program} {w : World} {A : Around} {E : Value → Shared → Prop} {s : Shared}
theorem sliceApplied_rev {sl : Addr} {vl vu vs : Value} {n : Nat} {Q : Int × Int × Nat → Shared → Prop} (hs : s.heap.IsSliceOf sl vl vu vs) (pl : IsPart vl none) (pu : IsPart vu none) (ps : IsPart vs (some (-1)))
    (h : Q ((n : Int) - 1, -1, n) s) : wpAny (model prog w) A (Builtin.Slice.sliceApplied (.ref sl) (pure (n : Int))) Q E s := by
  obtain ⟨os, hos, hcs, hds⟩ := id hs
  unfold Builtin.Slice.sliceApplied Builtin.Slice.sliceFields
  refine wpAny_bind (wpAny_bind (wpAny_field hos hds (x := vl) rfl (wpAny_bind (wpAny_field hos hds (x := vu) rfl (wpAny_bind (wpAny_field hos hds (x := vs) rfl (wpAny_pure ?_)))))))
  refine wpAny_bind (slicePart_ ps ?_)
  show wpAny _ _ (if ((-1 : Int) == 0) = true then _ else _) _ _ s
  rw [if_neg (by decide)]
  refine wpAny_bind (slicePart_ pl (wpAny_bind (slicePart_ pu (wpAny_bind (wpAny_pure ?_)))))
  show wpAny _ _ (match Builtin.Slice.sliceAdjust none none (-1) (n : Int) with | (lo, hi) => pure (lo, (-1 : Int), Builtin.Slice.slicePlaces lo hi (-1))) _ _ s
  rw [adj_rev n]
  show wpAny _ _ (pure ((n : Int) - 1, (-1 : Int), Builtin.Slice.slicePlaces ((n : Int) - 1) (-1) (-1))) _ _ s
  rw [pl_rev]
  exact wpAny_pure h
theorem getItem_tuple_rev {t sl : Addr} {items : List Value} {vl vu vs : Value} {Q : Value → Shared → Prop} (ht : IsTup s.heap t items.toArray) (hs : s.heap.IsSliceOf sl vl vu vs) (pl : IsPart vl none) (pu : IsPart vu none) (ps : IsPart vs (some (-1)))
    (h : Q (.ref s.heap.objs.size) { s with heap := s.heap.push { cls := .type "tuple", data := .seq items.reverse.toArray } })
    (hsz : items.length ≤ sizeLine) : wpAny (model prog w) A (getItem (.ref t) (.ref sl)) Q E s := by
  have htake : sizeOk (.seq items.reverse.toArray) := by
    show items.reverse.toArray.size ≤ sizeLine
    rw [List.size_toArray, List.length_reverse]
    omega
  obtain ⟨os, hos, hcs, hds⟩ := id hs
  have hTs : s.TypeIs (.ref sl) "slice" := ⟨os, hos, hcs⟩
  unfold getItem
  try with_reducible refine wpAny_holding ?_
  first | refine wpAny_bind (wpAny_pure ?_) | skip
  refine wpAny_bind (wpAny_sequenceKey ht.typeIs (by decide) ?_)
  refine wpAny_bind (wpAny_callSpecial?_slot (name := Str.ofString "__getitem__") ht.typeIs PyProof.Rows.slot_tuple_getitem
    (wpAny_call_entry PyProof.Rows.slot_tuple_getitem ht.typeIs entry_tuple_getitem ?_ (args_tuple_getitem _ _)))
  show wpAny _ _ (Builtin.Tuple.tupleItemsOf (.ref t) >>= _) _ _ s
  refine wpAny_bind (tupleItemsOf_ ht ?_)
  refine wpAny_bind (wpAny_typeOf hTs ?_)
  rw [if_pos (by decide)]
  rw [List.size_toArray]
  refine wpAny_bind (sliceApplied_rev hs pl pu ps ?_)
  have hno : ¬ ((((items.length : Int) - 1) == 0 && (-1 : Int) == 1 && items.length == items.length) = true) := by
    rw [show ((-1 : Int) == 1) = false from rfl, Bool.and_false, Bool.false_and]
    exact Bool.false_ne_true
  show wpAny _ _ (if (((items.length : Int) - 1) == 0 && (-1 : Int) == 1 && items.length == items.length) = true then _ else _) _ _ s
  rw [if_neg hno, pick_rev]
  first
    | exact wpAny_bind (m := Builtin.Tuple.tupleExact _) (wpAny_newObj_type (wpAny_pure ⟨_, rfl, wpAny_pure h⟩) htake)
    | exact wpAny_bind (m := Builtin.Tuple.tupleExact _) (wpAny_newObj_type (wpAny_bind (wpAny_pure (wpAny_pure ⟨_, rfl, wpAny_pure h⟩))) htake)
    | exact wpAny_bind (wpAny_bind (m := Builtin.Tuple.tupleExact _) (wpAny_newObj_type (wpAny_pure (wpAny_pure ⟨_, rfl, wpAny_pure h⟩)) htake))
    | exact wpAny_bind (wpAny_bind (m := Builtin.Tuple.tupleExact _) (wpAny_newObj_type (wpAny_pure ⟨_, rfl, wpAny_pure h⟩) htake))
end
def tRevT (K : PySem.W.Frag) (te : TE) : TE := fun σ H Q => te σ H fun x H1 => ∃ a xs, x = .ref a ∧ SqT K H1 a xs ∧ ∀ p, H1 p = none → Q (.ref p) (upd H1 p (.tup xs.reverse))
section
variable {X : Cx}
theorem pe_revT {e : Expr} {te : TE} {k : Nat} {p1 p2 p3 pos : Pos} (he : PE X e te) : PE X (.Subscript e (.Slice none none (some (.UnaryOp .USub (.Constant (.int 1) k p1) p2)) p3) pos) (tRevT X.K te) := by
  refine ⟨fun pins s σ H Q I h => ?_⟩
  refine Subscript_ (thn (he.run pins s σ H _ I h) fun v s1 ⟨x, H1, I1, r1, q1⟩ => ?_)
  obtain ⟨a, xs, ex, hx, q⟩ := q1
  subst ex
  cases r1
  have hst : PO X (some (.UnaryOp .USub (.Constant (.int 1) k p1) p2)) (tPart (tUn (rU fun i => .int (-i)) (tC (.int 1)))) := po_some (pe_un un_neg pe_int)
  refine wpAny_Slice (thn (po_none.run pins s1 σ H1 (fun o H2 => o = none ∧ H2 = H1) I1 ⟨rfl, rfl⟩) fun vl s2 ⟨l, H2, I2, pl, el, e2⟩ => ?_)
  subst el e2
  refine thn (po_none.run pins s2 σ H2 (fun o H3 => o = none ∧ H3 = H2) I2 ⟨rfl, rfl⟩) fun vu s3 ⟨u, H3, I3, pu, eu, e3⟩ => ?_
  subst eu e3
  refine thn (hst.run pins s3 σ H3 (fun o H4 => o = some (-1) ∧ H4 = H3) I3 ⟨1, rfl, -1, rfl, rfl, rfl⟩) fun vs s4 ⟨o, H4, I4, ps, eo, e4⟩ => ?_
  subst eo e4
  have I5 : Inv X pins σ H4 { s4 with heap := s4.heap.push { cls := .type "slice", data := .fields #[vl, vu, vs] } } := I4.kept (t' := s4.toks) fun b ob q => Heap.get?_push_of_some _ q
  obtain ⟨its, r, ht, hz⟩ := I5.tuple hx
  have hlen := r.length
  show wpAny (model X.prog X.w) X.A (subscriptTail e (.Slice none none (some (.UnaryOp .USub (.Constant (.int 1) k p1) p2)) p3) (.ref a) (.ref s4.heap.objs.size)) (EP X pins σ Q) X.xe { s4 with heap := s4.heap.push { cls := .type "slice", data := .fields #[vl, vu, vs] } }
  refine tail_any (ops := [.ref a, .ref s4.heap.objs.size]) ht.typeIs (PyProof.Rows.slot_tuple_getitem.lookup) ?_ (by with_unfolding_all rfl)
  refine getItem_tuple_rev ht (Heap.IsSliceOf.new _ vl vu vs) pl pu ps ?_ (by rw [← hlen]; exact hz)
  refine ⟨.ref _, _, I5.laid (t' := s4.toks) (o := .tup xs.reverse) (fun b ob q => Heap.get?_push_of_some _ q) (Nat.le_refl _) ?_, rfl, q _ (I5.hok.fresh (Nat.le_refl _))⟩
  exact ⟨by rw [List.length_reverse]; exact hz, _, r.reverse, IsTup.new _ _⟩
end
/-! ### t * k, k from 1 on -/
theorem tuple_mulW1 (l : Addr) (items : Array Value) (n : Nat) (dd : Option Addr) (sl : Array (Option Value)) (u : Tok) :
    Meets (Builtin.«tuple.__mul__» ⟨[.ref l, .int 1 u], []⟩) (fun _ R s => s.heap.get? l = some { cls := .type "tuple", dict := dd, data := .seq items n, slots := sl } ∧ R (.ok (.ret (Value.ref l))) s) :=
  .of_wp fun prog w A R s h => by
    obtain ⟨hp, g, d, tk, os⟩ := s
    obtain ⟨hl, h⟩ := h
    have f1 := AutoSeq1.idx_int
    have c0 : (decide ((1 : Int) < -(2 ^ 63)) || decide ((1 : Int) ≥ 2 ^ 63)) = false := by decide
    have c1 : (items.isEmpty || (1 : Int) == 1) = true := by rw [show ((1 : Int) == 1) = true from rfl, Bool.or_true]
    wp_walk using wpAny_loadPart' hl
    repeat (first
      | (refine wpAny_ite_false (decide_eq_false (by rw [c0]; exact Bool.false_ne_true)) ?_; wp_walk using wpAny_loadPart' hl)
      | (refine wpAny_ite_true (decide_eq_true c1) ?_; wp_walk using wpAny_loadPart' hl))
    exact ⟨_, rfl, h⟩
def rRepA (K : PySem.W.Frag) : R2 := fun x y H Q => ∃ l k xs, x = .ref l ∧ y = .int k ∧ SqT K H l xs ∧ xs ≠ [] ∧ 1 ≤ k ∧ k ≤ 1000 ∧ xs.length ≤ 1000 ∧ (k = 1 → Q (.ref l) H) ∧ (k ≠ 1 → ∀ p, H p = none → Q (.ref p) (upd H p (.tup (List.replicate k.toNat xs).flatten)))
section
variable {X : Cx}
theorem op_repA : OpR X (binaryOp .Mult) (rRepA X.K) := by
  intro pins s σ H x y v u Q I rx ry h
  obtain ⟨l, k, xs, rfl, rfl, hT, hne, h1, h2, hz, q1, q2⟩ := h
  by_cases hk : k = 1
  · subst hk
    cases rx
    obtain ⟨t, rfl⟩ := ry
    obtain ⟨its, r, ⟨⟨cls, dd, data, sl⟩, ho, hc, n, hd⟩, hs⟩ := I.tuple hT
    simp only at hc hd
    subst hc hd
    refine wpAny_binaryOp_repeat_ref (T := "tuple") (U := "int") (by decide) ⟨_, ho, rfl⟩ (fun s' => typeIs_int s' 1 t) noFill_tuple_mul F.fills_int_mul F.slot_int_rmul repeat_tuple F.slot_int_index.lookup
      (call_meets F.slot_int_rmul (typeIs_int s 1 t) F.entry_int_rmul (F.args_int_rmul_2 _ _) (int_rmul_tuple 1 t l its.toArray n dd sl)
        ⟨ho, rfl, ⟨_, ho, rfl⟩, call_meets F.slot_tuple_mul ⟨_, ho, rfl⟩ F.entry_tuple_mul (F.args_tuple_mul_2 _ _) (tuple_mulW1 l its.toArray n dd sl t) ⟨ho, ?_⟩⟩)
    exact ⟨.ref l, H, I, rfl, q1 rfl⟩
  · exact op_repT pins s σ H _ _ v u Q I rx ry ⟨l, k, xs, rfl, rfl, hT, hne, by omega, h2, hz, q2 hk⟩
end
end RR

/-! ## enumerate over a tuple; an empty tuple times k -/
namespace RR
open PySem PySem.Spec PyProof.Rows L2 HT
open Sem (wp)
open AutoSeq1 (wpAny_loadPart')
section
variable {prog : Program} {w : World} {A : Around} {E : Value → Shared → Prop} {s : Shared}
theorem next_tuple_item {it t : Addr} {i : Nat} {items} {x : Value} {Q : Value → Shared → Prop} (hit : s.heap.IsTupleIter it t i)
    (ht : s.heap.IsTuple t items) (hx : items[i]? = some x)
    (hQ : ∀ h', h'.IsTupleIter it t (i + 1) → Heap.SameBut it s.heap h' → Q x { s with heap := h' }) :
    wpAny (model prog w) A (Builtin.SmallTypes.nextOf (.ref it)) Q E s := by
  obtain ⟨o, ho, hc, hd⟩ := id hit
  obtain ⟨ol, hol, _, nl, hdl⟩ := ht
  unfold Builtin.SmallTypes.nextOf
  refine wpAny_bind (wpAny_callSpecial?_slot (name := Str.ofString "__next__") hit.typeIs F.slot_tuple_iterator_next
    (wpAny_call_entry F.slot_tuple_iterator_next hit.typeIs F.entry_tuple_iterator_next ?_ (F.args_tuple_iterator_next_1 _)))
  show wpAny _ _ (field (.ref it) 0 >>= _) _ _ s
  refine wpAny_bind (wpAny_field ho hd (x := .ref t) rfl ?_)
  show wpAny _ _ (if (Value.ref t == Value.none) = true then _ else _) _ _ s
  rw [if_neg (show ¬ ((Value.ref t == Value.none) = true) from Bool.false_ne_true)]
  show wpAny _ _ (field (.ref it) 1 >>= _) _ _ s
  refine wpAny_bind (wpAny_field ho hd (x := .int i 0) rfl ?_)
  show wpAny _ _ (seqItems? (.ref t) >>= _) _ _ s
  refine wpAny_bind (wpAny_seqItems hol hdl ?_)
  simp only [Int.toNat_natCast, hx]
  refine wpAny_bind (wpAny_setField ho hd (by simp) (wpAny_pure ⟨x, rfl, wpAny_pure (hQ _ ?_ (Heap.SameBut.update ..))⟩))
  exact ⟨_, Heap.get?_update_self _ ho (Obj.isFreed_of_fields (Obj.data_mapFields hd _)), (Obj.cls_mapFields ..).trans hc, by
    rw [Obj.data_mapFields hd]; simp [rawInt]⟩
theorem next_tuple_end {it t : Addr} {i : Nat} {items} {Q : Value → Shared → Prop} (hh : A.handled = none)
    (hit : s.heap.IsTupleIter it t i) (ht : s.heap.IsTuple t items) (hx : items[i]? = none)
    (hE : ∀ h' e, Heap.ExtBut it s.heap h' → (∃ o, h'.get? e = some o ∧ o.cls = .type "StopIteration") → E (.ref e) { s with heap := h' }) :
    wpAny (model prog w) A (Builtin.SmallTypes.nextOf (.ref it)) Q E s := by
  obtain ⟨o, ho, hc, hd⟩ := id hit
  obtain ⟨ol, hol, _, nl, hdl⟩ := ht
  unfold Builtin.SmallTypes.nextOf
  refine wpAny_bind (wpAny_callSpecial?_slot (name := Str.ofString "__next__") hit.typeIs F.slot_tuple_iterator_next
    (wpAny_call_entry F.slot_tuple_iterator_next hit.typeIs F.entry_tuple_iterator_next ?_ (F.args_tuple_iterator_next_1 _)))
  show wpAny _ _ (field (.ref it) 0 >>= _) _ _ s
  refine wpAny_bind (wpAny_field ho hd (x := .ref t) rfl ?_)
  show wpAny _ _ (if (Value.ref t == Value.none) = true then _ else _) _ _ s
  rw [if_neg (show ¬ ((Value.ref t == Value.none) = true) from Bool.false_ne_true)]
  show wpAny _ _ (field (.ref it) 1 >>= _) _ _ s
  refine wpAny_bind (wpAny_field ho hd (x := .int i 0) rfl ?_)
  show wpAny _ _ (seqItems? (.ref t) >>= _) _ _ s
  refine wpAny_bind (wpAny_seqItems hol hdl ?_)
  simp only [Int.toNat_natCast, hx]
  refine wpAny_bind (wpAny_rule (wpAny_bind (wpAny_setField ho hd (by simp) ?_)))
  show wpAny _ _ (newExc (.type "StopIteration") [] >>= _) _ _ _
  refine wpAny_bind ?_
  simp only [newExc, newTuple]
  refine wpAny_bind (wpAny_newObj_type ?_ (by size_fits))
  refine wpAny_bind (m := firstArgMember _ _) (wpAny_of_eq (a := Value.none) (by first | rfl | (simp only [firstArgMember]; rfl)) ?_)
  refine wpAny_newObj_type ?_ (by size_fits)
  simp only [raiseNew]
  refine wpAny_bind (wpAny_handled ?_)
  first | rw [show A.in1.handled = none from hh] | rw [hh]
  refine wpAny_bind (wpAny_pure (wpAny_throw ?_))
  exact hE _ _ (((Heap.SameBut.update ..).extBut.push _).push _) ⟨_, Heap.get?_push_size _ rfl, rfl⟩
end
theorem tup_at {h h' : Heap} {a : Addr} {items} (x : h.IsTuple a items) (e : ∀ o, h.get? a = some o → h'.get? a = some o) : h'.IsTuple a items := let ⟨o, ho, r⟩ := x; ⟨o, e _ ho, r⟩
theorem draws_tuple {prog : Program} {w : World} {A : Around} (hh : A.handled = none) (it l : Addr) (hne : l ≠ it) (items : Array Value) :
    Draws prog w A it [it, l] items.size (fun i v => items[i]? = some v) (fun i h => h.IsTupleIter it l i ∧ h.IsTuple l items) where
  live := fun _ _ st => let ⟨o, ho, _⟩ := st.1; ⟨o, ho⟩
  frame := fun _ _ _ st hk => ⟨st.1.at fun o e => hk it (by simp) o e, tup_at st.2 fun o e => hk l (by simp) o e⟩
  item := fun i s Q E hi st hQ => by
    refine next_tuple_item st.1 st.2 (x := items[i]) (by simp [hi]) fun h' hit' hs' => ?_
    exact hQ _ h' s.toks (by simp [hi]) ⟨hit', st.2.extBut hs'.extBut hne⟩ hs'
  done := fun s Q E st hE => next_tuple_end hh st.1 st.2 (by simp) hE
theorem enumerate_newT (l : Addr) (items : Array Value) (n : Nat) (dct : Option Addr) (sl : Array (Option Value)) :
    Meets (Builtin.«enumerate.__new__» ⟨[.type "enumerate", .ref l], []⟩) (fun _ R s => s.heap.get? l = some { cls := .type "tuple", dict := dct, data := .seq items n, slots := sl } ∧
      R (.ok (.ret (.ref (s.heap.push { cls := .type "tuple_iterator", data := .fields #[.ref l, .int 0 0] }).objs.size)))
        { s with heap := (s.heap.push { cls := .type "tuple_iterator", data := .fields #[.ref l, .int 0 0] }).push { cls := .type "enumerate", data := .fields #[.none, .bool false, .ref s.heap.objs.size, rawInt 0, .none, .none] } }) :=
  .of_wp fun prog w A R s h => by
    obtain ⟨hp, g, d, tk, os⟩ := s; obtain ⟨hl, h⟩ := h
    have hsub := sub_enumerate
    have hL : Heap.IsTuple (Shared.heap ⟨hp, g, d, tk, os⟩) l items := ⟨_, hl, rfl, n, rfl⟩
    wp_walk using wpAny_loadPart' hl
    refine wpAny_stack_any fun st => wpAny_pure ?_
    split
    · rename_i c _ _ _ _ _
      cases (c == Value.type "enumerate")
      · wp_walk using wpAny_loadPart' hl, wpAny_pyIter_tuple hL
        exact ⟨_, rfl, h⟩
      · wp_walk using wpAny_loadPart' hl, wpAny_pyIter_tuple hL
        exact ⟨_, rfl, h⟩
    · wp_walk using wpAny_loadPart' hl, wpAny_pyIter_tuple hL
      exact ⟨_, rfl, h⟩
section
variable {prog : Program} {w : World} {A : Around} {E : Value → Shared → Prop} {s : Shared}
theorem call_enumerate_tuple {l : Addr} {items : Array Value} {Q : Value → Shared → Prop} (hL : s.heap.IsTuple l items)
    (h : ∀ h', IsEnum h' (s.heap.objs.size + 1) s.heap.objs.size 0 .none → h'.IsTupleIter s.heap.objs.size l 0 → h'.objs.size = s.heap.objs.size + 2 →
      (∀ b o, s.heap.get? b = some o → h'.get? b = some o) → Q (.ref (s.heap.objs.size + 1)) { s with heap := h' }) :
    wpAny (model prog w) A (call (.type "enumerate") [.ref l]) Q E s := by
  obtain ⟨⟨c, dct, dt, sl⟩, hl, hc, n, hd⟩ := hL
  replace hc : c = .type "tuple" := hc
  replace hd : dt = .seq items n := hd
  subst hc hd
  refine callType_new F.called_enumerate (by decide) (F.typeCall_enumerate_1 _) (F.newCall_enumerate_1 _) (fun obj => F.args_object_init_2 obj _) F.entry_enumerate_new
    (enumerate_newT l items n dct sl) ⟨hl, ?_⟩
  have hz : (s.heap.push { cls := .type "tuple_iterator", data := .fields #[.ref l, .int 0 0] }).objs.size = s.heap.objs.size + 1 := Heap.size_push ..
  show _ ∧ _
  rw [hz]
  have he : IsEnum ((s.heap.push { cls := .type "tuple_iterator", data := .fields #[.ref l, .int 0 0] }).push
      { cls := .type "enumerate", data := .fields #[.none, .bool false, .ref s.heap.objs.size, rawInt 0, .none, .none] }) (s.heap.objs.size + 1) s.heap.objs.size 0 .none := by
    have := Heap.get?_push_size (s.heap.push { cls := .type "tuple_iterator", data := .fields #[.ref l, .int 0 0] })
      (o := { cls := .type "enumerate", data := .fields #[.none, .bool false, .ref s.heap.objs.size, rawInt 0, .none, .none] }) rfl
    rw [hz] at this; exact this
  refine ⟨⟨_, he, rfl⟩, h _ he ⟨_, Heap.get?_push_of_some _ (Heap.get?_push_size _ rfl), rfl, rfl⟩ (by rw [Heap.size_push, hz]) fun b o x => Heap.get?_push_of_some _ (Heap.get?_push_of_some _ x)⟩
end
/-- the tuple at a, each item in a new pair -/
def IteT (K : PySem.W.Frag) (a : Addr) : It :=
  ⟨fun i H => ∃ (xs : List V) (x : V), SqT K H a xs ∧ xs[i]? = some x, fun i H v H' => ∃ T x, v = .ref T ∧ H T = none ∧ H' = upd H T (.tup [.int (i : Nat), x]) ∧ ∀ xs, SqT K H a xs → xs[i]? = some x, fun i H => ∃ xs : List V, SqT K H a xs ∧ xs.length ≤ i⟩
theorem turn_enumT {P : Program} {w : World} {K : PySem.W.Frag} {elts : List Expr} {kk : Nat} {tpos : Pos} (a e it : Addr) :
    Turn P w K (.Tuple elts kk tpos) (IteT K a) [e, it] e (fun i h => (∃ old, IsEnum h e it ((i : Nat) : Int) old) ∧ h.IsTupleIter it a i ∧ e ≠ it ∧ a ≠ it ∧ a ≠ e) where
  mem := by simp
  obj := fun i h st b hb => by
    obtain ⟨⟨old, he⟩, ⟨o, ho, hc, hd⟩, _⟩ := st
    have e' : b = e ∨ b = it := by simpa using hb
    rcases e' with z | z
    · rw [z]; exact ⟨_, he, fun v q => nomatch q⟩
    · rw [z]; exact ⟨o, ho, fun v q => by rw [hd] at q; cases q⟩
  keep := fun i h h' st k => let ⟨⟨old, he⟩, hi, hne⟩ := st; ⟨⟨old, k e (by simp) _ he⟩, hi.at fun o q => k it (by simp) o q, hne⟩
  item := by
    intro X hP hw hK hc i pins s σ H E I hf st hg
    subst hP hw hK
    obtain ⟨⟨old, he⟩, hit, hne, hai, hae⟩ := st
    obtain ⟨xs, x, hq, hx⟩ := hg
    obtain ⟨its, rv, p, hz⟩ := I.tuple hq
    obtain ⟨u, hu, ru⟩ := rv.get hx
    have hel : e < s.heap.objs.size := Heap.lt_size he
    have hil : it < s.heap.objs.size := by obtain ⟨_, q, _⟩ := hit; exact Heap.lt_size q
    have hlt : i < its.toArray.size := by
      have := (List.getElem?_eq_some_iff.mp hu).1
      simpa using this
    refine wpAny_pyNext_enum_itemD (draws_tuple (prog := X.prog) (w := X.w) (A := X.A.in1) (show X.A.in1.handled = none from I.ok.hd hc) it a hai its.toArray) he ⟨hit, (show s.heap.IsTuple a its.toArray from p)⟩ hlt hne (by simp [hne, Ne.symm hae]) fun y h' tk hy ho hst' hT hsz hk => ?_
    have hyu : y = u := by
      have h2 : its.toArray[i]? = some u := by simpa using hu
      exact Option.some.inj (hy.symm.trans h2)
    subst hyu
    refine ⟨_, rfl, wpAny_letOwnedTupleGo_enum (s := { s with heap := h', toks := tk + 1 }) ho fun h'' he' sb => ?_⟩
    have hT2 : h''.get? s.heap.objs.size = some { cls := .type "tuple", data := .seq #[.int i tk, y] } := (sb.2 _ (Nat.ne_of_gt hel)).trans hT
    have new : ObjOk X.prog X.w (upd H s.heap.objs.size (.tup [.int (i : Nat), x])) h'' s.heap.objs.size (.tup [.int (i : Nat), x]) :=
      ⟨by show 2 ≤ sizeLine; decide, [.int i tk, y], .cons ⟨_, rfl⟩ (.cons ru .nil), ⟨_, hT2, rfl, _, rfl⟩⟩
    have I1 : Inv X pins σ (upd H s.heap.objs.size (.tup [.int (i : Nat), x])) { s with heap := h'', toks := tk + 1 } :=
      I.turnedNew (ch := [e, it]) (fun b ob hb q => (sb.2 b (fun z => hb (by simp [z]))).trans (hk b ob (fun z => hb (by simp [z])) (fun z => hb (by simp [z])) q)) hf (Nat.le_refl _) new
    refine ⟨.ref s.heap.objs.size, _, I1, rfl, ⟨_, x, rfl, I.hok.fresh (Nat.le_refl _), rfl, fun ys hy => by rw [I.tuple_inj hy hq]; exact hx⟩, ⟨⟨y, ?_⟩, hst'.1.at fun o q => (sb.2 it (Ne.symm hne)).trans q, hne, hai, hae⟩, fun b hb => ?_⟩
    · have e1 : ((i + 1 : Nat) : Int) = (i : Int) + 1 := by omega
      rw [e1]; exact he'
    · have hb' : b < s.heap.objs.size := by
        have e' : b = e ∨ b = it := by simpa using hb
        rcases e' with z | z
        · rw [z]; exact hel
        · rw [z]; exact hil
      rw [upd_ne (Nat.ne_of_lt hb')]
      exact (hf b hb).1
  done := by
    intro X hP hw hK hc i pins s σ H E I hf st hg
    subst hP hw hK
    obtain ⟨⟨old, he⟩, hit, hne, hai, hae⟩ := st
    obtain ⟨xs, hq, hx⟩ := hg
    obtain ⟨its, rv, p, hz⟩ := I.tuple hq
    obtain ⟨f0, f1, f2, f3, f4, f5⟩ := hf it (by simp)
    have hl := rv.length
    have hT : s.TypeIs (.ref e) "enumerate" := ⟨_, he, rfl⟩
    unfold pyNext
    refine wpAny_bind (wpAny_attempt (wpAny_callSpecial?_slot (name := Str.ofString "__next__") hT F.slot_enumerate_next
      (wpAny_call_entry F.slot_enumerate_next hT F.entry_enumerate_next ?_ (F.args_enumerate_next_1 _))))
    show wpAny _ _ (field (.ref e) 2 >>= _) _ _ _
    refine wpAny_bind (wpAny_field he rfl (x := .ref it) rfl ?_)
    refine wpAny_bind (next_tuple_end (I.ok.hd hc) hit (show s.heap.IsTuple a its.toArray from p) (by simp; omega) fun h' x eb hx' => ?_)
    obtain ⟨o, ho, hc'⟩ := hx'
    refine wpAny_bind (wpAny_isInstance (T := "StopIteration") (b := true) ⟨o, ho, hc'⟩ isSubtype_stop ?_)
    exact wpAny_pure ⟨rfl, I.turned (t' := s.toks) (fun b o hb q => eb b o hb q) f0 f1 f3 f4 f5⟩
  self := fun A i s Q E st h => let ⟨⟨_, he⟩, _⟩ := st; wpAny_pyIter_enum he h
def iEnumT (K : PySem.W.Frag) (ta : TA) : TI := fun σ H R => ta σ H fun vs H1 => ∃ a xs, vs = [.ref a] ∧ SqT K H1 a xs ∧ R (IteT K a) H1
theorem pi_enumT {X : Cx} {e : Expr} {ta : TA} {p pos tpos : Pos} {elts : List Expr} {kk : Nat} (hg : Gl X "enumerate") (hm : X.mg "enumerate" = none) (ha : PA X [e] ta) (hs : starEach [e] X.env = [(false, eval e X.env)] := by rfl) :
    PI X (.Tuple elts kk tpos) (.Call (.Name "enumerate" p) [e] [] pos) (iEnumT X.K ta) := by
  refine ⟨fun pins s σ H R I h => ?_⟩
  refine Call_ (ld_blt I hg hm boot_enumerate (PyProof.Rows.callWith_type1 (thn (ha.run pos pins s σ H _ I h) fun us s1 ⟨vs, H1, I1, r1, q1⟩ => ?_) hs rfl))
  obtain ⟨a, xs, ex, hq, q⟩ := q1
  subst ex
  cases r1 with
  | cons r rr =>
    cases rr
    cases r
    obtain ⟨its, rv, p', hz⟩ := I1.tuple hq
    have hp : s1.heap.IsTuple a its.toArray := p'
    have hal : a < s1.heap.objs.size := by obtain ⟨_, q, _⟩ := hp; exact Heap.lt_size q
    refine call_enumerate_tuple hp fun h' he hit hsz hk => wpAny_pyIter_enum he ?_
    have I2 : Inv X pins σ H1 { s1 with heap := h' } := I1.kept (t' := s1.toks) hk
    refine ⟨s1.heap.objs.size + 1, [s1.heap.objs.size + 1, s1.heap.objs.size], _, _, H1, rfl, I2, turn_enumT a (s1.heap.objs.size + 1) s1.heap.objs.size, ⟨⟨.none, he⟩, hit, Nat.succ_ne_self _, Nat.ne_of_lt hal, Nat.ne_of_lt (Nat.lt_succ_of_lt hal)⟩, fun b hb => ?_, q⟩
    have e' : b = s1.heap.objs.size + 1 ∨ b = s1.heap.objs.size := by simpa using hb
    have hle : s1.heap.objs.size ≤ b := by
      rcases e' with z | z
      · rw [z]; exact Nat.le_add_right _ _
      · rw [z]; exact Nat.le_refl _
    exact I1.fpOk hle (I1.hok.fresh hle)
theorem for_enumT {K : PySem.W.Frag} {a : Addr} {xs : List V} {g : TG} {tb : TS} {D : Ends} {σ : L2.St} {H : Hp} (Pv : Nat → L2.St → Hp → Prop) (h0 : Pv 0 σ H) (hl : ∀ i σ H, i ≤ xs.length → Pv i σ H → SqT K H a xs)
    (hs : ∀ i x T σ H, xs[i]? = some x → Pv i σ H → H T = none → g (.ref T) σ (upd H T (.tup [.int (i : Nat), x])) fun σ2 H2 => tb { D with nx := Pv (i + 1), ct := Pv (i + 1), bk := D.nx } σ2 H2) (hd : ∀ σ H, Pv xs.length σ H → D.nx σ H) :
    ∃ W : Nat → Nat → L2.St → Hp → Prop, (∃ m, W 0 m σ H) ∧ ∀ i m σ H, W i m σ H →
      ((IteT K a).stop i H ∧ D.nx σ H) ∨ ((IteT K a).go i H ∧ ∃ N : L2.St → Hp → Prop, (∀ σ' H', N σ' H' → ∃ m', m' < m ∧ W (i + 1) m' σ' H') ∧ ∀ x H', (IteT K a).yld i H x H' → g x σ H' fun σ2 H2 => tb { D with nx := N, ct := N, bk := D.nx } σ2 H2) := by
  refine ⟨fun i m σ H => m = xs.length - i ∧ i ≤ xs.length ∧ Pv i σ H, ⟨xs.length, by simp, Nat.zero_le _, h0⟩, ?_⟩
  rintro i m σ H ⟨rfl, hi, p⟩
  have hL := hl i σ H hi p
  by_cases h : i < xs.length
  · refine .inr ⟨⟨xs, xs[i], hL, List.getElem?_eq_getElem h⟩, Pv (i + 1), fun σ' H' n => ⟨xs.length - (i + 1), by omega, rfl, by omega, n⟩, ?_⟩
    rintro v H' ⟨T, x, rfl, nT, rfl, hx⟩
    exact hs i x T σ H (hx xs hL) p nT
  · have e : i = xs.length := by omega
    subst e
    exact .inl ⟨⟨xs, hL, Nat.le_refl _⟩, hd σ H p⟩
theorem for_enumL {K : PySem.W.Frag} {a : Addr} {xs : List V} {g : TG} {tb : TS} {D : Ends} {σ : L2.St} {H : Hp} (Pv : Nat → L2.St → Hp → Prop) (h0 : Pv 0 σ H) (hl : ∀ i σ H, i ≤ xs.length → Pv i σ H → SqL K H a xs)
    (hs : ∀ i x T σ H, xs[i]? = some x → Pv i σ H → H T = none → g (.ref T) σ (upd H T (.tup [.int (i : Nat), x])) fun σ2 H2 => tb { D with nx := Pv (i + 1), ct := Pv (i + 1), bk := D.nx } σ2 H2) (hd : ∀ σ H, Pv xs.length σ H → D.nx σ H) :
    ∃ W : Nat → Nat → L2.St → Hp → Prop, (∃ m, W 0 m σ H) ∧ ∀ i m σ H, W i m σ H →
      ((Ite K a).stop i H ∧ D.nx σ H) ∨ ((Ite K a).go i H ∧ ∃ N : L2.St → Hp → Prop, (∀ σ' H', N σ' H' → ∃ m', m' < m ∧ W (i + 1) m' σ' H') ∧ ∀ x H', (Ite K a).yld i H x H' → g x σ H' fun σ2 H2 => tb { D with nx := N, ct := N, bk := D.nx } σ2 H2) := by
  refine ⟨fun i m σ H => m = xs.length - i ∧ i ≤ xs.length ∧ Pv i σ H, ⟨xs.length, by simp, Nat.zero_le _, h0⟩, ?_⟩
  rintro i m σ H ⟨rfl, hi, p⟩
  have hL := hl i σ H hi p
  by_cases h : i < xs.length
  · refine .inr ⟨⟨xs, xs[i], hL, List.getElem?_eq_getElem h⟩, Pv (i + 1), fun σ' H' n => ⟨xs.length - (i + 1), by omega, rfl, by omega, n⟩, ?_⟩
    rintro v H' ⟨T, x, rfl, nT, rfl, hx⟩
    exact hs i x T σ H (hx xs hL) p nT
  · have e : i = xs.length := by omega
    subst e
    exact .inl ⟨⟨xs, hL, Nat.le_refl _⟩, hd σ H p⟩
/-! ### () * k -/
theorem tuple_mul0 (l : Addr) (n : Nat) (dd : Option Addr) (sl : Array (Option Value)) (x : Int) (u : Tok) (c0 : (decide (x < -(2 ^ 63)) || decide (x ≥ 2 ^ 63)) = false) :
    Meets (Builtin.«tuple.__mul__» ⟨[.ref l, .int x u], []⟩) (fun _ R s => s.heap.get? l = some { cls := .type "tuple", dict := dd, data := .seq #[] n, slots := sl } ∧ R (.ok (.ret (Value.ref l))) s) :=
  .of_wp fun prog w A R s h => by
    obtain ⟨hp, g, d, tk, os⟩ := s
    obtain ⟨hl, h⟩ := h
    have f1 := AutoSeq1.idx_int
    have c1 : ((#[] : Array Value).isEmpty || x == 1) = true := rfl
    wp_walk using wpAny_loadPart' hl
    repeat (first
      | (refine wpAny_ite_false (decide_eq_false (by rw [c0]; exact Bool.false_ne_true)) ?_; wp_walk using wpAny_loadPart' hl)
      | (refine wpAny_ite_true (decide_eq_true c1) ?_; wp_walk using wpAny_loadPart' hl))
    exact ⟨_, rfl, h⟩
def rRepZ (K : PySem.W.Frag) : R2 := fun x y H Q => ∃ l k xs, x = .ref l ∧ y = .int k ∧ SqT K H l xs ∧ 1 ≤ k ∧ k ≤ 1000 ∧ xs.length ≤ 1000 ∧ ∀ p H', (∀ b o, H b = some o → H' b = some o) → SqT K H' p (List.replicate k.toNat xs).flatten → Q (.ref p) H'
theorem flat_nil {α : Type} (k : Nat) : (List.replicate k ([] : List α)).flatten = [] := by
  induction k with
  | zero => rfl
  | succ k ih => rw [List.replicate_succ, List.flatten_cons, ih]; rfl
theorem op_repZ {X : Cx} : OpR X (binaryOp .Mult) (rRepZ X.K) := by
  intro pins s σ H x y v u Q I rx ry h
  obtain ⟨l, k, xs, rfl, rfl, hT, h1, h2, hz, q⟩ := h
  by_cases hne : xs = []
  · subst hne
    cases rx
    obtain ⟨t, rfl⟩ := ry
    obtain ⟨its, r, ⟨⟨cls, dd, data, sl⟩, ho, hc, n, hd⟩, hs⟩ := I.tuple hT
    simp only at hc hd
    subst hc hd
    cases r
    have c0 : (decide (k < -(2 ^ 63)) || decide (k ≥ 2 ^ 63)) = false := by
      rw [decide_eq_false (by omega), decide_eq_false (by omega)]
      rfl
    refine wpAny_binaryOp_repeat_ref (T := "tuple") (U := "int") (by decide) ⟨_, ho, rfl⟩ (fun s' => typeIs_int s' k t) noFill_tuple_mul F.fills_int_mul F.slot_int_rmul repeat_tuple F.slot_int_index.lookup
      (call_meets F.slot_int_rmul (typeIs_int s k t) F.entry_int_rmul (F.args_int_rmul_2 _ _) (int_rmul_tuple k t l #[] n dd sl)
        ⟨ho, rfl, ⟨_, ho, rfl⟩, call_meets F.slot_tuple_mul ⟨_, ho, rfl⟩ F.entry_tuple_mul (F.args_tuple_mul_2 _ _) (tuple_mul0 l n dd sl k t c0) ⟨ho, ?_⟩⟩)
    exact ⟨.ref l, H, I, rfl, q l H (fun _ _ h => h) (by rw [flat_nil]; exact hT)⟩
  · refine op_repA pins s σ H _ _ v u Q I rx ry ⟨l, k, xs, rfl, rfl, hT, hne, h1, h2, hz, fun e => ?_, fun e p np => ?_⟩
    · refine q l H (fun _ _ h => h) ?_
      subst e
      show SqT X.K H l ([xs]).flatten
      simpa using hT
    · refine q p _ (fun b o e => by rw [upd_ne (ne_of_none e np)]; exact e) (SqT.of upd_same)
end RR

/-! ## heaps, tuples, data, sorts -/
namespace My
open PySem PySem.Spec PyProof.Rows L2
--ANN _law_pick | cut if tape[1] < len(tape[0]): | cut
/-! ### heaps -/
theorem same_upd {H : Hp} {p : Addr} {o : HO} (h : H p = none) : Same H (upd H p o) := fun b x e => by
  rw [upd_ne (ne_of_none e h)]
  exact e
/-- all but t stays -/
def Moved (t : Addr) (H H' : Hp) : Prop := ∀ b o, b ≠ t → H b = some o → H' b = some o
theorem Moved.refl {t : Addr} {H : Hp} : Moved t H H := fun _ _ _ h => h
theorem Moved.trans {t : Addr} {H H1 H2 : Hp} (a : Moved t H H1) (b : Moved t H1 H2) : Moved t H H2 := fun c o n h => b c o n (a c o n h)
theorem Moved.upd {t : Addr} {H : Hp} {o : HO} : Moved t H (upd H t o) := fun b x n e => by
  rw [upd_ne n]
  exact e
theorem Moved.same {t : Addr} {H H' : Hp} (h : Same H H') : Moved t H H' := fun b o _ e => h b o e
theorem Moved.free {t : Addr} {H H' : Hp} (h : Moved t H H') {p : Addr} (n : p ≠ t) (e : H' p = none) : H p = none := by
  cases q : H p with
  | none => rfl
  | some o =>
    rw [h p o n q] at e
    cases e
/-! ### the tape: where the draws stand -/
def Tape (H : Hp) (t s : Addr) : Prop := ∃ (ns : List Int) (pos rest mx ct : Int), s ≠ t ∧ H t = some (.lst [.ref s, .int pos, .int rest, .int mx, .int ct]) ∧ H s = some (.lst (ns.map V.int)) ∧ 0 ≤ pos
theorem Tape.keep {t s : Addr} {H H' : Hp} (h : Tape H t s) (e : Same H H') : Tape H' t s := by
  obtain ⟨ns, a, b, c, d, h1, h2, h3, h4⟩ := h
  exact ⟨ns, a, b, c, d, h1, e _ _ h2, e _ _ h3, h4⟩
theorem Tape.ne {t s p : Addr} {H : Hp} (h : Tape H t s) (np : H p = none) : p ≠ t := fun e => by
  obtain ⟨ns, a, b, c, d, h1, h2, h3, h4⟩ := h
  rw [e, h2] at np
  cases np
theorem Tape.ne2 {t s p : Addr} {H : Hp} (h : Tape H t s) (np : H p = none) : p ≠ s := fun e => by
  obtain ⟨ns, a, b, c, d, h1, h2, h3, h4⟩ := h
  rw [e, h3] at np
  cases np
theorem Tape.but {t s r : Addr} {H : Hp} {o : HO} (h : Tape H t s) (n : r ≠ t) (n2 : r ≠ s) : Tape (upd H r o) t s := by
  obtain ⟨ns, a, b, c, d, h1, h2, h3, h4⟩ := h
  refine ⟨ns, a, b, c, d, h1, ?_, ?_, h4⟩
  · rw [upd_ne n.symm]
    exact h2
  · rw [upd_ne n2.symm]
    exact h3
section
variable {K : PySem.W.Frag} {H : Hp}
theorem tyTup {a : Addr} {xs : List V} (h : SqT K H a xs) : TyX K H (.ref a) (.type "tuple") := by
  rcases h with (h | ⟨o, h⟩) | h
  · exact .base (.tup h)
  · exact .fTuple h
  · obtain ⟨o, n, vs, e, c, _⟩ := h
    exact .kTuple e c
theorem sT {H' : Hp} {a : Addr} {xs : List V} (e : Same H H') (h : SqT K H a xs) : SqT K H' a xs := by
  rcases h with (h | ⟨o, h⟩) | h
  · exact .inl (.inl (e _ _ h))
  · exact .inl (.inr ⟨o, e _ _ h⟩)
  · exact .inr h
end
/-! ### new tuples, one for each -/
theorem small2000 {n : Nat} (h : n ≤ 2000) : n < sizeLine := by
  show n < 2 ^ 24
  omega
inductive Tups {α : Type} (f : α → List V) (H : Hp) : List Addr → List α → Prop
  | nil : Tups f H [] []
  | cons {p : Addr} {x : α} {ps : List Addr} {xs : List α} : H p = some (.tup (f x)) → Tups f H ps xs → Tups f H (p :: ps) (x :: xs)
section
variable {α : Type} {f : α → List V} {H H' : Hp}
theorem Tups.keep {ps : List Addr} {xs : List α} (h : Tups f H ps xs) (e : ∀ b ys, H b = some (.tup ys) → H' b = some (.tup ys)) : Tups f H' ps xs := by
  induction h with
  | nil => exact .nil
  | cons a _ ih => exact .cons (e _ _ a) ih
theorem Tups.same {ps : List Addr} {xs : List α} (h : Tups f H ps xs) (e : Same H H') : Tups f H' ps xs := h.keep fun b ys z => e _ _ z
theorem Tups.put {ps : List Addr} {xs : List α} (h : Tups f H ps xs) {L : Addr} {ys : List V} {o : HO} (e : H L = some (.lst ys)) : Tups f (upd H L o) ps xs := h.keep fun b zs z => by
  rw [upd_ne (fun q => by rw [q, e] at z; cases z)]
  exact z
theorem Tups.new {ps : List Addr} {xs : List α} (h : Tups f H ps xs) {p : Addr} {o : HO} (e : H p = none) : Tups f (upd H p o) ps xs := h.same (same_upd e)
theorem Tups.snoc {ps : List Addr} {xs : List α} {p : Addr} {x : α} (h : Tups f H ps xs) (e : H p = some (.tup (f x))) : Tups f H (ps ++ [p]) (xs ++ [x]) := by
  induction h with
  | nil => exact .cons e .nil
  | cons a _ ih => exact .cons a ih
theorem Tups.append {ps qs : List Addr} {xs ys : List α} (h : Tups f H ps xs) (k : Tups f H qs ys) : Tups f H (ps ++ qs) (xs ++ ys) := by
  induction h with
  | nil => exact k
  | cons a _ ih => exact .cons a ih
theorem Tups.length {ps : List Addr} {xs : List α} (h : Tups f H ps xs) : ps.length = xs.length := by
  induction h with
  | nil => rfl
  | cons a _ ih => rw [List.length_cons, List.length_cons, ih]
theorem Tups.get {ps : List Addr} {xs : List α} (h : Tups f H ps xs) : ∀ {i : Nat} {v : V}, (ps.map V.ref)[i]? = some v → ∃ p x, v = .ref p ∧ xs[i]? = some x ∧ H p = some (.tup (f x)) := by
  induction h with
  | nil =>
    intro i v h
    simp at h
  | cons a _ ih =>
    intro i v h
    cases i with
    | zero =>
      simp at h
      exact ⟨_, _, h.symm, rfl, a⟩
    | succ i =>
      simp only [List.map_cons, List.getElem?_cons_succ] at h ⊢
      exact ih h
end
def wv : Option Int → V
  | none => .non
  | some w => .int w
def pv2 (p : Int × Int) : List V := [.int p.1, .int p.2]
/-! ### data that is compared -/
def wd : Option Int → PyData
  | none => .none
  | some w => .int w
def pd2 (p : Int × Int) : PyData := .tuple [.int p.1, .int p.2]
def dInts (ns : List Int) : PyData := .list (ns.map PyData.int)
def dWs (ws : List (Option Int)) : PyData := .list (ws.map wd)
def dPrs (ps : List (Int × Int)) : PyData := .list (ps.map pd2)
section
variable {K : PySem.W.Frag} {H : Hp}
theorem dpa_ints : ∀ ns : List Int, DpAll K H (ns.map V.int) (ns.map PyData.int)
  | [] => .nil
  | n :: ns => .cons (.int n) (dpa_ints ns)
theorem dp_wd : ∀ w : Option Int, Dp K H (wv w) (wd w)
  | none => .non
  | some w => .int w
theorem dpa_ws : ∀ ws : List (Option Int), DpAll K H (ws.map wv) (ws.map wd)
  | [] => .nil
  | w :: ws => .cons (dp_wd w) (dpa_ws ws)
theorem dpa_prs {ps : List Addr} {xs : List (Int × Int)} (h : Tups pv2 H ps xs) : DpAll K H (ps.map V.ref) (xs.map pd2) := by
  induction h with
  | nil => exact .nil
  | cons a _ ih => exact .cons (.tup (SqT.of a) (.cons (.int _) (.cons (.int _) .nil))) ih
end
theorem lay_all {α : Type} {f : α → PyData} (h : ∀ x, (f x).canLay0 = true) : ∀ xs : List α, PyData.canLayAll0 (xs.map f) = true
  | [] => by simp [PyData.canLayAll0]
  | x :: xs => by
    rw [List.map_cons, PyData.canLayAll0, h x, lay_all h xs]
    rfl
theorem dep_all {α : Type} {f : α → PyData} {d : Nat} (h : ∀ x, (f x).depth ≤ d) : ∀ xs : List α, PyData.depthAll (xs.map f) ≤ d
  | [] => by simp [PyData.depthAll]
  | x :: xs => by
    have h1 := h x
    have h2 := dep_all h xs
    rw [List.map_cons, PyData.depthAll]
    omega
/-- can be laid, and is at most d deep -/
def Shp (d : Nat) (x : PyData) : Prop := x.canLay0 = true ∧ x.depth ≤ d
theorem Shp.ok {d : Nat} {x : PyData} (h : Shp d x) (hd : d ≤ 64) : SeqAt.shaped x = true := by
  show (x.canLay0 && decide (x.depth ≤ 64)) = true
  rw [Bool.and_eq_true]
  exact ⟨h.1, decide_eq_true (Nat.le_trans h.2 hd)⟩
theorem Shp.int (i : Int) : Shp 1 (.int i) := ⟨by simp [PyData.canLay0], by simp [PyData.depth]⟩
theorem Shp.wd (w : Option Int) : Shp 1 (wd w) := by
  cases w <;> exact ⟨by simp [My.wd, PyData.canLay0], by simp [My.wd, PyData.depth]⟩
theorem Shp.list {α : Type} {f : α → PyData} {d : Nat} (h : ∀ x, Shp d (f x)) (xs : List α) : Shp (d + 1) (.list (xs.map f)) := by
  have h1 := lay_all (fun x => (h x).1) xs
  have h2 := dep_all (fun x => (h x).2) xs
  exact ⟨by simp only [PyData.canLay0]; exact h1, by simp only [PyData.depth]; omega⟩
theorem Shp.tup0 : Shp 1 (.tuple []) := ⟨by simp [PyData.canLay0, PyData.canLayAll0], by simp [PyData.depth, PyData.depthAll]⟩
theorem Shp.tupC {d : Nat} {x : PyData} {xs : List PyData} (h : Shp d x) (t : Shp (d + 1) (.tuple xs)) : Shp (d + 1) (.tuple (x :: xs)) := by
  obtain ⟨a, b⟩ := h
  obtain ⟨c, e⟩ := t
  simp only [PyData.canLay0] at c
  simp only [PyData.depth] at e
  refine ⟨?_, ?_⟩
  · simp only [PyData.canLay0, PyData.canLayAll0, a, c, Bool.and_self]
  · simp only [PyData.depth, PyData.depthAll]
    omega
theorem Shp.up {d e : Nat} {x : PyData} (h : Shp d x) (le : d ≤ e) : Shp e x := ⟨h.1, Nat.le_trans h.2 le⟩
theorem Shp.pd2 (p : Int × Int) : Shp 2 (pd2 p) := .tupC (.int _) (.tupC (.int _) (Shp.tup0.up (by decide)))
theorem Shp.ints (ns : List Int) : Shp 2 (dInts ns) := .list Shp.int ns
theorem Shp.ws (ws : List (Option Int)) : Shp 2 (dWs ws) := .list Shp.wd ws
theorem Shp.prs (ps : List (Int × Int)) : Shp 3 (dPrs ps) := .list Shp.pd2 ps
theorem eqv_same {d : Nat} {x : PyData} (h : Shp d x) : PyData.eqv x x = true := SeqAt.eqv_refl x h.1
theorem iteNE {b : Bool} {A B : Prop} (hb : b = true) (h : B) : if (!b) = true then A else B := by
  subst hb
  exact iteF h
theorem ne_same {d : Nat} {x : PyData} (h : Shp d x) : V.bl (!PyData.eqv x x) = V.bl false := by
  rw [eqv_same h]
  rfl
theorem eq_same {d : Nat} {x : PyData} (h : Shp d x) : V.bl (PyData.eqv x x) = V.bl true := by
  rw [eqv_same h]

theorem flat_one {α : Type} (n : Nat) (x : α) : (List.replicate n [x]).flatten = List.replicate n x := by
  induction n with
  | zero => rfl
  | succ n ih => rw [List.replicate_succ, List.flatten_cons, ih]; rfl
theorem take_snoc {α : Type} {l : List α} {i : Nat} {x : α} (h : l[i]? = some x) : l.take (i + 1) = l.take i ++ [x] := by
  rw [List.take_add_one, h]
  rfl
theorem same_put {H H' : Hp} {p : Addr} {o : HO} (sm : Same H H') (n : H p = none) : Same H (upd H' p o) := fun b x e => (upd_ne (ne_of_none e n)).trans (sm b x e)
theorem ne_no {a b : Int} (h : a = b) : V.bl (!decide (V.int a = V.int b)) = V.bl false := by
  subst h
  rw [decide_eq_true rfl]
  rfl
theorem ixN_nat {n : Nat} {p : Int} (h0 : 0 ≤ p) (h1 : p < (n : Int)) : ixN n p = some p.toNat := by
  unfold ixN
  rw [if_pos h0, if_pos h1]
theorem atI_of {xs : List V} {p : Int} {v : V} (h0 : 0 ≤ p) (h : xs[p.toNat]? = some v) : atI xs p = some v := by
  have e := atI_nat h
  rw [show ((p.toNat : Nat) : Int) = p by omega] at e
  exact e
theorem ixTK {X : Cx} {K : PySem.W.Frag} (h : X.K = K) : IxR X (rIxT K) := h ▸ ix_tup
theorem ixLK {X : Cx} {K : PySem.W.Frag} (h : X.K = K) : IxR X (rIxL K) := h ▸ ix_list
def rLenS (K : PySem.W.Frag) : List V → Hp → VK → Prop := fun xs H Q => ∃ p ys, xs = [.ref p] ∧ (SqL K H p ys ∨ SqT K H p ys) ∧ Q (.int ys.length) H
theorem lenK {X : Cx} {K : PySem.W.Frag} (h : X.K = K) : CallR X (.builtin "len") (rLenS K) := h ▸ call_len_seq
theorem isiK {X : Cx} {K : PySem.W.Frag} (h : X.K = K) : CallR X (.builtin "isinstance") (rIsi K) := h ▸ call_isi
theorem notInK {X : Cx} {K : PySem.W.Frag} (h : X.K = K) : OpR X (compareOp .NotIn) (rIn K true) := h ▸ op_notIn_seq
theorem inK {X : Cx} {K : PySem.W.Frag} (h : X.K = K) : OpR X (compareOp .In) (rIn K false) := h ▸ op_in_seq
/-! ### tuples of ints as data -/
def fI (r : List Int) : List V := r.map V.int
def dI (r : List Int) : PyData := .tuple (r.map PyData.int)
def dT (rs : List (List Int)) : PyData := .list (rs.map dI)
theorem units65 {k : Nat} {A : Around} (r : Room k A) : A.units + 65 < cLine := by
  have := r.un
  omega
theorem Shp.tuple {α : Type} {f : α → PyData} {d : Nat} (h : ∀ x, Shp d (f x)) (xs : List α) : Shp (d + 1) (.tuple (xs.map f)) := by
  have h1 := lay_all (fun x => (h x).1) xs
  have h2 := dep_all (fun x => (h x).2) xs
  exact ⟨by simp only [PyData.canLay0]; exact h1, by simp only [PyData.depth]; omega⟩
theorem Shp.dI (r : List Int) : Shp 2 (dI r) := .tuple Shp.int r
theorem Shp.dT (rs : List (List Int)) : Shp 3 (dT rs) := .list Shp.dI rs
theorem dp_dI {K : PySem.W.Frag} {H : Hp} {p : Addr} {r : List Int} (h : SqT K H p (r.map V.int)) : Dp K H (.ref p) (My.dI r) := .tup h (dpa_ints r)
theorem dpa_dT {K : PySem.W.Frag} {H : Hp} {ps : List Addr} {rs : List (List Int)} (h : Tups fI H ps rs) : DpAll K H (ps.map V.ref) (rs.map My.dI) := by
  induction h with
  | nil => exact .nil
  | cons a _ ih => exact .cons (dp_dI (SqT.of a)) ih
theorem dp_dT {K : PySem.W.Frag} {H : Hp} {L : Addr} {ps : List Addr} {rs : List (List Int)} (e : H L = some (.lst (ps.map V.ref))) (h : Tups fI H ps rs) : Dp K H (.ref L) (My.dT rs) := .lst (SqL.of e) (dpa_dT h)
theorem eqvA : ∀ a b : List Int, PyData.eqvAll (a.map PyData.int) (b.map PyData.int) = decide (a = b)
  | [], [] => by simp [PyData.eqvAll]
  | [], _ :: _ => by simp [PyData.eqvAll]
  | _ :: _, [] => by simp [PyData.eqvAll]
  | x :: a, y :: b => by
    rw [List.map_cons, List.map_cons, PyData.eqvAll, eqvA a b]
    simp only [PyData.eqv]
    by_cases h : x = y
    · subst h
      simp
    · simp [h]
theorem eqvI (a b : List Int) : PyData.eqv (My.dI a) (My.dI b) = decide (a = b) := by
  unfold My.dI
  rw [PyData.eqv]
  exact eqvA a b
theorem not_any {rs : List (List Int)} {r : List Int} (h : r ∉ rs) : ((rs.map My.dI).any fun z => PyData.eqv z (My.dI r)) = false := by
  rw [List.any_map, List.any_eq_false]
  intro x hx
  show ¬ PyData.eqv (My.dI x) (My.dI r) = true
  rw [eqvI]
  intro z
  exact h (of_decide_eq_true z ▸ hx)
/-! ### a tuple whose object is known: its methods -/
def Frz (H : Hp) (p : Addr) (xs : List V) : Prop := ∃ o : Obj, H p = some (.frz o (.tup xs)) ∧ o.dict = none
theorem Frz.sq {K : PySem.W.Frag} {H : Hp} {p : Addr} {xs : List V} (h : Frz H p xs) : SqT K H p xs := let ⟨o, e, _⟩ := h; .inl (.inr ⟨o, e⟩)
theorem Frz.same {H H' : Hp} {p : Addr} {xs : List V} (h : Frz H p xs) (e : Same H H') : Frz H' p xs := let ⟨o, a, b⟩ := h; ⟨o, e _ _ a, b⟩
theorem Frz.moved {t : Addr} {H H' : Hp} {p : Addr} {xs : List V} (h : Frz H p xs) (n : p ≠ t) (e : Moved t H H') : Frz H' p xs := let ⟨o, a, b⟩ := h; ⟨o, e _ _ n a, b⟩
theorem Frz.of {H H' : Hp} {p : Addr} {xs : List V} (h : Frz H p xs) (e : ∀ o, H p = some o → H' p = some o) : Frz H' p xs := let ⟨o, a, b⟩ := h; ⟨o, e _ a, b⟩
theorem Frz.ne {H : Hp} {p q : Addr} {xs : List V} (h : Frz H p xs) (n : H q = none) : p ≠ q := let ⟨_, a, _⟩ := h; ne_of_none a n
theorem Frz.tape {H : Hp} {p t s : Addr} {xs : List V} (h : Frz H p xs) (tp : Tape H t s) : p ≠ t := fun e => by
  obtain ⟨o, a, _⟩ := h
  obtain ⟨_, _, _, _, _, _, e2, _⟩ := tp
  rw [e, e2] at a
  cases a
theorem call_tupleF {X : Cx} : CallR X (.type "tuple") (fun xs H Q => ∃ p ys, xs = [.ref p] ∧ SqL X.K H p ys ∧ ∀ l H', H l = none → Same H H' → Frz H' l ys → (∀ b, b ≠ l → H' b = H b) → Q (.ref l) H') := by
  intro pins s σ H xs us Q I r h
  obtain ⟨p, ys, rfl, hq, q⟩ := h
  obtain ⟨u, rfl, rx⟩ := vals1 r
  cases rx
  obtain ⟨its, r', pl, hz⟩ := I.list hq
  have hlen := r'.length
  refine call_tuple_list pl.isList (fun h' kp => ?_) (by simp only [List.size_toArray] <;> omega)
  have I1 : Inv X pins σ H { s with heap := h' } := I.kept (t' := s.toks) kp
  have I2 : Inv X pins σ (upd H h'.objs.size (.frz { cls := .type "tuple", data := .seq its.toArray } (.tup ys))) { s with heap := h'.push { cls := .type "tuple", data := .seq its.toArray } } :=
    I1.laid (t' := s.toks) (fun b o e => Heap.get?_push_of_some _ e) (Nat.le_refl _) (show ObjOk X.prog X.w _ _ _ (.frz _ (.tup ys)) from ⟨Heap.get?_push_size _ rfl, hz, its, r', IsTup.new _ _⟩)
  have nl := I1.hok.fresh (Nat.le_refl _)
  exact ⟨.ref h'.objs.size, _, I2, rfl, q _ _ nl (same_upd nl) ⟨_, upd_same, rfl⟩ fun b n => upd_ne n⟩
def tTM (r : V → List V → Hp → VK → Prop) (to : TE) (t : TA) : TE := fun σ H Q => to σ H fun x H1 => (∃ p xs, x = .ref p ∧ Frz H1 p xs) ∧ t σ H1 fun xs H2 => r x xs H2 Q
theorem pe_tm {X : Cx} {o e : Expr} {es : List Expr} {to : TE} {t : TA} {name : Str} {apos cpos : Pos} {id : String} {r : V → List V → Hp → VK → Prop} (pa : PlainAttrs "tuple") (slot : Slot "tuple" name id) (hty : typeOf (.builtin id) = pure (.type "method_descriptor")) (hm : MtR X id r) (ho : PE X o to) (ha : PA X (e :: es) t)
    (hbase : attributeBase o name X.env (eval o X.env) = eval o X.env := by rfl)
    (hfew : ((backTo cpos (starEach (e :: es) X.env)).all (fun x => !x.1) && (backToKw cpos (keywordEach [] X.env)).all (fun x => x.1.isSome)
      && decide ((e :: es).length + ([] : List Keyword).length + (if ([] : List Keyword).isEmpty then 0 else 1) < 30)) = true := by rfl)
    (hline : (apos.endLine == cpos.line) = true := by rfl) (hs : starEach (e :: es) X.env = (false, eval e X.env) :: starEach es X.env := by rfl) (hplain : (backTo cpos (starEach es X.env)).any (·.1) = false := by rfl) :
    PE X (.Call (.Attribute o name apos) (e :: es) [] cpos) (tTM r to t) := by
  refine ⟨fun pins s σ H Q I h => ?_⟩
  refine wpAny_Call_method_late hbase hfew hline rfl (thn (ho.run pins s σ H _ I h) fun v s1 ⟨x, H1, I1, r1, ty, q1⟩ => ?_)
  obtain ⟨p, xs, rfl, ob, hp, hd⟩ := ty
  cases r1
  obtain ⟨hob, _, its, _, ⟨o2, ho2, hc2, _⟩⟩ := I1.hok _ _ hp
  have eo : o2 = ob := Option.some.inj (ho2.symm.trans hob)
  subst eo
  refine ⟨"tuple", id, pa, slot, hty, ⟨_, hob, hc2⟩, fun a ea => ?_, ?_⟩
  · cases ea
    exact ⟨_, hob, hd⟩
  have hA := ha.run cpos pins s1 σ H1 _ I1 q1
  rw [hs] at hA ⊢
  refine Calls.callWith_builtin (by show (false || (backTo cpos (starEach es X.env)).any (·.1)) = false; rw [hplain] <;> rfl) (Calls.evalArgs_plain ?_)
  exact thn hA fun us s2 ⟨vs, H2, I2, r2, q2⟩ => hm pins s2 σ H2 (.ref p) vs _ us Q I2 rfl r2 q2
/-! ### t.index(k), t a tuple of ints -/
theorem flat_ints (ys : List Int) : (ys.map V.int).all flatV = true := by
  rw [List.all_map]
  exact List.all_eq_true.mpr fun _ _ => rfl
def rTIndex (K : PySem.W.Frag) : V → List V → Hp → VK → Prop := fun x xs H Q => ∃ p, ∃ ys : List Int, ∃ z j, x = .ref p ∧ xs = [.int z] ∧ SqT K H p (ys.map V.int) ∧ ys[j]? = some z ∧ (∀ m, m < j → ys[m]? ≠ some z) ∧ Q (.int (j : Nat)) H
theorem mt_tindex {X : Cx} : MtR X "tuple.index" (rTIndex X.K) := by
  intro pins s σ H x xs v us Q I rx rs h
  obtain ⟨p, ys, z, j, rfl, rfl, hq, hy, hno, q⟩ := h
  cases rx
  obtain ⟨u, rfl, t, rfl⟩ := vals1 rs
  obtain ⟨its, r, pl, hz⟩ := I.tuple hq
  obtain ⟨⟨cls, dd, dt, sl⟩, ho, hc, n, hd⟩ := pl
  simp only at hc hd
  subst hc
  subst hd
  have hl : its.toArray.size = ys.length := by rw [List.size_toArray, ← r.length, List.length_map]
  have hj : j < its.toArray.size := by rw [hl]; exact (List.getElem?_eq_some_iff.mp hy).1
  have at' : ∀ (m : Nat) (hm : m < its.toArray.size), ∃ y t', ys[m]? = some y ∧ its.toArray[m] = Value.int y t' := fun m hm => by
    have hm' : m < ys.length := by rw [← hl]; exact hm
    obtain ⟨w, hw, t', hw'⟩ := r.get (i := m) (x := .int ys[m]) (by simp [hm'])
    refine ⟨ys[m], t', List.getElem?_eq_getElem hm', ?_⟩
    have e := (List.getElem?_eq_some_iff.mp hw).2
    rw [← hw', ← e]
    simp
  refine call_meets PySem.F.slot_tuple_index ⟨_, ho, rfl⟩ PySem.F.entry_tuple_index (PySem.F.args_tuple_index_2 _ _) (TI.tuple_indexAt p its.toArray n dd sl (.int z t) (eqU (.int z)) j hj ?_ ?_)
    ⟨ho, fun w hw => mem_eqAt (x := .int z) ⟨t, rfl⟩ rfl r (flat_ints ys) w (by simpa using hw), ⟨.int (j : Nat), H, I.tok _, ⟨_, rfl⟩, q⟩⟩
  · obtain ⟨y, t', h1, h2⟩ := at' j hj
    rw [hy] at h1
    cases h1
    rw [h2]
    show (z == z) = true
    exact beq_self_eq_true z
  · intro m hm hmj
    obtain ⟨y, t', h1, h2⟩ := at' m hm
    rw [h2]
    show (y == z) = false
    exact beq_eq_false_iff_ne.mpr fun e => hno m hmj (e ▸ h1)
/-! ### sorted(xs), xs a list of tuples of d ints from 0 to B, of any length -/
/-- the ints of a tuple that H tracks -/
def intsV (H : Hp) : V → List Int
  | .ref a => match H a with
    | some (.tup xs) => xs.filterMap fun v => match v with
      | .int i => some i
      | _ => none
    | _ => []
  | _ => []
theorem ints_fI (r : List Int) : ((fI r).filterMap fun v => match v with
      | V.int i => some i
      | _ => none) = r := by
  unfold fI
  induction r with
  | nil => rfl
  | cons x r ih => simp [ih]
theorem intsV_of {H : Hp} {a : Addr} {r : List Int} (h : H a = some (.tup (fI r))) : intsV H (.ref a) = r := by
  show (match H a with
    | some (.tup xs) => xs.filterMap fun v => match v with
      | V.int i => some i
      | _ => none
    | _ => []) = r
  rw [h]
  exact ints_fI r
abbrev ltC (B : Int) (k : V → List Int) (x y : V) : Bool := decide (TS.code B (k x) < TS.code B (k y))
theorem swoC {α : Type} (f : α → Int) : SrtO.Swo fun x y => decide (f x < f y) := by
  refine ⟨fun x y h => ?_, fun x y z h1 h2 => ?_⟩
  · have a := of_decide_eq_true h
    exact decide_eq_false (by omega)
  · have a := of_decide_eq_false h1
    have b := of_decide_eq_false h2
    exact decide_eq_false (by omega)
def rSortC (K : PySem.W.Frag) (B : Int) (d : Nat) : List V → Hp → VK → Prop := fun vs H Q => ∃ (a : Addr) (ps : List Addr) (rs : List (List Int)), vs = [V.ref a] ∧ SqL K H a (ps.map V.ref) ∧ Tups fI H ps rs ∧ (∀ r ∈ rs, r.length = d ∧ TS.Bd B r) ∧
  ∀ ps' rs' p, Tups fI H ps' rs' → rs'.Perm rs → rs'.Pairwise (fun x y => TS.code B x ≤ TS.code B y) → H p = none → Q (.ref p) (upd H p (.lst (ps'.map V.ref)))
theorem tups_of {H : Hp} : ∀ {ps : List Addr}, (∀ p ∈ ps, ∃ r, H p = some (.tup (fI r))) → Tups fI H ps (ps.map fun p => intsV H (.ref p))
  | [], _ => .nil
  | p :: ps, h => by
    obtain ⟨r, hr⟩ := h p List.mem_cons_self
    refine .cons ?_ (tups_of fun q hq => h q (List.mem_cons_of_mem _ hq))
    show H p = some (.tup (fI (intsV H (.ref p))))
    rw [intsV_of hr]
    exact hr
theorem Tups.ints {H : Hp} {ps : List Addr} {rs : List (List Int)} (h : Tups fI H ps rs) : rs = ps.map fun p => intsV H (.ref p) := by
  induction h with
  | nil => rfl
  | cons a _ ih => rw [List.map_cons, intsV_of a, ← ih]
theorem Tups.mem {α : Type} {f : α → List V} {H : Hp} {ps : List Addr} {rs : List α} (h : Tups f H ps rs) : ∀ p ∈ ps, ∃ r ∈ rs, H p = some (.tup (f r)) := by
  induction h with
  | nil => exact fun _ h => absurd h (by simp)
  | cons a _ ih =>
    intro p hp
    rcases List.mem_cons.mp hp with rfl | hp
    · exact ⟨_, List.mem_cons_self, a⟩
    · obtain ⟨r, hr, e⟩ := ih p hp
      exact ⟨r, List.mem_cons_of_mem _ hr, e⟩
theorem cr_sortC {X : Cx} {B : Int} {d : Nat} (hd : 1 ≤ d) : CallR X (.builtin "sorted") (rSortC X.K B d) := by
  intro pins s σ H vs us Q I r h
  obtain ⟨a, ps, rs, rfl, hs, tu, hb, q⟩ := h
  obtain ⟨its, rv, hl, hz⟩ := I.list hs
  obtain ⟨u, rfl, ru⟩ := vals1 r
  obtain rfl : u = Value.ref a := ru
  obtain ⟨e1, e2⟩ := refs_back rv fun x m => by
    obtain ⟨t, _, e⟩ := List.mem_map.mp m
    exact ⟨t, e.symm⟩
  have key : ∀ v ∈ its, ∃ p, v = Value.ref p ∧ p ∈ ps := fun v hv => by
    obtain ⟨t, rfl⟩ := e2 v hv
    have hm : V.ref t ∈ ps.map V.ref := by rw [e1]; exact List.mem_map.mpr ⟨_, hv, rfl⟩
    obtain ⟨p, hp, e⟩ := List.mem_map.mp hm
    cases e
    exact ⟨t, rfl, hp⟩
  have tin : ∀ v ∈ its, TS.TupInts s.heap v (intsV H (backV v)) ∧ (intsV H (backV v)).length = d ∧ TS.Bd B (intsV H (backV v)) := fun v hv => by
    obtain ⟨p, rfl, hp⟩ := key v hv
    obtain ⟨r, hr, ep⟩ := tu.mem p hp
    have ei : intsV H (backV (Value.ref p)) = r := intsV_of ep
    rw [ei]
    obtain ⟨its2, r2, pt, _⟩ := I.tuple (SqT.of ep)
    have hb' := hb r hr
    exact ⟨⟨p, its2.toArray, rfl, pt, intsAre_of r2⟩, hb'.1, hb'.2⟩
  refine SrtO.sorted_ord (ltv := fun v u => decide (TS.code B (intsV H (backV v)) < TS.code B (intsV H (backV u)))) (swoC fun v => TS.code B (intsV H (backV v))) hl.isList (by rw [← rv.length]; exact hz) (fun h2 h₁ a' ha' kk => ?_) fun out h1 h2 => ?_
  · intro h' keep
    have keep2 : ∀ b o, s.heap.get? b = some o → o.cls = .type "tuple" → h'.get? b = some o := fun b o e c => keep b o (kk b o e).1 (kk b o e).2
    have tin' : ∀ v ∈ its, TS.TupInts h' v (intsV H (backV v)) ∧ (intsV H (backV v)).length = d ∧ TS.Bd B (intsV H (backV v)) := fun v hv => let ⟨x, y, z⟩ := tin v hv; ⟨x.keeps keep2, y, z⟩
    obtain ⟨fs, k1, k2, k3⟩ := TS.firsts_of (h := h') (d := d) (B := B) hd its fun v hv => ⟨_, tin' v hv⟩
    refine ⟨tuples' true, fun Q E hq => ?_, ?_⟩
    · refine PySem.W.kat_kind (T := .type "int") k1 (by omega) (fun f hm => ?_) (by rfl) ?_
      · obtain ⟨x, t, rfl⟩ := k3 f hm
        exact PySem.W.Looks.now
      · have e : (Value.type "int" != Value.type "tuple") = true := by first | decide +kernel | rfl | decide
        rw [e]
        exact hq
    · intro p q hm hm'
      obtain ⟨⟨a1, xs, x1, ⟨o1, ho1, hc1, n1, hd1⟩, i1⟩, l1, b1⟩ := tin' _ hm
      obtain ⟨⟨a2, ys, x2, ⟨o2, ho2, hc2, n2, hd2⟩, i2⟩, l2, b2⟩ := tin' _ hm'
      show wpAny _ _ (keyLt' _ p.1 q.1) (fun r s' => s' = _ ∧ r = decide (TS.code B (intsV H (backV p.1)) < TS.code B (intsV H (backV q.1)))) (fun _ _ => False) _
      generalize intsV H (backV p.1) = ns at *
      generalize intsV H (backV q.1) = ms at *
      rw [x1, x2]
      refine PySem.W.kat_lt ho1 hd1 ho2 hd2 ?_
      have el : xs.size = ys.size := by
        have z1 := i1.length
        have z2 := i2.length
        simp at z1 z2
        omega
      rw [el, decide_eq_false (Nat.lt_irrefl _)]
      exact TS.lex_ints 0 i1 i2 (by omega) b1 b2 ⟨rfl, rfl⟩
  · obtain ⟨ep, he'⟩ := PyProof.Rows.sortedAll_at s.heap its out.toArray
    have h3 : ∀ u ∈ out, ∃ p, u = Value.ref p ∧ p ∈ ps := fun u hu => key u (h2.perm.mem_iff.mp hu)
    have eo : out.map backV = (out.map fun u => match u with
      | Value.ref a => a
      | _ => 0).map V.ref := by
      rw [List.map_map]
      refine List.map_congr_left fun u hu => ?_
      obtain ⟨p, rfl, _⟩ := h3 u hu
      rfl
    have hp : (out.map backV).Perm (ps.map V.ref) := by
      rw [e1]
      exact h2.perm.map backV
    have hlen : (out.map backV).length ≤ sizeLine := by
      rw [hp.length_eq]
      exact hz
    generalize eps : (out.map fun u => match u with
      | Value.ref a => a
      | _ => 0) = ps' at eo
    have pp : ps'.Perm ps := by
      rw [eo] at hp
      have z := hp.map fun v => match v with
        | V.ref a => a
        | _ => 0
      rw [List.map_map, List.map_map] at z
      have id1 : ∀ l : List Addr, l.map ((fun v => match v with
        | V.ref a => a
        | _ => 0) ∘ V.ref) = l := fun l => by
        induction l with
        | nil => rfl
        | cons x l ih => rw [List.map_cons, ih]; rfl
      rw [id1, id1] at z
      exact z
    have tu' : Tups fI H ps' (ps'.map fun p => intsV H (.ref p)) := tups_of fun p hp => by
      obtain ⟨r, _, e⟩ := tu.mem p (pp.mem_iff.mp hp)
      exact ⟨r, e⟩
    have pw : (ps'.map fun p => intsV H (.ref p)).Pairwise (fun x y => TS.code B x ≤ TS.code B y) := by
      have z : (out.map backV).Pairwise (fun x y => TS.code B (intsV H x) ≤ TS.code B (intsV H y)) := List.pairwise_map.mpr (h1.imp fun {x y} h => Int.not_lt.mp (of_decide_eq_false h))
      rw [eo] at z
      rw [List.pairwise_map] at z ⊢
      exact z
    rw [eo] at hlen
    refine ⟨.ref _, upd H (s.heap.objs.size + 1) (.lst (ps'.map V.ref)), I.laid (t' := s.toks) (fun _ _ => PyProof.Rows.sortedAll_old) (Nat.le_succ _) ⟨hlen, out, ep, ?_, he'⟩, rfl, q ps' _ _ tu' ?_ pw (I.hok.fresh (Nat.le_succ _))⟩
    · rw [← eo]
      exact vals_back fun u hu => by
        obtain ⟨p, e, _⟩ := h3 u hu
        exact ⟨p, e⟩
    · rw [tu.ints]
      exact pp.map _
/-- there is just one such list -/
theorem code_inj {B : Int} : ∀ {d : Nat} {x y : List Int}, x.length = d → y.length = d → TS.Bd B x → TS.Bd B y → TS.code B x = TS.code B y → x = y
  | _, [], [], _, _, _, _, _ => rfl
  | _, [], _ :: _, h1, h2, _, _, _ => by
    subst h1
    cases h2
  | _, _ :: _, [], h1, h2, _, _, _ => by
    subst h2
    cases h1
  | _, a :: x, b :: y, h1, h2, b1, b2, e => by
    have hl : x.length = y.length := by
      rw [List.length_cons] at h1 h2
      omega
    rcases Int.lt_trichotomy a b with z | z | z
    · have := TS.code_lt hl b1.tail b2.tail z
      omega
    · subst z
      have e' : TS.code B x = TS.code B y := by
        have n1 := (TS.code_same (B := B) (d := a) hl).symm
        have n2 := (TS.code_same (B := B) (d := a) hl.symm).symm
        have k1 : ¬ TS.code B x < TS.code B y := fun z => by
          have := n1.mp z
          omega
        have k2 : ¬ TS.code B y < TS.code B x := fun z => by
          have := n2.mp z
          omega
        omega
      rw [code_inj (d := x.length) rfl hl.symm b1.tail b2.tail e']
    · have := TS.code_lt hl.symm b2.tail b1.tail z
      omega
theorem sorted_uniq {B : Int} {d : Nat} : ∀ {l m : List (List Int)}, l.Perm m → (∀ r ∈ m, r.length = d ∧ TS.Bd B r) → l.Pairwise (fun x y => TS.code B x ≤ TS.code B y) → m.Pairwise (fun x y => TS.code B x ≤ TS.code B y) → l = m
  | [], m, p, _, _, _ => (List.nil_perm.mp p).symm
  | x :: l, [], p, _, _, _ => absurd p.length_eq (by simp)
  | x :: l, y :: m, p, hb, a, b => by
    have a' := List.pairwise_cons.mp a
    have b' := List.pairwise_cons.mp b
    have hx : x ∈ y :: m := p.mem_iff.mp List.mem_cons_self
    have hy : y ∈ x :: l := p.mem_iff.mpr List.mem_cons_self
    have e1 : TS.code B x ≤ TS.code B y := by
      rcases List.mem_cons.mp hy with e | h
      · rw [e]
        exact Int.le_refl _
      · exact a'.1 y h
    have e2 : TS.code B y ≤ TS.code B x := by
      rcases List.mem_cons.mp hx with e | h
      · rw [e]
        exact Int.le_refl _
      · exact b'.1 x h
    have e : x = y := code_inj (hb x hx).1 (hb y List.mem_cons_self).1 (hb x hx).2 (hb y List.mem_cons_self).2 (Int.le_antisymm e1 e2)
    subst e
    rw [sorted_uniq (List.Perm.cons_inv p) (fun r hr => hb r (List.mem_cons_of_mem _ hr)) a'.2 b'.2]
end My

/-! ### the mathematics of reach -/
namespace Rch
def ins (x : Int) : List Int → List Int
  | [] => [x]
  | y :: r => if x ≤ y then x :: y :: r else y :: ins x r
def isort : List Int → List Int
  | [] => []
  | x :: r => ins x (isort r)
theorem ins_perm (x : Int) : ∀ l : List Int, (ins x l).Perm (x :: l)
  | [] => .refl _
  | y :: r => by
    unfold ins
    split
    · exact .refl _
    · exact ((ins_perm x r).cons y).trans (.swap x y r)
theorem isort_perm : ∀ l : List Int, (isort l).Perm l
  | [] => .refl _
  | x :: r => (ins_perm x (isort r)).trans ((isort_perm r).cons x)
theorem ins_sorted (x : Int) : ∀ l : List Int, l.Pairwise (· ≤ ·) → (ins x l).Pairwise (· ≤ ·)
  | [], _ => List.pairwise_singleton _ _
  | y :: r, h => by
    unfold ins
    have h' := List.pairwise_cons.mp h
    split
    · next hx =>
      refine List.pairwise_cons.mpr ⟨fun z hz => ?_, h⟩
      rcases List.mem_cons.mp hz with e | hz
      · subst e
        exact hx
      · exact Int.le_trans hx (h'.1 z hz)
    · next hx =>
      refine List.pairwise_cons.mpr ⟨fun z hz => ?_, ins_sorted x r h'.2⟩
      rcases List.mem_cons.mp ((ins_perm x r).mem_iff.mp hz) with e | hz
      · subst e
        omega
      · exact h'.1 z hz
theorem isort_sorted : ∀ l : List Int, (isort l).Pairwise (· ≤ ·)
  | [] => .nil
  | x :: r => ins_sorted x _ (isort_sorted r)
theorem uniq : ∀ {l m : List Int}, l.Perm m → l.Pairwise (· ≤ ·) → m.Pairwise (· ≤ ·) → l = m
  | [], m, p, _, _ => (List.nil_perm.mp p).symm
  | x :: l, [], p, _, _ => absurd p.length_eq (by simp)
  | x :: l, y :: m, p, a, b => by
    have a' := List.pairwise_cons.mp a
    have b' := List.pairwise_cons.mp b
    have e : x = y := by
      have h1 : x ∈ y :: m := p.mem_iff.mp List.mem_cons_self
      have h2 : y ∈ x :: l := p.mem_iff.mpr List.mem_cons_self
      rcases List.mem_cons.mp h1 with e | h1
      · exact e
      · rcases List.mem_cons.mp h2 with e | h2
        · exact e.symm
        · exact Int.le_antisymm (a'.1 y h2) (b'.1 x h1)
    subst e
    rw [uniq (List.Perm.cons_inv p) a'.2 b'.2]
theorem isort_of {l m : List Int} (p : m.Perm l) (h : m.Pairwise (· ≤ ·)) : m = isort l := uniq (p.trans (isort_perm l).symm) h (isort_sorted l)
def greedy : Int → List Int → Int
  | T, [] => T
  | T, l :: r => if l > T + 1 then T else greedy (T + l) r
def reachOf (ns : List Int) : Int := greedy 0 (isort ns)
theorem greedy_ge : ∀ (ls : List Int) (T : Int), (∀ x ∈ ls, 0 ≤ x) → T ≤ greedy T ls
  | [], T, _ => Int.le_refl _
  | l :: r, T, h => by
    unfold greedy
    have h0 := h l List.mem_cons_self
    split
    · exact Int.le_refl _
    · have := greedy_ge r (T + l) fun x hx => h x (List.mem_cons_of_mem _ hx)
      omega
theorem greedy_le : ∀ (ls : List Int) (T : Int), (∀ x ∈ ls, 0 ≤ x ∧ x ≤ 40) → greedy T ls ≤ T + 40 * (ls.length : Int)
  | [], T, _ => by
    show T ≤ T + 40 * ((0 : Nat) : Int)
    omega
  | l :: r, T, h => by
    unfold greedy
    have h0 := h l List.mem_cons_self
    rw [List.length_cons]
    split
    · omega
    · have := greedy_le r (T + l) fun x hx => h x (List.mem_cons_of_mem _ hx)
      omega
def Good (ns : List Int) : Prop := 1 ≤ ns.length ∧ ns.length ≤ 8 ∧ ∀ n ∈ ns, 1 ≤ n ∧ n ≤ 40
theorem Good.perm {l m : List Int} (g : Good l) (p : m.Perm l) : Good m := ⟨by rw [p.length_eq]; exact g.1, by rw [p.length_eq]; exact g.2.1, fun n h => g.2.2 n (p.mem_iff.mp h)⟩
theorem isort_congr {l m : List Int} (p : m.Perm l) : isort m = isort l := uniq (((isort_perm m).trans p).trans (isort_perm l).symm) (isort_sorted m) (isort_sorted l)
theorem reach_perm {l m : List Int} (p : m.Perm l) : reachOf m = reachOf l := by
  unfold reachOf
  rw [isort_congr p]
theorem reach_bd {ns : List Int} (g : Good ns) : 0 ≤ reachOf ns ∧ reachOf ns ≤ 320 := by
  have g' := g.perm (isort_perm ns)
  have h1 := greedy_ge (isort ns) 0 fun x hx => by have := g'.2.2 x hx; omega
  have h2 := greedy_le (isort ns) 0 fun x hx => by have := g'.2.2 x hx; omega
  have h3 := g'.2.1
  refine ⟨h1, ?_⟩
  show greedy 0 (isort ns) ≤ 320
  omega
/-- n is a sum of some of ls, and of a number from 0 to T -/
def reps (T : Int) : List Int → Int → Prop
  | [], n => 0 ≤ n ∧ n ≤ T
  | l :: r, n => reps T r n ∨ reps T r (n - l)
theorem reps_perm {T : Int} {l m : List Int} (p : l.Perm m) : ∀ n, reps T l n ↔ reps T m n := by
  induction p with
  | nil => exact fun _ => Iff.rfl
  | cons x _ ih =>
    intro n
    show (reps T _ n ∨ reps T _ (n - x)) ↔ (reps T _ n ∨ reps T _ (n - x))
    rw [ih n, ih (n - x)]
  | swap x y r =>
    intro n
    show ((reps T r n ∨ reps T r (n - x)) ∨ (reps T r (n - y) ∨ reps T r (n - y - x))) ↔ ((reps T r n ∨ reps T r (n - y)) ∨ (reps T r (n - x) ∨ reps T r (n - x - y)))
    rw [show n - y - x = n - x - y by omega]
    constructor
    · rintro ((a | a) | (a | a))
      · exact .inl (.inl a)
      · exact .inr (.inl a)
      · exact .inl (.inr a)
      · exact .inr (.inr a)
    · rintro ((a | a) | (a | a))
      · exact .inl (.inl a)
      · exact .inr (.inl a)
      · exact .inl (.inr a)
      · exact .inr (.inr a)
  | trans _ _ h1 h2 => exact fun n => (h1 n).trans (h2 n)
theorem reps_up {T l : Int} (h0 : 0 ≤ T) (h1 : 1 ≤ l) (h2 : l ≤ T + 1) : ∀ (r : List Int) (n : Int), reps (T + l) r n ↔ reps T (l :: r) n
  | [], n => by
    show (0 ≤ n ∧ n ≤ T + l) ↔ ((0 ≤ n ∧ n ≤ T) ∨ (0 ≤ n - l ∧ n - l ≤ T))
    omega
  | x :: r, n => by
    show (reps (T + l) r n ∨ reps (T + l) r (n - x)) ↔ _
    rw [reps_up h0 h1 h2 r n, reps_up h0 h1 h2 r (n - x)]
    exact (reps_perm (.swap l x r) n)
theorem reps_low {T : Int} : ∀ (ls : List Int) (n : Int), 0 ≤ n → n ≤ T → reps T ls n
  | [], n, a, b => ⟨a, b⟩
  | _ :: r, n, a, b => .inl (reps_low r n a b)
theorem reps_nonneg {T : Int} : ∀ (ls : List Int) (n : Int), (∀ x ∈ ls, 0 ≤ x) → reps T ls n → 0 ≤ n
  | [], n, _, h => h.1
  | l :: r, n, hp, h => by
    have h0 := hp l List.mem_cons_self
    have hr : ∀ x ∈ r, 0 ≤ x := fun x hx => hp x (List.mem_cons_of_mem _ hx)
    rcases h with h | h
    · exact reps_nonneg r n hr h
    · have := reps_nonneg r _ hr h
      omega
theorem reps_not {T : Int} (h0 : 0 ≤ T) : ∀ (ls : List Int) (n : Int), (∀ x ∈ ls, T + 1 < x) → n ≤ T + 1 → reps T ls n → n ≤ T
  | [], n, _, _, h => h.2
  | l :: r, n, hp, hn, h => by
    have hl := hp l List.mem_cons_self
    have hr : ∀ x ∈ r, T + 1 < x := fun x hx => hp x (List.mem_cons_of_mem _ hx)
    rcases h with h | h
    · exact reps_not h0 r n hr hn h
    · have := reps_nonneg r _ (fun x hx => by have := hr x hx; omega) h
      omega
theorem greedy_is : ∀ (ls : List Int) (T : Int), 0 ≤ T → (∀ x ∈ ls, 1 ≤ x) → ls.Pairwise (· ≤ ·) → (∀ n, 0 ≤ n → n ≤ greedy T ls → reps T ls n) ∧ ¬ reps T ls (greedy T ls + 1)
  | [], T, h0, _, _ => ⟨fun n a b => ⟨a, b⟩, fun h => by
    have := h.2
    unfold greedy at this
    omega⟩
  | l :: r, T, h0, hp, hs => by
    have hl := hp l List.mem_cons_self
    have hr : ∀ x ∈ r, 1 ≤ x := fun x hx => hp x (List.mem_cons_of_mem _ hx)
    have hs' := List.pairwise_cons.mp hs
    unfold greedy
    by_cases hc : l > T + 1
    · rw [if_pos hc]
      refine ⟨fun n a b => reps_low _ n a b, fun h => ?_⟩
      have := reps_not h0 (l :: r) (T + 1) (fun x hx => by
        rcases List.mem_cons.mp hx with e | hx
        · omega
        · have := hs'.1 x hx
          omega) (Int.le_refl _) h
      omega
    · rw [if_neg hc]
      have ih := greedy_is r (T + l) (by omega) hr hs'.2
      have up := reps_up h0 hl (by omega : l ≤ T + 1) r
      exact ⟨fun n a b => (up n).mp (ih.1 n a b), fun h => ih.2 ((up _).mpr h)⟩
theorem reach_is {ns : List Int} (g : Good ns) : (∀ n, 0 ≤ n → n ≤ reachOf ns → reps 0 ns n) ∧ ¬ reps 0 ns (reachOf ns + 1) := by
  have g' := g.perm (isort_perm ns)
  have k := greedy_is (isort ns) 0 (Int.le_refl _) (fun x hx => (g'.2.2 x hx).1) (isort_sorted ns)
  exact ⟨fun n a b => (reps_perm (isort_perm ns) n).mp (k.1 n a b), fun h => k.2 ((reps_perm (isort_perm ns) _).mpr h)⟩
/-! ### sums as bits -/
def sumsF (S : Nat) : List Int → Nat
  | [] => S
  | l :: r => sumsF (S ||| S * 2 ^ l.toNat) r
theorem bits_step {S : Nat} {ls : List Int} {l : Int} (hl : 0 ≤ l) (hp : ∀ x ∈ ls, 0 ≤ x) (h : ∀ n : Nat, S.testBit n = true ↔ reps 0 ls (n : Int)) (n : Nat) : (S ||| S * 2 ^ l.toNat).testBit n = true ↔ reps 0 (l :: ls) (n : Int) := by
  rw [← Nat.shiftLeft_eq, Nat.testBit_or, Nat.testBit_shiftLeft, Bool.or_eq_true, Bool.and_eq_true, decide_eq_true_eq, h n, h (n - l.toNat)]
  show _ ↔ (reps 0 ls (n : Int) ∨ reps 0 ls ((n : Int) - l))
  constructor
  · rintro (a | ⟨a, b⟩)
    · exact .inl a
    · refine .inr ?_
      rw [show (n : Int) - l = ((n - l.toNat : Nat) : Int) by omega]
      exact b
  · rintro (a | a)
    · exact .inl a
    · have := reps_nonneg ls _ hp a
      refine .inr ⟨by omega, ?_⟩
      rw [show ((n - l.toNat : Nat) : Int) = (n : Int) - l by omega]
      exact a
theorem bits_all : ∀ (ls acc : List Int) (S : Nat), (∀ x ∈ ls, 0 ≤ x) → (∀ x ∈ acc, 0 ≤ x) → (∀ n : Nat, S.testBit n = true ↔ reps 0 acc (n : Int)) → ∀ n : Nat, (sumsF S ls).testBit n = true ↔ reps 0 (ls.reverse ++ acc) (n : Int)
  | [], acc, S, _, _, h => h
  | l :: r, acc, S, hl, ha, h => by
    intro n
    rw [List.reverse_cons, List.append_assoc]
    exact bits_all r (l :: acc) _ (fun x hx => hl x (List.mem_cons_of_mem _ hx)) (fun x hx => by
      rcases List.mem_cons.mp hx with e | hx
      · subst e
        exact hl x List.mem_cons_self
      · exact ha x hx) (bits_step (hl l List.mem_cons_self) ha h) n
theorem bit_one (n : Nat) : (1 : Nat).testBit n = true ↔ reps 0 [] (n : Int) := by
  show _ ↔ (0 ≤ (n : Int) ∧ (n : Int) ≤ 0)
  cases n with
  | zero => exact ⟨fun _ => ⟨by decide, by decide⟩, fun _ => by decide⟩
  | succ n =>
    rw [Nat.testBit_succ, show 1 / 2 = 0 from rfl, Nat.zero_testBit]
    exact ⟨fun h => absurd h Bool.false_ne_true, fun h => by omega⟩
theorem sums_is {ns : List Int} (g : Good ns) (n : Nat) : (sumsF 1 ns).testBit n = true ↔ reps 0 ns (n : Int) := by
  rw [bits_all ns [] 1 (fun x hx => by have := g.2.2 x hx; omega) (fun _ h => by simp at h) bit_one n, List.append_nil]
  exact reps_perm (List.reverse_perm ns) n
/-- sums // (1 << n) % 2 -/
theorem bit_of (S n : Nat) : (((S : Nat) : Int) / (1 * 2 ^ ((n : Int).toNat))).fmod 2 = if S.testBit n then 1 else 0 := by
  rw [Int.toNat_natCast, Int.one_mul, Int.fmod_eq_emod_of_nonneg _ (by decide), show ((2 : Int) ^ n) = ((2 ^ n : Nat) : Int) by simp, ← Int.natCast_ediv, show ((2 : Int)) = ((2 : Nat) : Int) from rfl, ← Int.natCast_emod, Nat.testBit_eq_decide_div_mod_eq]
  rcases Nat.mod_two_eq_zero_or_one (S / 2 ^ n) with e | e
  · rw [e]; rfl
  · rw [e]; rfl
end Rch

/-! ### the mathematics of tables -/
namespace Tb
def len1 (ls : List Int) (k : Int) : Int := ls.getD k.toNat 0
def rsum (ls : List Int) (r : List Int) : Int := (r.map (len1 ls)).sum
def InR (ls r : List Int) : Prop := ∀ k ∈ r, 0 ≤ k ∧ k < (ls.length : Int)
def Right (ls : List Int) (rs : List (List Int)) : Prop := Rch.Good ls ∧ 1 ≤ rs.length ∧ rs.length ≤ 60 ∧ ∀ (i : Nat) (r : List Int), rs[i]? = some r → InR ls r ∧ r.length ≤ 60 ∧ rsum ls r = (i : Int) + 1
theorem len_at {ls : List Int} {k : Int} (h0 : 0 ≤ k) (h1 : k < (ls.length : Int)) : ls[k.toNat]? = some (len1 ls k) := by
  have h : k.toNat < ls.length := by omega
  unfold len1
  rw [List.getD_eq_getElem?_getD, List.getElem?_eq_getElem h]
  rfl
theorem len_pos {ls : List Int} (g : Rch.Good ls) {k : Int} (h0 : 0 ≤ k) (h1 : k < (ls.length : Int)) : 1 ≤ len1 ls k ∧ len1 ls k ≤ 40 := g.2.2 _ (List.mem_of_getElem? (len_at h0 h1))
theorem rsum_cons (ls : List Int) (k : Int) (r : List Int) : rsum ls (k :: r) = len1 ls k + rsum ls r := by
  unfold rsum
  rw [List.map_cons, List.sum_cons]
theorem rsum_snoc (ls : List Int) (r : List Int) (k : Int) : rsum ls (r ++ [k]) = rsum ls r + len1 ls k := by
  unfold rsum
  rw [List.map_append, List.sum_append]
  simp
theorem rsum_len {ls : List Int} (g : Rch.Good ls) : ∀ {r : List Int}, InR ls r → (r.length : Int) ≤ rsum ls r
  | [], _ => by simp [rsum]
  | k :: r, h => by
    have h1 := h k List.mem_cons_self
    have := (len_pos g h1.1 h1.2).1
    have ih := rsum_len g (r := r) fun x hx => h x (List.mem_cons_of_mem _ hx)
    rw [rsum_cons, List.length_cons]
    omega
/-- when gone, into which loop -/
def go (ls : List Int) : Int → List Int → List (Int × Int)
  | _, [] => []
  | g, k :: r => (g, k) :: go ls (g + len1 ls k) r
theorem go_len (ls : List Int) : ∀ (r : List Int) (g : Int), (go ls g r).length = r.length
  | [], _ => rfl
  | k :: r, g => by
    show (go ls (g + len1 ls k) r).length + 1 = r.length + 1
    rw [go_len ls r]
theorem go_take (ls : List Int) : ∀ (r : List Int) (g : Int) (j : Nat), (go ls g r)[j]? = (r[j]?).map fun k => (g + rsum ls (r.take j), k)
  | [], g, j => by simp [go]
  | k :: r, g, 0 => by
    show some (g, k) = some (g + rsum ls [], k)
    simp [rsum]
  | k :: r, g, j + 1 => by
    show (go ls (g + len1 ls k) r)[j]? = (r[j]?).map fun x => (g + rsum ls (k :: r.take j), x)
    rw [go_take ls r, rsum_cons]
    congr 1
    funext x
    rw [Int.add_assoc]
theorem go_snd (ls : List Int) : ∀ (r : List Int) (g : Int), (go ls g r).map (·.2) = r
  | [], _ => rfl
  | k :: r, g => by
    show k :: (go ls (g + len1 ls k) r).map (·.2) = k :: r
    rw [go_snd ls r]
theorem go_rng {ls : List Int} (G : Rch.Good ls) : ∀ (r : List Int) (g : Int), InR ls r → ∀ p ∈ go ls g r, g ≤ p.1 ∧ p.1 < g + rsum ls r ∧ 0 ≤ p.2 ∧ p.2 < (ls.length : Int)
  | [], _, _, p, hp => absurd hp (by simp [go])
  | k :: r, g, h, p, hp => by
    have hk := h k List.mem_cons_self
    have l1 := (len_pos G hk.1 hk.2).1
    have hr : InR ls r := fun x hx => h x (List.mem_cons_of_mem _ hx)
    have n0 := rsum_len G hr
    rw [rsum_cons]
    rcases List.mem_cons.mp hp with e | hp
    · rw [e]
      show g ≤ g ∧ g < _ ∧ 0 ≤ k ∧ k < _
      omega
    · have := go_rng G r _ hr p hp
      omega
theorem go_up {ls : List Int} (G : Rch.Good ls) : ∀ (r : List Int) (g : Int), InR ls r → (go ls g r).Pairwise fun p q => p.1 < q.1
  | [], _, _ => .nil
  | k :: r, g, h => by
    have hk := h k List.mem_cons_self
    have l1 := (len_pos G hk.1 hk.2).1
    have hr : InR ls r := fun x hx => h x (List.mem_cons_of_mem _ hx)
    refine List.pairwise_cons.mpr ⟨fun q hq => ?_, go_up G r _ hr⟩
    have := go_rng G r _ hr q hq
    show g < q.1
    omega
/-- loop, gone, left -/
def ent (w : Int) (p : Int × Int) : List Int := [p.2, p.1, w - p.1]
def ents (ls : List Int) (w : Int) (r : List Int) : List (List Int) := (go ls 0 r).map (ent w)
def all (ls : List Int) (rs : List (List Int)) : Nat → List (List Int)
  | 0 => []
  | i + 1 => all ls rs i ++ ents ls ((i : Int) + 1) (rs.getD i [])
theorem ents_len (ls : List Int) (w : Int) (r : List Int) : (ents ls w r).length = r.length := by
  unfold ents
  rw [List.length_map, go_len]
theorem getD_row {rs : List (List Int)} {i : Nat} {r : List Int} (h : rs[i]? = some r) : rs.getD i [] = r := by
  rw [List.getD_eq_getElem?_getD, h]
  rfl
theorem all_wait {ls : List Int} {rs : List (List Int)} : ∀ (i : Nat) (e : List Int), e ∈ all ls rs i → ∃ k g w : Int, e = [k, g, w - g] ∧ 1 ≤ w ∧ w ≤ i
  | 0, e, h => absurd h (by simp [all])
  | i + 1, e, h => by
    rcases List.mem_append.mp h with h | h
    · obtain ⟨k, g, w, e1, h1, h2⟩ := all_wait i e h
      exact ⟨k, g, w, e1, h1, by omega⟩
    · obtain ⟨p, _, rfl⟩ := List.mem_map.mp h
      exact ⟨p.2, p.1, (i : Int) + 1, rfl, by omega, by omega⟩
/-- each new one is new -/
theorem new_one {ls : List Int} {rs : List (List Int)} {r : List Int} (G : Rch.Good ls) (hr : InR ls r) {i j : Nat} {p : Int × Int} (hj : (go ls 0 r)[j]? = some p) : ent ((i : Int) + 1) p ∉ all ls rs i ++ ((go ls 0 r).take j).map (ent ((i : Int) + 1)) := by
  intro h
  rcases List.mem_append.mp h with h | h
  · obtain ⟨k, g, w, e, h1, h2⟩ := all_wait i _ h
    unfold ent at e
    have e1 : p.1 = g := by
      have := congrArg (fun z : List Int => z.getD 1 0) e
      exact this
    have e2 : (i : Int) + 1 - p.1 = w - g := by
      have := congrArg (fun z : List Int => z.getD 2 0) e
      exact this
    omega
  · obtain ⟨q, hq, e⟩ := List.mem_map.mp h
    have e1 : q.1 = p.1 := by
      have := congrArg (fun z : List Int => z.getD 1 0) e
      exact this
    obtain ⟨m, hm⟩ := List.mem_iff_getElem?.mp hq
    rw [List.getElem?_take] at hm
    split at hm
    · next hlt =>
      have pw := List.pairwise_iff_getElem.mp (go_up G r 0 hr)
      obtain ⟨hm', em⟩ := List.getElem?_eq_some_iff.mp hm
      obtain ⟨hj', ej⟩ := List.getElem?_eq_some_iff.mp hj
      have := pw m j hm' hj' hlt
      rw [em, ej] at this
      omega
    · cases hm
theorem ents_bd {ls : List Int} {r : List Int} {w : Int} (G : Rch.Good ls) (hr : InR ls r) (hw : rsum ls r = w) (h60 : w ≤ 60) : ∀ e ∈ ents ls w r, e.length = 3 ∧ TS.Bd 1000 e := by
  intro e he
  obtain ⟨p, hp, rfl⟩ := List.mem_map.mp he
  have h := go_rng G r 0 hr p hp
  have g1 := G.2.1
  refine ⟨rfl, fun m hm => ?_⟩
  unfold ent at hm
  simp only [List.mem_cons, List.not_mem_nil, or_false] at hm
  rcases hm with e | e | e <;> subst e <;> omega
theorem all_bd {ls : List Int} {rs : List (List Int)} (R : Right ls rs) : ∀ i, i ≤ rs.length → ∀ e ∈ all ls rs i, e.length = 3 ∧ TS.Bd 1000 e
  | 0, _, e, he => absurd he (by simp [all])
  | i + 1, hi, e, he => by
    rcases List.mem_append.mp he with he | he
    · exact all_bd R i (by omega) e he
    · have hr : rs[i]? = some rs[i] := List.getElem?_eq_getElem (by omega)
      rw [getD_row hr] at he
      obtain ⟨a, b, c⟩ := R.2.2.2 i _ hr
      have := R.2.2.1
      exact ents_bd R.1 a c (by omega) e he
theorem all_len {ls : List Int} {rs : List (List Int)} (R : Right ls rs) : ∀ i, i ≤ rs.length → (all ls rs i).length ≤ 60 * i
  | 0, _ => Nat.le_refl _
  | i + 1, hi => by
    have ih := all_len R i (by omega)
    have hr : rs[i]? = some rs[i] := List.getElem?_eq_getElem (by omega)
    obtain ⟨a, b, c⟩ := R.2.2.2 i _ hr
    show (all ls rs i ++ ents ls ((i : Int) + 1) (rs.getD i [])).length ≤ _
    rw [List.length_append, ents_len, getD_row hr]
    omega
/-- the entries of one wait, when gone ahead -/
def ofWait (w : Int) (e : List Int) : Bool := (e.getD 1 0 + e.getD 2 0) == w
def swap (e : List Int) : List Int := [e.getD 1 0, e.getD 0 0]
def sel (w : Int) (es : List (List Int)) : List (List Int) := (es.filter (ofWait w)).map swap
theorem sel_append (w : Int) (a b : List (List Int)) : sel w (a ++ b) = sel w a ++ sel w b := by
  unfold sel
  rw [List.filter_append, List.map_append]
def gl (ls r : List Int) : List (List Int) := (go ls 0 r).map fun p => [p.1, p.2]
theorem sel_yes (ls : List Int) (w : Int) (r : List Int) : sel w (ents ls w r) = gl ls r := by
  unfold sel ents gl
  rw [List.filter_eq_self.mpr, List.map_map]
  · rfl
  · intro e he
    obtain ⟨p, _, rfl⟩ := List.mem_map.mp he
    show ((p.1 + (w - p.1)) == w) = true
    rw [beq_iff_eq]
    omega
theorem sel_no {ls : List Int} {w v : Int} (r : List Int) (h : v ≠ w) : sel w (ents ls v r) = [] := by
  unfold sel ents
  rw [List.filter_eq_nil_iff.mpr, List.map_nil]
  intro e he
  obtain ⟨p, _, rfl⟩ := List.mem_map.mp he
  show ¬ ((p.1 + (v - p.1)) == w) = true
  rw [beq_iff_eq]
  omega
theorem sel_all {ls : List Int} {rs : List (List Int)} (m : Nat) : ∀ i, sel ((m : Int) + 1) (all ls rs i) = if m < i then gl ls (rs.getD m []) else []
  | 0 => by
    rw [if_neg (by omega)]
    rfl
  | i + 1 => by
    show sel _ (all ls rs i ++ ents ls ((i : Int) + 1) (rs.getD i [])) = _
    rw [sel_append, sel_all m i]
    by_cases h : m < i
    · rw [if_pos h, if_pos (by omega), sel_no _ (by omega), List.append_nil]
    · rw [if_neg h, List.nil_append]
      by_cases h2 : m = i
      · subst h2
        rw [if_pos (by omega), sel_yes]
      · rw [if_neg (by omega), sel_no _ (by omega)]
theorem gl_bd {ls : List Int} {r : List Int} (G : Rch.Good ls) (hr : InR ls r) (h60 : rsum ls r ≤ 60) : ∀ e ∈ gl ls r, e.length = 2 ∧ TS.Bd 1000 e := by
  intro e he
  obtain ⟨p, hp, rfl⟩ := List.mem_map.mp he
  have h := go_rng G r 0 hr p hp
  have g1 := G.2.1
  refine ⟨rfl, fun m hm => ?_⟩
  simp only [List.mem_cons, List.not_mem_nil, or_false] at hm
  rcases hm with e | e <;> subst e <;> omega
theorem gl_sorted {ls : List Int} {r : List Int} (G : Rch.Good ls) (hr : InR ls r) (h60 : rsum ls r ≤ 60) : (gl ls r).Pairwise fun x y => TS.code 1000 x ≤ TS.code 1000 y := by
  unfold gl
  rw [List.pairwise_map]
  refine (List.pairwise_iff_getElem.mpr fun i j hi hj hij => ?_)
  have pw := List.pairwise_iff_getElem.mp (go_up G r 0 hr) i j hi hj hij
  have b1 := go_rng G r 0 hr _ (List.getElem_mem hi)
  have b2 := go_rng G r 0 hr _ (List.getElem_mem hj)
  have g1 := G.2.1
  show (go ls 0 r)[i].1 * 1000 ^ 1 + ((go ls 0 r)[i].2 * 1000 ^ 0 + 0) ≤ (go ls 0 r)[j].1 * 1000 ^ 1 + ((go ls 0 r)[j].2 * 1000 ^ 0 + 0)
  omega
theorem sel_perm {w : Int} {a b : List (List Int)} (p : a.Perm b) : (sel w a).Perm (sel w b) := (p.filter _).map _
theorem gl_snd (ls r : List Int) : (gl ls r).map (fun e => e.getD 1 0) = r := by
  unfold gl
  rw [List.map_map]
  exact go_snd ls r 0
end Tb

/-! ### == and != by a def of one's own, against anything -/
namespace RE8
open PySem PySem.Spec PySem.W PyProof.Rows L2 Builtin
section
variable {prog : Program} {w : World} {A : Around} {E : Value → Shared → Prop} {s : Shared} {K : Frag} {x C L f : Addr} {h₀ : Heap} {m : Str → Option Value} {ox : Obj} {od : Option Obj} {b tb : Value}
theorem ifBoundB {M : Model} {name : Str} {id : String} {args : List Value} {Q : Option Value → Shared → Prop} (X : K.In s.heap) (I : InstAt s.heap x ox C od) (hs : findIn K (.ref C) name = some (some (.builtin id)))
    (hb : ∀ self, bindSpecial (.builtin id) self = pure (.builtin id, [self])) (h : wpAny M A (call (.builtin id) (.ref x :: args)) (fun v => Q (some v)) E s) : wpAny M A (callSpecialIfBound? (.ref x) name args) Q E s := by
  simp only [callSpecialIfBound?, bindSpecialIfBound?]
  refine wpAny_holding (wpAny_bind (wpAny_bind (wpAny_bind (I.type.here ((looks_findIn X hs).here ?_)))))
  simp only [hb]
  refine wpAny_bind (wpAny_askSetting (wpAny_ite ?_))
  have fin : wpAny M A (call (.builtin id) ([.ref x] ++ args) >>= fun v => pure (some v)) Q E s := wpAny_bind (wpAny_mono h (fun v s' h' => wpAny_pure h') fun _ _ h' => h')
  split
  · exact wpAny_bind (wpAny_pure (wpAny_pure fin))
  · exact wpAny_tryCatch (wpAny_bind (wpAny_pure (wpAny_pure fin)))
theorem ne_body (X : K.In s.heap) (I : InstAt s.heap x ox C od) (hu : A.units < cLine) (hs : findIn K (.ref C) "__eq__" = some (some (.ref f))) (hf : isFn K (.ref f) = true) {Q : Fin → Shared → Prop}
    (hcall : wpAny (model prog w) A (call (.ref f) [.ref x, b]) (fun v s' => ∃ r, v = .bool r ∧ Q (.done (.ret (.bool (!r)))) s') E s) : wpAny (model prog w) A (Builtin.«object.__ne__» ⟨[.ref x, b], []⟩) Q E s := by
  unfold Builtin.«object.__ne__»
  repeat (first
    | with_reducible refine wpAny_cRoomFor hu ?_
    | (refine wpAny_bind (m := callSpecialIfBound? (.ref x) (Str.ofString "__eq__") [b])
        (ifBound_K X I hs hf (wpAny_mono hcall (fun r s' hr => by
          obtain ⟨b, rfl, hq⟩ := hr
          repeat (first | exact hq | exact wpAny_pure hq | exact wpAny_truthy_bool hq | (refine wpAny_bind (m := truthy (.bool _)) (wpAny_truthy_bool ?_)) | wp_step)) fun _ _ e => e)))
    | wp_step)
theorem cmp_ne {Q : Value → Shared → Prop} (hu : A.units + 1 < cLine) (F : Fr h₀ L s.heap m) (X₀ : K.In h₀) (I : InstAt s.heap x ox C od) (hb : Looks (model prog w) s.heap (typeOf b) tb) (hn : notFirst K C tb = true)
    (hs : findIn K (.ref C) "__eq__" = some (some (.ref f))) (hne : findIn K (.ref C) "__ne__" = some (some (.builtin "object.__ne__"))) (hm : mroIn K C (.type "object") = some true) (hf : isFn K (.ref f) = true)
    (h : wpAny (model prog w) A.in1 (call (.ref f) [.ref x, b]) (fun v s' => ∃ r, v = .bool r ∧ Q (.bool (!r)) s') E s) : wpAny (model prog w) A (richCompare .NotEq (.ref x) b) Q E s := by
  have X := X₀.keeps F.keep
  have t2 : Looks (model prog w) s.heap (isInstance (.ref x) (.type "object")) true := I.type.andThen (looks_mroIn X hm)
  have one : wpAny (model prog w) A (tryCompare (.ref x) "__ne__" b) (fun r s' => ∃ v, r = some v ∧ Q v s') E s := by
    unfold tryCompare
    refine wpAny_bind (ifBoundB X I hne (fun self => PySem.F.cmp_object.ne.bind self) (wpAny_call (codeAny_call_builtin PySem.F.cmp_object.ne.plain PySem.F.cmpEntry_ne
      (check_slot PySem.F.cmpKind_ne PySem.F.cmpSplit_ne t2 (PySem.F.cmpArgs_ne _ _) (ne_body (A := A.in1) X I (by exact hu) hs hf (wpAny_mono h (fun v s' hv => ?_) fun _ _ e => e))))))
    obtain ⟨r, rfl, hq⟩ := hv
    exact ⟨r, rfl, wpAny_pure ⟨_, rfl, hq⟩⟩
  unfold richCompare
  simp only [oneThing_ref]
  refine wpAny_holding (wpAny_bind (wpAny_cRoomFor (Nat.lt_of_succ_lt hu) ?_))
  refine wpAny_bind (I.type.here (wpAny_bind (hb.here ?_)))
  split
  · rename_i q
    have e : subIn K tb (.ref C) = some false := by
      rcases Bool.or_eq_true_iff.mp hn with e | e
      · rw [beq_iff_eq.mp e] at q; simp at q
      · exact beq_iff_eq.mp e
    refine wpAny_bind ((looks_subIn X e).here ?_)
    simp only [Bool.false_eq_true, if_false]
    refine wpAny_bind (wpAny_mono one (fun r s' z => ?_) fun _ _ e => e)
    obtain ⟨v, rfl, hq⟩ := z
    exact wpAny_pure hq
  · refine wpAny_bind (wpAny_pure ?_)
    simp only [Bool.false_eq_true, if_false]
    refine wpAny_bind (wpAny_mono one (fun r s' z => ?_) fun _ _ e => e)
    obtain ⟨v, rfl, hq⟩ := z
    exact wpAny_pure hq
end
section
variable {X : Cx} {C f : Addr} {fd : FuncData} {ps : List Str} {sp : Sp} {n : Nat}
/-- a == y, a an instance whose class tells == by a def of its own, y anything -/
def rEqO (K : PySem.W.Frag) (C : Addr) (sp : Sp) : R2 := fun x y H Q => ∃ a dx fs t, x = V.ref a ∧ H a = some (.ins C dx fs) ∧ TyX K H y t ∧ PySem.W.notFirst K C t = true ∧ sp [.ref a, y] H (fun v H' => ∃ b, v = .bl b ∧ Q (.bl b) H') (fun _ _ _ => False)
def rNeO (K : PySem.W.Frag) (C : Addr) (sp : Sp) : R2 := fun x y H Q => ∃ a dx fs t, x = V.ref a ∧ H a = some (.ins C dx fs) ∧ TyX K H y t ∧ PySem.W.notFirst K C t = true ∧ sp [.ref a, y] H (fun v H' => ∃ b, v = .bl b ∧ Q (.bl (!b)) H') (fun _ _ _ => False)
theorem call_own {A : Around} {pins : List (Addr × Obj)} {s : Shared} {σ : L2.St} {H : Hp} {a : Addr} {y : V} {u : Value} {Q : VK} (F : FnOk X.prog X.w X.K X.mg X.base CX0 n f fd ps sp) (hb : Binds X.K fd ps []) (sb : Sub X n A) (I : Inv X pins σ H s) (ry : RelV y u)
    (hsp : sp [.ref a, y] H Q (fun _ _ _ => False)) : wpAny (model X.prog X.w) A (call (.ref f) [.ref a, u]) (EP X pins σ Q) X.xe s := by
  have e0 : Env0 X.prog X.w X.K X.mg X.base A X.stack s H := by
    have e := I.env0
    exact ⟨by rw [sb.fr]; exact e.frames, e.mod, e.bs, e.bsz, e.funs, e.frf, e.hok, e.bare⟩
  have hl := F.len _ _ _ _ hsp
  have r2 : Vals [V.ref a, y] [Value.ref a, u] := .cons rfl (.cons ry .nil)
  refine wpAny_call (codeAny_mono (F.run A X.stack s H ⟨[.ref a, u], []⟩ [.ref a, u] [.ref a, y] _ _ sb.room e0 (by
    have := hb s [.ref a, u] I.kIn (by simpa using hl)
    simpa using this) r2 hsp) fun r s' hq => ?_)
  cases r with
  | error e => exact pass0 pins σ H s e s' I hq
  | ok fl =>
    cases fl with
    | ret w =>
      obtain ⟨z, H', I', rz, ez⟩ := I.after hq
      exact ⟨z, H', I', rz, ez⟩
    | next => exact False.elim hq
    | brk => exact False.elim hq
    | cont => exact False.elim hq
theorem op_eqO (F : FnOk X.prog X.w X.K X.mg X.base CX0 n f fd ps sp) (hs : PySem.W.findIn X.K (.ref C) "__eq__" = some (some (.ref f))) (hf : PySem.W.isFn X.K (.ref f) = true) (hb : Binds X.K fd ps []) (hr : Room n X.A) : OpR X (compareOp .Eq) (rEqO X.K C sp) := by
  intro pins s σ H x y v u Q I rx ry h
  obtain ⟨a, dx, fs, t, rfl, ea, ty, nf, hsp⟩ := h
  cases rx
  obtain ⟨mA, J, _⟩ := ins_get I.hok ea
  obtain ⟨od, J, _⟩ := J.look
  obtain ⟨P, kx, hp, _⟩ := kit_of I ry ty
  obtain ⟨m, hF⟩ := I.fr
  show wpAny (model X.prog X.w) X.A (richCompare .Eq (.ref a) u) (EP X pins σ Q) X.xe s
  refine PySem.W.cmp_K (op := .Eq) (tb := t) hr.units0 hF I.ok.mod.kin J (kx.ty _ _ I.kIn hp) nf hs hf ?_
  refine wpAny_mono (call_own F hb ⟨hr, rfl⟩ I ry hsp) (fun r s' z => ?_) fun _ _ x => x
  obtain ⟨z, H', I', rz, b, rfl, q⟩ := z
  cases rz
  exact ⟨.bl b, H', I', rfl, q⟩
theorem op_neO (F : FnOk X.prog X.w X.K X.mg X.base CX0 n f fd ps sp) (hs : PySem.W.findIn X.K (.ref C) "__eq__" = some (some (.ref f))) (hne : PySem.W.findIn X.K (.ref C) "__ne__" = some (some (.builtin "object.__ne__"))) (hm : PySem.W.mroIn X.K C (.type "object") = some true) (hf : PySem.W.isFn X.K (.ref f) = true) (hb : Binds X.K fd ps []) (hr : Room (n + 1) X.A) : OpR X (compareOp .NotEq) (rNeO X.K C sp) := by
  intro pins s σ H x y v u Q I rx ry h
  obtain ⟨a, dx, fs, t, rfl, ea, ty, nf, hsp⟩ := h
  cases rx
  obtain ⟨mA, J, _⟩ := ins_get I.hok ea
  obtain ⟨od, J, _⟩ := J.look
  obtain ⟨P, kx, hp, _⟩ := kit_of I ry ty
  obtain ⟨m, hF⟩ := I.fr
  show wpAny (model X.prog X.w) X.A (richCompare .NotEq (.ref a) u) (EP X pins σ Q) X.xe s
  have sb : Sub X (n + 1) X.A := ⟨hr, rfl⟩
  refine cmp_ne (tb := t) (by have := sb.in1.room.units0; exact this) hF I.ok.mod.kin J (kx.ty _ _ I.kIn hp) nf hs hne hm hf ?_
  refine wpAny_mono (call_own F hb sb.in1 I ry hsp) (fun r s' z => ?_) fun _ _ x => x
  obtain ⟨z, H', I', rz, b, rfl, q⟩ := z
  cases rz
  exact ⟨b, rfl, .bl (!b), H', I', rfl, q⟩
end
/-- what is asked of a class whose things are looked at -/
structure InsC (K : PySem.W.Frag) (C : Addr) : Prop where
  ha : PySem.W.findIn K (.ref C) "__class__" = some (some (.builtin "object.__class__"))
  hn : PySem.W.specialIn K (.builtin "object.__class__") "__get__" = some (some (.builtin "getset_descriptor.__get__"))
  ht : PySem.W.takesIn K (.builtin "object.__class__") = some true
  hm : PySem.W.mroIn K C (.type "object") = some true
  ne : PySem.W.findIn K (.ref C) "__ne__" = some (some (.builtin "object.__ne__"))
  ic : PySem.W.isClsIn K C = true
  ty : PySem.W.typeIn K (.ref C) = some (.type "type")
theorem InsC.self {K : PySem.W.Frag} {C : Addr} (_ : InsC K C) : PySem.W.kitOne K (.ref C) (.ref C) = some true := by
  unfold PySem.W.kitOne
  rw [if_pos (by simp)]
theorem first_self (K : PySem.W.Frag) (C : Addr) : PySem.W.notFirst K C (.ref C) = true := by
  unfold PySem.W.notFirst
  simp
/-- the kinds of things that are no instance of an own class -/
def Plain (n : String) : Prop := ∃ l, PySem.fastBuiltinMro n = some l ∧ ∀ C : Addr, l.contains (Value.ref C) = false
theorem Plain.sub {n : String} (p : Plain n) (K : PySem.W.Frag) (C : Addr) : PySem.W.subIn K (.type n) (.ref C) = some false := by
  obtain ⟨l, e, h⟩ := p
  show (PySem.fastBuiltinMro n).map (·.contains (Value.ref C)) = some false
  rw [e]
  exact congrArg some (h C)
theorem Plain.first {n : String} (p : Plain n) (K : PySem.W.Frag) (C : Addr) : PySem.W.notFirst K C (.type n) = true := by
  unfold PySem.W.notFirst
  rw [p.sub K C]
  simp
theorem Plain.kit {n : String} (p : Plain n) {K : PySem.W.Frag} {C : Addr} (i : InsC K C) : PySem.W.kitOne K (.type n) (.ref C) = some false := by
  unfold PySem.W.kitOne
  rw [if_neg (by simp)]
  have h2' : (PySem.W.clsIn K C).isSome = true := i.ic
  show (if ((PySem.W.clsIn K C).isSome && PySem.W.typeIn K (.ref C) == some (.type "type")) = true then PySem.W.subIn K (.type n) (.ref C) else none) = some false
  rw [h2', i.ty, if_pos (by rfl)]
  exact p.sub K C
theorem plain_non : Plain "NoneType" := ⟨[.type "NoneType", .type "object"], by kernel_rfl, fun _ => by simp⟩
theorem plain_int : Plain "int" := ⟨[.type "int", .type "object"], by kernel_rfl, fun _ => by simp⟩
theorem plain_str : Plain "str" := ⟨[.type "str", .type "object"], by kernel_rfl, fun _ => by simp⟩
theorem plain_tup : Plain "tuple" := ⟨[.type "tuple", .type "object"], by kernel_rfl, fun _ => by simp⟩
theorem plain_lst : Plain "list" := ⟨[.type "list", .type "object"], by kernel_rfl, fun _ => by simp⟩
theorem InsC.tyOf {K : PySem.W.Frag} {C a dx : Addr} {fs : List (Str × V)} {H : Hp} (i : InsC K C) (cl : Cls K C) (e : H a = some (.ins C dx fs)) : TyX K H (.ref a) (.ref C) := .base (.ins e cl i.ha i.hn i.ht i.hm)
end RE8

set_option Elab.async false
set_option linter.all false
set_option maxRecDepth 100000
set_option maxHeartbeats 4000000
namespace My
open PySem PySem.Spec PyProof.Rows L2
def topS (i : Nat) : Stmt := PySem.Challenge.pw_loopstore_k07_tables_are_compared.main.body.getD i (.Pass ⟨0, 0, 0, 0⟩)
abbrev s_is_integer : Stmt := topS 8
theorem sc_is_integer : FnScope ["thing"] ["thing"] (defScope s_is_integer) := ⟨rfl, rfl, rfl, by decide +kernel, rfl, by decide +kernel, by decide +kernel⟩
abbrev s_is_number : Stmt := topS 9
theorem sc_is_number : FnScope ["thing", "least", "most"] ["thing", "least", "most"] (defScope s_is_number) := ⟨rfl, rfl, rfl, by decide +kernel, rfl, by decide +kernel, by decide +kernel⟩
abbrev s_are_numbers : Stmt := topS 10
theorem sc_are_numbers : FnScope ["things", "least", "most", "thing"] ["things", "least", "most"] (defScope s_are_numbers) := ⟨rfl, rfl, rfl, by decide +kernel, rfl, by decide +kernel, by decide +kernel⟩
abbrev s_is_loops : Stmt := topS 11
theorem sc_is_loops : FnScope ["thing"] ["thing"] (defScope s_is_loops) := ⟨rfl, rfl, rfl, by decide +kernel, rfl, by decide +kernel, by decide +kernel⟩
abbrev s_is_row : Stmt := topS 12
theorem sc_is_row : FnScope ["loops", "thing"] ["loops", "thing"] (defScope s_is_row) := ⟨rfl, rfl, rfl, by decide +kernel, rfl, by decide +kernel, by decide +kernel⟩
abbrev s_row_sum : Stmt := topS 14
theorem sc_row_sum : FnScope ["loops", "row", "loop"] ["loops", "row"] (defScope s_row_sum) := ⟨rfl, rfl, rfl, by decide +kernel, rfl, by decide +kernel, by decide +kernel⟩
abbrev s_row_entries : Stmt := topS 16
theorem sc_row_entries : FnScope ["loops", "row", "found", "gone", "left", "loop"] ["loops", "row"] (defScope s_row_entries) := ⟨rfl, rfl, rfl, by decide +kernel, rfl, by decide +kernel, by decide +kernel⟩
abbrev s_entries : Stmt := topS 17
theorem sc_entries : FnScope ["table", "found", "row"] ["table"] (defScope s_entries) := ⟨rfl, rfl, rfl, by decide +kernel, rfl, by decide +kernel, by decide +kernel⟩
abbrev s__law_tape : Stmt := topS 19
theorem sc__law_tape : FnScope ["script"] ["script"] (defScope s__law_tape) := ⟨rfl, rfl, rfl, by decide +kernel, rfl, by decide +kernel, by decide +kernel⟩
abbrev s__law_pick : Stmt := topS 20
theorem sc__law_pick : FnScope ["tape", "size", "digit", "cell", "mixed"] ["tape", "size"] (defScope s__law_pick) := ⟨rfl, rfl, rfl, by decide +kernel, rfl, by decide +kernel, by decide +kernel⟩
abbrev s__law_loops : Stmt := topS 21
theorem sc__law_loops : FnScope ["tape", "most", "longest", "many", "found", "k"] ["tape", "most", "longest"] (defScope s__law_loops) := ⟨rfl, rfl, rfl, by decide +kernel, rfl, by decide +kernel, by decide +kernel⟩
abbrev s__law_row : Stmt := topS 22
theorem sc__law_row : FnScope ["tape", "loops", "wait", "row", "left", "again", "turn", "fitting", "k"] ["tape", "loops", "wait"] (defScope s__law_row) := ⟨rfl, rfl, rfl, by decide +kernel, rfl, by decide +kernel, by decide +kernel⟩
abbrev s__law_rows : Stmt := topS 23
theorem sc__law_rows : FnScope ["tape", "loops", "bound", "wait"] ["tape", "loops", "bound"] (defScope s__law_rows) := ⟨rfl, rfl, rfl, by decide +kernel, rfl, by decide +kernel, by decide +kernel⟩
abbrev s__law_other_row : Stmt := topS 25
theorem sc__law_other_row : FnScope ["tape", "loops", "rows", "at", "made", "turn", "row"] ["tape", "loops", "rows"] (defScope s__law_other_row) := ⟨rfl, rfl, rfl, by decide +kernel, rfl, by decide +kernel, by decide +kernel⟩
abbrev s_law : Stmt := topS 26
theorem sc_law : FnScope ["script", "tape", "loops", "bound", "rows", "one", "other", "turned", "named", "thing", "made", "row", "k"] ["script"] (defScope s_law) := ⟨rfl, rfl, rfl, by decide +kernel, rfl, by decide +kernel, by decide +kernel⟩
abbrev s_Table___init__ : Stmt := inClass (topS 15) 0
theorem sc_Table___init__ : FnScope ["self", "loops", "rows", "at", "row"] ["self", "loops", "rows"] (defScope s_Table___init__) := ⟨rfl, rfl, rfl, by decide +kernel, rfl, by decide +kernel, by decide +kernel⟩
abbrev s_Table___eq__ : Stmt := inClass (topS 15) 1
theorem sc_Table___eq__ : FnScope ["self", "other"] ["self", "other"] (defScope s_Table___eq__) := ⟨rfl, rfl, rfl, by decide +kernel, rfl, by decide +kernel, by decide +kernel⟩
structure Tx (K : PySem.W.Frag) (mg : Str → Option Value) where
  a_is_integer : Addr
  d_is_integer : FuncData
  F_is_integer : Fun K "is_integer" "is_integer" s_is_integer a_is_integer d_is_integer
  b_is_integer : Binds K d_is_integer ["thing"] []
  g_is_integer : mg "is_integer" = some (.ref a_is_integer)
  a_is_number : Addr
  d_is_number : FuncData
  F_is_number : Fun K "is_number" "is_number" s_is_number a_is_number d_is_number
  b_is_number : Binds K d_is_number ["thing", "least", "most"] []
  g_is_number : mg "is_number" = some (.ref a_is_number)
  a_are_numbers : Addr
  d_are_numbers : FuncData
  F_are_numbers : Fun K "are_numbers" "are_numbers" s_are_numbers a_are_numbers d_are_numbers
  b_are_numbers : Binds K d_are_numbers ["things", "least", "most"] []
  g_are_numbers : mg "are_numbers" = some (.ref a_are_numbers)
  a_is_loops : Addr
  d_is_loops : FuncData
  F_is_loops : Fun K "is_loops" "is_loops" s_is_loops a_is_loops d_is_loops
  b_is_loops : Binds K d_is_loops ["thing"] []
  g_is_loops : mg "is_loops" = some (.ref a_is_loops)
  a_is_row : Addr
  d_is_row : FuncData
  F_is_row : Fun K "is_row" "is_row" s_is_row a_is_row d_is_row
  b_is_row : Binds K d_is_row ["loops", "thing"] []
  g_is_row : mg "is_row" = some (.ref a_is_row)
  a_row_sum : Addr
  d_row_sum : FuncData
  F_row_sum : Fun K "row_sum" "row_sum" s_row_sum a_row_sum d_row_sum
  b_row_sum : Binds K d_row_sum ["loops", "row"] []
  g_row_sum : mg "row_sum" = some (.ref a_row_sum)
  a_row_entries : Addr
  d_row_entries : FuncData
  F_row_entries : Fun K "row_entries" "row_entries" s_row_entries a_row_entries d_row_entries
  b_row_entries : Binds K d_row_entries ["loops", "row"] []
  g_row_entries : mg "row_entries" = some (.ref a_row_entries)
  a_entries : Addr
  d_entries : FuncData
  F_entries : Fun K "entries" "entries" s_entries a_entries d_entries
  b_entries : Binds K d_entries ["table"] []
  g_entries : mg "entries" = some (.ref a_entries)
  a__law_tape : Addr
  d__law_tape : FuncData
  F__law_tape : Fun K "_law_tape" "_law_tape" s__law_tape a__law_tape d__law_tape
  b__law_tape : Binds K d__law_tape ["script"] []
  g__law_tape : mg "_law_tape" = some (.ref a__law_tape)
  a__law_pick : Addr
  d__law_pick : FuncData
  F__law_pick : Fun K "_law_pick" "_law_pick" s__law_pick a__law_pick d__law_pick
  b__law_pick : Binds K d__law_pick ["tape", "size"] []
  g__law_pick : mg "_law_pick" = some (.ref a__law_pick)
  a__law_loops : Addr
  d__law_loops : FuncData
  F__law_loops : Fun K "_law_loops" "_law_loops" s__law_loops a__law_loops d__law_loops
  b__law_loops : Binds K d__law_loops ["tape", "most", "longest"] []
  g__law_loops : mg "_law_loops" = some (.ref a__law_loops)
  a__law_row : Addr
  d__law_row : FuncData
  F__law_row : Fun K "_law_row" "_law_row" s__law_row a__law_row d__law_row
  b__law_row : Binds K d__law_row ["tape", "loops", "wait"] []
  g__law_row : mg "_law_row" = some (.ref a__law_row)
  a__law_rows : Addr
  d__law_rows : FuncData
  F__law_rows : Fun K "_law_rows" "_law_rows" s__law_rows a__law_rows d__law_rows
  b__law_rows : Binds K d__law_rows ["tape", "loops", "bound"] []
  g__law_rows : mg "_law_rows" = some (.ref a__law_rows)
  a__law_other_row : Addr
  d__law_other_row : FuncData
  F__law_other_row : Fun K "_law_other_row" "_law_other_row" s__law_other_row a__law_other_row d__law_other_row
  b__law_other_row : Binds K d__law_other_row ["tape", "loops", "rows"] []
  g__law_other_row : mg "_law_other_row" = some (.ref a__law_other_row)
  a_law : Addr
  d_law : FuncData
  F_law : Fun K "law" "law" s_law a_law d_law
  b_law : Binds K d_law ["script"] []
  g_law : mg "law" = some (.ref a_law)
  m_all : mg "all" = none
  m_bool : mg "bool" = none
  m_enumerate : mg "enumerate" = none
  m_int : mg "int" = none
  m_isinstance : mg "isinstance" = none
  m_len : mg "len" = none
  m_list : mg "list" = none
  m_range : mg "range" = none
  m_sorted : mg "sorted" = none
  m_sum : mg "sum" = none
  m_tuple : mg "tuple" = none
  t_MOST_BOUND : Tok
  g_MOST_BOUND : mg "MOST_BOUND" = some (.int 60 t_MOST_BOUND)
  t_MOST_ITEMS : Tok
  g_MOST_ITEMS : mg "MOST_ITEMS" = some (.int 60 t_MOST_ITEMS)
  t_MOST_LENGTH : Tok
  g_MOST_LENGTH : mg "MOST_LENGTH" = some (.int 40 t_MOST_LENGTH)
  t_MOST_LOOPS : Tok
  g_MOST_LOOPS : mg "MOST_LOOPS" = some (.int 8 t_MOST_LOOPS)
  c_Table : Addr
  g_Table : mg "Table" = some (.ref c_Table)
  a_Table___init__ : Addr
  d_Table___init__ : FuncData
  F_Table___init__ : Fun K "__init__" "Table.__init__" s_Table___init__ a_Table___init__ d_Table___init__
  b_Table___init__ : Binds K d_Table___init__ ["self", "loops", "rows"] []
  mk_Table : Mk K c_Table a_Table___init__
  a_Table___eq__ : Addr
  d_Table___eq__ : FuncData
  F_Table___eq__ : Fun K "__eq__" "Table.__eq__" s_Table___eq__ a_Table___eq__ d_Table___eq__
  b_Table___eq__ : Binds K d_Table___eq__ ["self", "other"] []
  me_Table___eq__ : Meth K c_Table "__eq__" a_Table___eq__
  cl_Table : Cls K c_Table
  n_Table_loops : NoAttr K c_Table "loops"
  n_Table_rows : NoAttr K c_Table "rows"
  n_Table_bound : NoAttr K c_Table "bound"
  in_Table : RE8.InsC K c_Table
section
variable {P : Program} {w : World} {K : PySem.W.Frag} {mg : Str → Option Value} {base : Heap}
def spTape (K : PySem.W.Frag) : Sp := fun vs H Q _ => ∃ (a : Addr) (ns : List Int), vs = [.ref a] ∧ SqL K H a (ns.map V.int) ∧ ∀ t s H', H t = none → H s = none → Same H H' → Tape H' t s → Q (.ref t) H'
theorem ok__law_tape (T : Tx K mg) : FnOk P w K mg base CX0 1 T.a__law_tape T.d__law_tape ["script"] (spTape K) := by
  refine T.F__law_tape.ok sc__law_tape (fun vs H Q E h => ?_) (fun cdv A outer s H vs Q E hr h => ?_)
  · obtain ⟨a, ns, rfl, _⟩ := h
    rfl
  · obtain ⟨a, ns, rfl, hS, q⟩ := h
    refine ⟨_, ((pss_one (ps_ret (pe_lst (pa_cons (pe_callTy call_list_of (by rfl) T.m_list (by decide +kernel) (pa_cons (pv 0) pa_nil)) (pa_cons pe_int (pa_cons pe_int (pa_cons pe_int (pa_cons pe_int pa_nil))))))))), ?_⟩
    refine ⟨.ref a, rfl, a, _, rfl, .inl hS, fun l nl => ?_⟩
    refine ⟨by show 5 ≤ sizeLine; decide, fun t nt => ?_⟩
    have nlt : l ≠ t := fun e => by
      rw [← e, upd_same] at nt
      cases nt
    have s1 : Same H (upd H l (.lst (ns.map V.int))) := same_upd nl
    refine q t l _ (Same.free s1 nt) nl (s1.trans (same_upd nt)) ⟨ns, 0, 0, 1, 0, nlt, upd_same, ?_, by decide⟩
    rw [upd_ne nlt, upd_same]
def spPick (K : PySem.W.Frag) : Sp := fun vs H Q _ => ∃ (t s : Addr) (n : Int), vs = [.ref t, .int n] ∧ (0 < n ∧ n < 2 ^ 60) ∧ Tape H t s ∧ ∀ r H', 0 ≤ r → r < n → Moved t H H' → Tape H' t s → Q (.int r) H'
theorem fm_of {a b : Int} (h : 0 < b) : 0 ≤ a.fmod b ∧ a.fmod b < b := by
  rw [Int.fmod_eq_emod_of_nonneg a (Int.le_of_lt h)]
  exact ⟨Int.emod_nonneg a (by omega), Int.emod_lt_of_pos a h⟩
theorem ok__law_pick (T : Tx K mg) : FnOk P w K mg base CX0 1 T.a__law_pick T.d__law_pick ["tape", "size"] (spPick K) := by
  refine T.F__law_pick.ok sc__law_pick (fun vs H Q E h => ?_) (fun cdv A outer s H vs Q E hr h => ?_)
  · obtain ⟨t, l, n, rfl, _⟩ := h
    rfl
  · obtain ⟨t, l, n, rfl, ⟨hn, hn2⟩, ⟨ns, pos, rest, mx, ct, hlt, ht, hl, hp⟩, q⟩ := h
    have wd : ∀ i : Int, CDivW i n := fun i => wide_div hn (b := 60) (by omega) (by decide) (by decide)
    refine ⟨_, ((pss_cons (ps_if (pt_cmpR op_gt (pe_ix ix_list (pv 0) pe_int (fun _ _ => rfl)) pe_int (nomark _)) (pss_cons (ps_set (i := 2) sc__law_pick.nd rfl (.inl rfl) (pe_op op_modN (pe_callTy call_int1 (by rfl) T.m_int (by decide +kernel) (pa_cons (pe_ix ix_list (pv 0) pe_int (fun _ _ => rfl)) pa_nil)) (pv 1)))
  (pss_cons (ps_asg (pe_op op_fdivW (pe_ix ix_list (pv 0) pe_int (fun _ _ => rfl)) (pv 1)) (pg_sub (pv 0) pe_int set_list))
  (pss_one (ps_ret (pv 2))))) pss_nil)
  (pss_cons (ps_asg (pe_op op_add (pe_ix ix_list (pv 0) pe_int (fun _ _ => rfl)) pe_int) (pg_sub (pv 0) pe_int set_list))
  (pss_cons (ps_set (i := 3) sc__law_pick.nd rfl (.inl rfl) pe_int)
  (Evl.pss_cut (ps_if (pt_cmpR op_lt (pe_ix ix_list (pv 0) pe_int (fun _ _ => rfl)) (pe_callB call_len_seq (by rfl) T.m_len PySem.boot_len (pa_cons (pe_ix ix_list (pv 0) pe_int (fun _ _ => rfl)) pa_nil)) (nomark _)) (pss_cons (ps_set (i := 3) sc__law_pick.nd rfl (.inl rfl) (pe_ix ix_list (pe_ix ix_list (pv 0) pe_int (fun _ _ => rfl)) (pe_ix ix_list (pv 0) pe_int (fun _ _ => rfl)) (fun _ _ => rfl)))
  (pss_one (ps_asg (pe_op op_add (pe_ix ix_list (pv 0) pe_int (fun _ _ => rfl)) pe_int) (pg_sub (pv 0) pe_int set_list)))) pss_nil)
  (pss_cons (ps_if (pt_cmpR op_ge (pv 3) (pe_op op_pow pe_int pe_int) (nomark _)) (pss_cons (ps_asg (pe_op op_fdivW (pv 3) (pv 1)) (pg_sub (pv 0) pe_int set_list))
  (pss_one (ps_ret (pe_op op_modN (pe_callTy call_int1 (by rfl) T.m_int (by decide +kernel) (pa_cons (pv 3) pa_nil)) (pv 1))))) pss_nil)
  (pss_cons (ps_set (i := 4) sc__law_pick.nd rfl (.inl rfl) (pe_op op_modN (pe_callTy call_int1 (by rfl) T.m_int (by decide +kernel) (pa_cons (pe_op op_add (pe_op op_add (pe_op op_mul (pe_ix ix_list (pv 0) pe_int (fun _ _ => rfl)) pe_int) (pe_op op_modN (pe_callTy call_int1 (by rfl) T.m_int (by decide +kernel) (pa_cons (pv 3) pa_nil)) pe_int)) (pe_op op_mul (pe_ix ix_list (pv 0) pe_int (fun _ _ => rfl)) pe_int)) pa_nil)) pe_int))
  (pss_cons (ps_set (i := 4) sc__law_pick.nd rfl (.inl rfl) (pe_op op_modN (pe_callTy call_int1 (by rfl) T.m_int (by decide +kernel) (pa_cons (pe_op op_mul (pv 4) (pe_op op_add (pe_op op_fdivW (pv 4) pe_int) pe_int)) pa_nil)) pe_int))
  (pss_cons (ps_asg (pv 4) (pg_sub (pv 0) pe_int set_list))
  (pss_one (ps_ret (pe_op op_modN (pe_callTy call_int1 (by rfl) T.m_int (by decide +kernel) (pa_cons (pe_op op_fdivW (pv 4) pe_int) pa_nil)) (pv 1))))))))))))), ?_⟩
    -- tape[2] > 1
    refine ⟨.ref t, rfl, t, _, 2, _, rfl, rfl, SqL.of ht, atI_nat (j := 2) rfl, _, _, rfl, rfl, _, rfl, ite2 (fun h1 => ?_) (fun h1 => ?_)⟩
    · -- digit
      refine ⟨.ref t, rfl, t, _, 2, _, rfl, rfl, SqL.of ht, atI_nat (j := 2) rfl, .inl ⟨_, rfl, ?_⟩⟩
      refine ⟨.int n, rfl, _, _, rfl, rfl, by omega, ?_⟩
      -- tape[2] = tape[2] // size
      refine ⟨.ref t, rfl, t, _, 2, _, rfl, rfl, SqL.of ht, atI_nat (j := 2) rfl, .int n, rfl, _, _, rfl, rfl, wd _, ?_⟩
      refine ⟨.ref t, rfl, t, _, 2, 2, rfl, rfl, ht, rfl, ?_⟩
      -- return digit
      refine ⟨_, rfl, ?_⟩
      refine q _ _ (fm_of hn).1 (fm_of hn).2 Moved.upd ⟨ns, pos, _, mx, ct, hlt, upd_same, ?_, hp⟩
      rw [upd_ne hlt]
      exact hl
    · -- tape[4] = tape[4] + 1
      refine ⟨.ref t, rfl, t, _, 4, _, rfl, rfl, SqL.of ht, atI_nat (j := 4) rfl, _, _, rfl, rfl, ?_⟩
      refine ⟨.ref t, rfl, t, _, 4, 4, rfl, rfl, ht, rfl, ?_⟩
      -- cell = 0; the first cut
      refine ⟨fun σ' H1 => ∃ (cell p2 : Int) (σ3 σ4 : Option V), σ' = [some (.ref t), some (.int n), σ3, some (.int cell), σ4] ∧ 0 ≤ p2 ∧ H1 t = some (.lst [.ref l, .int p2, .int rest, .int mx, .int (ct + 1)]) ∧ H1 l = some (.lst (ns.map V.int)) ∧ Moved t H H1, ?_, fun σ' H1 hm => ?_⟩
      · have hl1 : (upd H t (.lst [.ref l, .int pos, .int rest, .int mx, .int (ct + 1)])) l = some (.lst (ns.map V.int)) := by
          rw [upd_ne hlt]
          exact hl
        refine ⟨.ref t, rfl, t, _, 1, _, rfl, rfl, SqL.of upd_same, atI_nat (j := 1) rfl, .ref t, rfl, t, _, 0, _, rfl, rfl, SqL.of upd_same, atI_nat (j := 0) rfl, l, _, rfl, .inl (SqL.of hl1), _, _, rfl, rfl, _, rfl, ite2 (fun h2 => ?_) (fun h2 => ?_)⟩
        · have h3 : pos < ((ns.map V.int).length : Int) := of_decide_eq_true h2
          obtain ⟨j, rfl⟩ : ∃ j : Nat, pos = (j : Int) := ⟨pos.toNat, by omega⟩
          have hj : j < ns.length := by
            rw [List.length_map] at h3
            omega
          have gj : (ns.map V.int)[j]? = some (.int ns[j]) := by
            rw [List.getElem?_map, List.getElem?_eq_getElem hj]
            rfl
          -- cell = tape[0][tape[1]]
          refine ⟨.ref t, rfl, t, _, 0, _, rfl, rfl, SqL.of upd_same, atI_nat (j := 0) rfl, .ref t, rfl, t, _, 1, _, rfl, rfl, SqL.of upd_same, atI_nat (j := 1) rfl, l, _, _, _, rfl, rfl, SqL.of hl1, atI_nat gj, ?_⟩
          -- tape[1] = tape[1] + 1
          refine ⟨.ref t, rfl, t, _, 1, _, rfl, rfl, SqL.of upd_same, atI_nat (j := 1) rfl, _, _, rfl, rfl, ?_⟩
          refine ⟨.ref t, rfl, t, _, 1, 1, rfl, rfl, upd_same, rfl, ?_⟩
          rw [upd_upd]
          exact ⟨_, _, _, _, rfl, by omega, upd_same, (by rw [upd_ne hlt]; exact hl), Moved.upd⟩
        · exact ⟨_, _, _, _, rfl, hp, upd_same, hl1, Moved.upd⟩
      · obtain ⟨cell, p2, σ3, σ4, rfl, hp2, ht1, hl1, mv⟩ := hm
        -- cell >= 10 ** 18
        refine ⟨.int cell, rfl, 10, 18, rfl, rfl, ⟨by decide, by decide, by decide⟩, _, _, rfl, rfl, _, rfl, ite2 (fun h2 => ?_) (fun h2 => ?_)⟩
        · refine ⟨.int cell, rfl, .int n, rfl, _, _, rfl, rfl, wd _, .ref t, rfl, t, _, 2, 2, rfl, rfl, ht1, rfl, ?_⟩
          refine ⟨.int cell, rfl, .inl ⟨_, rfl, .int n, rfl, _, _, rfl, rfl, by omega, ?_⟩⟩
          refine q _ _ (fm_of hn).1 (fm_of hn).2 (mv.trans Moved.upd) ⟨ns, p2, _, mx, _, hlt, upd_same, ?_, hp2⟩
          rw [upd_ne hlt]
          exact hl1
        · -- mixed = ..
          refine ⟨.ref t, rfl, t, _, 3, _, rfl, rfl, SqL.of ht1, atI_nat (j := 3) rfl, _, _, rfl, rfl, .inr ⟨by decide, by decide⟩, ?_⟩
          refine ⟨.int cell, rfl, .inl ⟨_, rfl, _, _, rfl, rfl, (by show (2147483629 : Int) ≠ 0; decide), _, _, rfl, rfl, ?_⟩⟩
          refine ⟨.ref t, rfl, t, _, 4, _, rfl, rfl, SqL.of ht1, atI_nat (j := 4) rfl, _, _, rfl, rfl, .inr ⟨by decide, by decide⟩, _, _, rfl, rfl, ?_⟩
          refine .inl ⟨_, rfl, _, _, rfl, rfl, (by show (2147483647 : Int) ≠ 0; decide), ?_⟩
          have bm := fm_of (a := mx * 48271 + cell.fmod 2147483629 + (ct + 1) * 69621) (b := 2147483647) (by decide)
          -- mixed = int(mixed * ..) % ..
          refine ⟨_, rfl, _, rfl, _, _, rfl, rfl, ⟨by decide, by decide⟩, _, _, rfl, rfl, _, _, rfl, rfl, .inl ⟨Int.lt_of_lt_of_le (by decide) bm.1, Int.lt_trans bm.2 (by decide)⟩, .inl ⟨_, rfl, _, _, rfl, rfl, (by show (2147483399 : Int) ≠ 0; decide), ?_⟩⟩
          -- tape[3] = mixed
          refine ⟨_, rfl, .ref t, rfl, t, _, 3, 3, rfl, rfl, ht1, rfl, ?_⟩
          refine ⟨_, rfl, _, _, rfl, rfl, ⟨by decide, by decide⟩, .inl ⟨_, rfl, .int n, rfl, _, _, rfl, rfl, by omega, ?_⟩⟩
          refine q _ _ (fm_of hn).1 (fm_of hn).2 (mv.trans Moved.upd) ⟨ns, p2, _, _, _, hlt, upd_same, ?_, hp2⟩
          rw [upd_ne hlt]
          exact hl1
end

section
variable {P : Program} {w : World} {K : PySem.W.Frag} {mg : Str → Option Value} {base : Heap}
def spIsInt (K : PySem.W.Frag) : Sp := fun vs H Q _ => ∃ i : Int, vs = [.int i] ∧ Q (.bl true) H
theorem ok_is_integer (T : Tx K mg) : FnOk P w K mg base CX0 1 T.a_is_integer T.d_is_integer ["thing"] (spIsInt K) := by
  refine T.F_is_integer.ok sc_is_integer (fun vs H Q E h => ?_) (fun cdv A outer s H vs Q E hr h => ?_)
  · obtain ⟨i, rfl, _⟩ := h
    rfl
  · obtain ⟨i, rfl, q⟩ := h
    refine ⟨_, ((pss_one (ps_ret (pe_and (pe_callB call_isi (by rfl) T.m_isinstance (by decide +kernel) (pa_cons (pv 0) (pa_cons (pe_bltn (v := .ty "int") (by rfl) T.m_int (by decide +kernel) rfl) pa_nil))) (pe_one (pe_not (pe_callB call_isi (by rfl) T.m_isinstance (by decide +kernel) (pa_cons (pv 0) (pa_cons (pe_bltn (v := .ty "bool") (by rfl) T.m_bool (by decide +kernel) rfl) pa_nil))))))))), ?_⟩
    refine ⟨.int i, rfl, .int i, .ty "int", _, _, true, rfl, .ty _, .base (.int i), kit_ty (by decide +kernel), true, rfl, iteT ?_⟩
    refine ⟨.int i, rfl, .int i, .ty "bool", _, _, false, rfl, .ty _, .base (.int i), kit_ty (by decide +kernel), false, rfl, ?_⟩
    exact q
def spIsNum (K : PySem.W.Frag) : Sp := fun vs H Q _ => ∃ i a b : Int, vs = [.int i, .int a, .int b] ∧ Q (.bl (decide (a ≤ i) && decide (i ≤ b))) H
theorem ok_is_number (T : Tx K mg) : FnOk P w K mg base CX0 2 T.a_is_number T.d_is_number ["thing", "least", "most"] (spIsNum K) := by
  refine T.F_is_number.ok sc_is_number (fun vs H Q E h => ?_) (fun cdv A outer s H vs Q E hr h => ?_)
  · obtain ⟨i, a, b, rfl, _⟩ := h
    rfl
  · obtain ⟨i, a, b, rfl, q⟩ := h
    refine ⟨_, ((pss_one (ps_ret (pe_and (pe_call (ok_is_integer T) (hr.mono (by decide)) (by rfl) T.g_is_integer T.F_is_integer.kp T.b_is_integer .nil pass0 (pa_cons (pv 0) pa_nil)) (pe_one (pe_chain op_le op_le (pv 1) (pv 0) (pv 2))))))), ?_⟩
    refine ⟨.int i, rfl, i, rfl, true, rfl, iteT ?_⟩
    refine ⟨.int a, rfl, .int i, rfl, a, i, rfl, rfl, _, rfl, ?_⟩
    by_cases h : a ≤ i
    · rw [decide_eq_true h] at q ⊢
      refine iteT ⟨.int b, rfl, i, b, rfl, rfl, ?_⟩
      exact q
    · rw [decide_eq_false h] at q ⊢
      exact iteF q
def spAreNums (K : PySem.W.Frag) : Sp := fun vs H Q _ => ∃ (a : Addr) (ns : List Int) (lo hi : Int), vs = [.ref a, .int lo, .int hi] ∧ SqT K H a (ns.map V.int) ∧ ns.length ≤ 1000 ∧
  ∀ H', Same H H' → Q (.bl (ns.all fun n => decide (lo ≤ n) && decide (n ≤ hi))) H'
theorem ok_are_numbers (T : Tx K mg) : FnOk P w K mg base CX0 3 T.a_are_numbers T.d_are_numbers ["things", "least", "most"] (spAreNums K) := by
  refine T.F_are_numbers.ok sc_are_numbers (fun vs H Q E h => ?_) (fun cdv A outer s H vs Q E hr h => ?_)
  · obtain ⟨a, ns, lo, hi, rfl, _⟩ := h
    rfl
  · obtain ⟨a, ns, lo, hi, rfl, hT, hlen, q⟩ := h
    refine ⟨_, ((pss_one (ps_ret (pe_callB (cr_all rfl) (by rfl) T.m_all (by decide +kernel) (pa_cons (pe_lc (own := [("thing", 3)]) (g := (gName 3)) (tt := tYes) rfl sc_are_numbers.nd (pi_tup (pv 0)) (blkOk_by (own := [("thing", 3)]) (N := ["things", "least", "most", "thing"]) (sc := defScope s_are_numbers) (by decide +kernel)) (fun _ _ _ _ _ => pg_name (i := 3) sc_are_numbers.nd rfl (.inl rfl)) (fun _ _ _ _ _ => pts_nil) (fun _ _ _ _ _ => (pe_call (ok_is_number T) (hr.mono (by decide)) (by rfl) T.g_is_number T.F_is_number.kp T.b_is_number .nil pass0 (pa_cons (pv 3) (pa_cons (pv 1) (pa_cons (pv 2) pa_nil)))))) pa_nil))))), ?_⟩
    refine ⟨.ref a, rfl, a, rfl, ⟨_, hT⟩, fun D hD => lc_tup (K := K) (a := a) (xs := ns.map V.int)
      (fun i H' => Same H H' ∧ H D = none ∧ H' D = some (.lst (((ns.take i).map fun n => decide (lo ≤ n) && decide (n ≤ hi)).map V.bl)))
      ⟨same_upd hD, hD, upd_same⟩ (fun i H' _ p => sT p.1 hT) (fun i x H' hx p => ?_) (fun H' p => ?_)⟩
    · obtain ⟨sm, nD, eD⟩ := p
      rw [List.getElem?_map] at hx
      obtain ⟨n, hn, rfl⟩ := Option.map_eq_some_iff.mp hx
      refine ⟨rfl, ?_⟩
      refine ⟨.int n, rfl, .int lo, rfl, .int hi, rfl, n, lo, hi, rfl, ?_⟩
      have hi' : i < ns.length := (List.getElem?_eq_some_iff.mp hn).1
      refine ⟨_, eD, ?_, ?_⟩
      · rw [List.length_map, List.length_map, List.length_take]
        exact small1000 (by omega)
      · refine ⟨fun b o e => ?_, nD, ?_⟩
        · rw [upd_ne (ne_of_none e nD)]
          exact sm b o e
        · rw [upd_same, List.take_add_one, hn, List.map_append, List.map_append]
          rfl
    · obtain ⟨sm, nD, eD⟩ := p
      rw [List.length_map, List.take_of_length_le (Nat.le_refl _)] at eD
      refine ⟨D, _, rfl, SqL.of eD, ?_⟩
      have e2 : ((ns.map fun n => decide (lo ≤ n) && decide (n ≤ hi)).all id) = ns.all fun n => decide (lo ≤ n) && decide (n ≤ hi) := by
        rw [List.all_map]
        rfl
      rw [e2]
      exact q H' sm
end

section
variable {P : Program} {w : World} {K : PySem.W.Frag} {mg : Str → Option Value} {base : Heap}
theorem good_all {ns : List Int} (g : Rch.Good ns) : (ns.all fun n => decide (1 ≤ n) && decide (n ≤ 40)) = true := by
  rw [List.all_eq_true]
  intro n hn
  have := g.2.2 n hn
  rw [Bool.and_eq_true]
  exact ⟨decide_eq_true this.1, decide_eq_true this.2⟩
def spIsLoops (K : PySem.W.Frag) : Sp := fun vs H Q _ => ∃ (a : Addr) (ns : List Int), vs = [.ref a] ∧ SqT K H a (ns.map V.int) ∧ Rch.Good ns ∧ ∀ H', Same H H' → Q (.bl true) H'
theorem ok_is_loops (T : Tx K mg) : FnOk P w K mg base CX0 4 T.a_is_loops T.d_is_loops ["thing"] (spIsLoops K) := by
  refine T.F_is_loops.ok sc_is_loops (fun vs H Q E h => ?_) (fun cdv A outer s H vs Q E hr h => ?_)
  · obtain ⟨a, ns, rfl, _⟩ := h
    rfl
  · obtain ⟨a, ns, rfl, hT, g, q⟩ := h
    refine ⟨_, ((pss_one (ps_ret (pe_and (pe_callB call_isi (by rfl) T.m_isinstance (by decide +kernel) (pa_cons (pv 0) (pa_cons (pe_bltn (v := .ty "tuple") (by rfl) T.m_tuple (by decide +kernel) rfl) pa_nil))) (pe_and (pe_chain op_le op_le pe_int (pe_callB call_len_seq (by rfl) T.m_len PySem.boot_len (pa_cons (pv 0) pa_nil)) (pe_glob (v := .int 8) rfl T.g_MOST_LOOPS ⟨_, rfl⟩)) (pe_one (pe_call (ok_are_numbers T) (hr.mono (by decide)) (by rfl) T.g_are_numbers T.F_are_numbers.kp T.b_are_numbers .nil pass0 (pa_cons (pv 0) (pa_cons pe_int (pa_cons (pe_glob (v := .int 40) rfl T.g_MOST_LENGTH ⟨_, rfl⟩) pa_nil)))))))))), ?_⟩
    refine ⟨.ref a, rfl, .ref a, .ty "tuple", _, _, true, rfl, .ty _, tyTup hT, kit_ty (by decide +kernel), true, rfl, iteT ?_⟩
    have g1 := g.1
    have g2 := g.2.1
    refine ⟨.ref a, rfl, a, _, rfl, .inr hT, 1, _, rfl, rfl, true, ?_, iteT ⟨_, 8, rfl, rfl, true, ?_, iteT ?_⟩⟩
    · show V.bl (decide ((1 : Int) ≤ ((ns.map V.int).length : Int))) = V.bl true
      rw [List.length_map, decide_eq_true (by omega)]
    · show V.bl (decide (((ns.map V.int).length : Int) ≤ (8 : Int))) = V.bl true
      rw [List.length_map, decide_eq_true (by omega)]
    · refine ⟨.ref a, rfl, a, ns, 1, 40, rfl, hT, by omega, fun H' sm => ?_⟩
      have e := good_all g
      rw [e]
      exact q H' sm
end

/-! ### tables -/
theorem kRL : ¬ (("rows" : Str) = "loops") := by decide +kernel
theorem kBL : ¬ (("bound" : Str) = "loops") := by decide +kernel
theorem kBR : ¬ (("bound" : Str) = "rows") := by decide +kernel
theorem kLR : ¬ (("loops" : Str) = "rows") := by decide +kernel
theorem kLB : ¬ (("loops" : Str) = "bound") := by decide +kernel
theorem kRB : ¬ (("rows" : Str) = "bound") := by decide +kernel
def tflds (a b : Addr) (n : Int) : List (Str × V) := putF "bound" (.int n) (putF "rows" (.ref b) (putF "loops" (.ref a) []))
theorem tf_loops (a b : Addr) (n : Int) : (tflds a b n).lookup ("loops" : Str) = some (.ref a) := by
  unfold tflds
  rw [lookup_putF, if_neg kLB, lookup_putF, if_neg kLR, lookup_putF, if_pos rfl]
theorem tf_rows (a b : Addr) (n : Int) : (tflds a b n).lookup ("rows" : Str) = some (.ref b) := by
  unfold tflds
  rw [lookup_putF, if_neg kRB, lookup_putF, if_pos rfl]
theorem tf_bound (a b : Addr) (n : Int) : (tflds a b n).lookup ("bound" : Str) = some (.int n) := by
  unfold tflds
  rw [lookup_putF, if_pos rfl]
theorem putF_len (f : Str) (v : V) : ∀ fs : List (Str × V), (putF f v fs).length ≤ fs.length + 1
  | [] => Nat.le_refl _
  | (g, u) :: fs => by
    unfold putF
    split
    · simp
    · have := putF_len f v fs
      simp only [List.length_cons]
      omega
/-- a table stands at p -/
structure TabAt (K : PySem.W.Frag) (C : Addr) (H : Hp) (p : Addr) (ls : List Int) (rs : List (List Int)) : Prop where
  ob : ∃ dx a b ps, H p = some (.ins C dx (tflds a b (rs.length : Int))) ∧ SqT K H a (ls.map V.int) ∧ SqT K H b (ps.map V.ref) ∧ Tups fI H ps rs
theorem TabAt.same {K : PySem.W.Frag} {C : Addr} {H H' : Hp} {p : Addr} {ls : List Int} {rs : List (List Int)} (h : TabAt K C H p ls rs) (e : Same H H') : TabAt K C H' p ls rs := by
  obtain ⟨dx, a, b, ps, h1, h2, h3, h4⟩ := h.ob
  exact ⟨dx, a, b, ps, e _ _ h1, sT e h2, sT e h3, h4.same e⟩
theorem Tups.at {α : Type} {f : α → List V} {H : Hp} {ps : List Addr} {xs : List α} (h : Tups f H ps xs) : ∀ {i : Nat} {x : α}, xs[i]? = some x → ∃ p, (ps.map V.ref)[i]? = some (.ref p) ∧ H p = some (.tup (f x)) := by
  induction h with
  | nil =>
    intro i x h
    simp at h
  | cons a _ ih =>
    intro i x h
    cases i with
    | zero =>
      simp at h
      subst h
      exact ⟨_, rfl, a⟩
    | succ i =>
      simp only [List.map_cons, List.getElem?_cons_succ] at h ⊢
      exact ih h
section
variable {P : Program} {w : World} {K : PySem.W.Frag} {mg : Str → Option Value} {base : Heap}
def spIsRow (K : PySem.W.Frag) : Sp := fun vs H Q _ => ∃ (a r : Addr) (ls row : List Int), vs = [.ref a, .ref r] ∧ SqT K H a (ls.map V.int) ∧ SqT K H r (row.map V.int) ∧ Tb.InR ls row ∧ row.length ≤ 60 ∧ ∀ H', Same H H' → Q (.bl true) H'
theorem ok_is_row (T : Tx K mg) : FnOk P w K mg base CX0 4 T.a_is_row T.d_is_row ["loops", "thing"] (spIsRow K) := by
  refine T.F_is_row.ok sc_is_row (fun vs H Q E h => ?_) (fun cdv A outer s H vs Q E hr h => ?_)
  · obtain ⟨a, r, ls, row, rfl, _⟩ := h
    rfl
  · obtain ⟨a, r, ls, row, rfl, hA, hR, hin, hlen, q⟩ := h
    refine ⟨_, ((pss_one (ps_ret (pe_and (pe_callB call_isi (by rfl) T.m_isinstance (by decide +kernel) (pa_cons (pv 1) (pa_cons (pe_bltn (v := .ty "tuple") (by rfl) T.m_tuple (by decide +kernel) rfl) pa_nil))) (pe_and (pe_cmpR op_le (pe_callB call_len_seq (by rfl) T.m_len PySem.boot_len (pa_cons (pv 1) pa_nil)) (pe_glob (v := .int 60) rfl T.g_MOST_ITEMS ⟨_, rfl⟩) (nomark _)) (pe_one (pe_call (ok_are_numbers T) (hr.mono (by decide)) (by rfl) T.g_are_numbers T.F_are_numbers.kp T.b_are_numbers .nil pass0 (pa_cons (pv 1) (pa_cons pe_int (pa_cons (pe_op op_sub (pe_callB call_len_seq (by rfl) T.m_len PySem.boot_len (pa_cons (pv 0) pa_nil)) pe_int) pa_nil)))))))))), ?_⟩
    refine ⟨.ref r, rfl, .ref r, .ty "tuple", _, _, true, rfl, .ty _, tyTup hR, kit_ty (by decide +kernel), true, rfl, iteT ?_⟩
    refine ⟨.ref r, rfl, r, _, rfl, .inr hR, _, 60, rfl, rfl, true, ?_, iteT ?_⟩
    · show V.bl (decide (((row.map V.int).length : Int) ≤ (60 : Int))) = V.bl true
      rw [List.length_map, decide_eq_true (by omega)]
    · refine ⟨.ref r, rfl, .ref a, rfl, a, _, rfl, .inr hA, _, _, rfl, rfl, r, row, 0, (((ls.map V.int).length : Nat) : Int) - 1, rfl, hR, by omega, fun H' sm => ?_⟩
      have e : (row.all fun n => decide ((0 : Int) ≤ n) && decide (n ≤ (((ls.map V.int).length : Nat) : Int) - 1)) = true := by
        rw [List.all_eq_true]
        intro n hn
        have := hin n hn
        rw [List.length_map, Bool.and_eq_true]
        exact ⟨decide_eq_true this.1, decide_eq_true (by omega)⟩
      rw [e]
      exact q H' sm
def spRowSum (K : PySem.W.Frag) : Sp := fun vs H Q _ => ∃ (a r : Addr) (ls row : List Int), vs = [.ref a, .ref r] ∧ SqT K H a (ls.map V.int) ∧ SqT K H r (row.map V.int) ∧ Tb.InR ls row ∧ row.length ≤ 1000 ∧ ∀ H', Same H H' → Q (.int (Tb.rsum ls row)) H'
theorem ok_row_sum (T : Tx K mg) : FnOk P w K mg base CX0 1 T.a_row_sum T.d_row_sum ["loops", "row"] (spRowSum K) := by
  refine T.F_row_sum.ok sc_row_sum (fun vs H Q E h => ?_) (fun cdv A outer s H vs Q E hr h => ?_)
  · obtain ⟨a, r, ls, row, rfl, _⟩ := h
    rfl
  · obtain ⟨a, r, ls, row, rfl, hA, hR, hin, hlen, q⟩ := h
    refine ⟨_, ((pss_one (ps_ret (pe_callB (cr_sum rfl) (by rfl) T.m_sum (by decide +kernel) (pa_cons (pe_lc (own := [("loop", 2)]) (g := (gName 2)) (tt := tYes) rfl sc_row_sum.nd (pi_tup (pv 1)) (blkOk_by (own := [("loop", 2)]) (N := ["loops", "row", "loop"]) (sc := defScope s_row_sum) (by decide +kernel)) (fun _ _ _ _ _ => pg_name (i := 2) sc_row_sum.nd rfl (.inl rfl)) (fun _ _ _ _ _ => pts_nil) (fun _ _ _ _ _ => (pe_ix (ixTK (K := K) (by rfl)) (pv 0) (pv 2) (fun _ _ => rfl)))) pa_nil))))), ?_⟩
    refine ⟨.ref r, rfl, r, rfl, ⟨_, hR⟩, fun D hD => lc_tup (K := K) (a := r) (xs := row.map V.int)
      (fun i H' => Same H H' ∧ H' D = some (.lst (((row.take i).map (Tb.len1 ls)).map V.int)))
      ⟨same_upd hD, upd_same⟩ (fun i H' _ p => sT p.1 hR) (fun i x H' hx p => ?_) (fun H' p => ?_)⟩
    · obtain ⟨sm, eD⟩ := p
      rw [List.getElem?_map] at hx
      obtain ⟨n, hn, rfl⟩ := Option.map_eq_some_iff.mp hx
      have hk := hin n (List.mem_of_getElem? hn)
      have hi' : i < row.length := (List.getElem?_eq_some_iff.mp hn).1
      refine ⟨rfl, ?_⟩
      refine ⟨.ref a, rfl, .int n, rfl, a, _, _, .int (Tb.len1 ls n), rfl, rfl, sT sm hA, atI_of hk.1 ?_, ?_⟩
      · rw [List.getElem?_map, Tb.len_at hk.1 hk.2]
        rfl
      · refine ⟨_, eD, ?_, fun b o e => ?_, ?_⟩
        · rw [List.length_map, List.length_map, List.length_take]
          exact small1000 (by omega)
        · rw [upd_ne (ne_of_none e hD)]
          exact sm b o e
        · rw [upd_same, take_snoc hn, List.map_append, List.map_append]
          rfl
    · obtain ⟨sm, eD⟩ := p
      rw [List.length_map, List.take_of_length_le (Nat.le_refl _)] at eD
      exact ⟨D, _, rfl, SqL.of eD, q H' sm⟩
def spTInit (K : PySem.W.Frag) (C : Addr) : Sp := fun vs H Q _ => ∃ (p dx a b : Addr) (ls : List Int) (ps : List Addr) (rs : List (List Int)), vs = [.ref p, .ref a, .ref b] ∧ H p = some (.ins C dx []) ∧ SqT K H a (ls.map V.int) ∧ SqT K H b (ps.map V.ref) ∧ Tups fI H ps rs ∧ Tb.Right ls rs ∧
  ∀ H', (∀ c o, c ≠ p → H c = some o → H' c = some o) → H' p = some (.ins C dx (tflds a b (rs.length : Int))) → Q .non H'
theorem ok_Table___init__ (T : Tx K mg) : FnOk P w K mg base CX0 5 T.a_Table___init__ T.d_Table___init__ ["self", "loops", "rows"] (spTInit K T.c_Table) := by
  refine T.F_Table___init__.ok sc_Table___init__ (fun vs H Q E h => ?_) (fun cdv A outer s H vs Q E hr h => ?_)
  · obtain ⟨p, dx, a, b, ls, ps, rs, rfl, _⟩ := h
    rfl
  · obtain ⟨p, dx, a, b, ls, ps, rs, rfl, hp, hA, hB, tu, R, q⟩ := h
    have el := tu.length
    have r1 := R.2.1
    have r2 := R.2.2.1
    refine ⟨_, ((pss_cons (ps_if (pt_not (pt_val (pe_call (ok_is_loops T) (hr.mono (by decide)) (by rfl) T.g_is_loops T.F_is_loops.kp T.b_is_loops .nil pass0 (pa_cons (pv 1) pa_nil)))) (pss_one ps_never) pss_nil)
  (pss_cons (ps_if (PW.pt (pw_or (pt_not (pt_val (pe_callB call_isi (by rfl) T.m_isinstance (by decide +kernel) (pa_cons (pv 2) (pa_cons (pe_bltn (v := .ty "tuple") (by rfl) T.m_tuple (by decide +kernel) rfl) pa_nil))))) (pw_or1 (pt_not (pt_chain op_le op_le pe_int (pe_callB call_len_seq (by rfl) T.m_len PySem.boot_len (pa_cons (pv 2) pa_nil)) (pe_glob (v := .int 60) rfl T.g_MOST_BOUND ⟨_, rfl⟩)))))) (pss_one ps_never) pss_nil)
  (pss_cons (ps_for PassesOwn.never rfl (RR.pi_enumT (by rfl) T.m_enumerate (pa_cons (pv 2) pa_nil)) (pg_tup rfl (pgs_cons (pg_name (i := 3) sc_Table___init__.nd rfl (.inl rfl)) (pgs_cons (pg_name (i := 4) sc_Table___init__.nd rfl (.inl rfl)) pgs_nil)))
   (pss_one (ps_if (PW.pt (pw_or (pt_not (pt_val (pe_call (ok_is_row T) (hr.mono (by decide)) (by rfl) T.g_is_row T.F_is_row.kp T.b_is_row .nil pass0 (pa_cons (pv 1) (pa_cons (pv 4) pa_nil))))) (pw_or1 (pt_cmpR op_ne (pe_call (ok_row_sum T) (hr.mono (by decide)) (by rfl) T.g_row_sum T.F_row_sum.kp T.b_row_sum .nil pass0 (pa_cons (pv 1) (pa_cons (pv 4) pa_nil))) (pe_op op_add (pv 3) pe_int) (nomark _))))) (pss_one ps_never) pss_nil)))
  (pss_cons (ps_fld (pv 0) (pv 1) rfl)
  (pss_cons (ps_fld (pv 0) (pv 2) rfl)
  (pss_one (ps_fld (pv 0) (pe_callB call_len_seq (by rfl) T.m_len PySem.boot_len (pa_cons (pv 2) pa_nil)) rfl)))))))), ?_⟩
    refine ⟨.ref a, rfl, a, ls, rfl, hA, R.1, fun H1 s1 => ⟨true, rfl, iteF ?_⟩⟩
    have hB1 := sT s1 hB
    refine ⟨.ref b, rfl, .ref b, .ty "tuple", _, _, true, rfl, .ty _, tyTup hB1, kit_ty (by decide +kernel), true, rfl, iteF ?_⟩
    refine ⟨.ref b, rfl, b, _, rfl, .inr hB1, 1, _, rfl, rfl, true, ?_, iteT ⟨_, 60, rfl, rfl, true, ?_, iteF ?_⟩⟩
    · show V.bl (decide ((1 : Int) ≤ ((ps.map V.ref).length : Int))) = V.bl true
      rw [List.length_map, decide_eq_true (by omega)]
    · show V.bl (decide (((ps.map V.ref).length : Int) ≤ (60 : Int))) = V.bl true
      rw [List.length_map, decide_eq_true (by omega)]
    · refine ⟨.ref b, rfl, b, _, rfl, hB1, RR.for_enumT (K := K) (xs := ps.map V.ref)
        (fun i σ H' => ∃ y3 y4, σ = [some (.ref p), some (.ref a), some (.ref b), y3, y4] ∧ Same H H')
        ⟨_, _, rfl, s1⟩ (fun i σ H' _ h => ?_) (fun i x X σ H' hx h nX => ?_) (fun σ H' h => ?_)⟩
      · obtain ⟨_, _, _, sm⟩ := h
        exact sT sm hB
      · obtain ⟨y3, y4, rfl, sm⟩ := h
        obtain ⟨r, row, rfl, hrow, er⟩ := tu.get hx
        obtain ⟨hin, hl60, hsum⟩ := R.2.2.2 i row hrow
        have sX := same_upd (o := .tup [.int (i : Nat), .ref r]) nX
        have sm2 := sm.trans sX
        refine ⟨X, _, rfl, SqT.of upd_same, rfl, _, [_], rfl, _, [], rfl, rfl, ?_⟩
        refine ⟨.ref a, rfl, .ref r, rfl, a, r, ls, row, rfl, sT sm2 hA, SqT.of (sm2 _ _ er), hin, hl60, fun H2 s2 => ⟨true, rfl, iteF ?_⟩⟩
        have sm3 := sm2.trans s2
        refine ⟨.ref a, rfl, .ref r, rfl, a, r, ls, row, rfl, sT sm3 hA, SqT.of (sm3 _ _ er), hin, by omega, fun H3 s3 => ?_⟩
        refine ⟨_, rfl, _, _, rfl, rfl, rfl, false, ne_no hsum, iteF ?_⟩
        exact ⟨_, _, rfl, sm3.trans s3⟩
      · obtain ⟨y3, y4, rfl, sm⟩ := h
        have hp1 := sm _ _ hp
        have hab : ∀ {X : Hp} {c : Addr} {xs : List V} {o : HO} {fs : List (Str × V)}, X p = some (.ins T.c_Table dx fs) → SqT K X c xs → SqT K (upd X p o) c xs := fun {X c xs o fs} h1 h2 => by
          rcases h2 with (h2 | ⟨z, h2⟩) | h2
          · exact .inl (.inl (by rw [upd_ne (fun e => by rw [e, h1] at h2; cases h2)]; exact h2))
          · exact .inl (.inr ⟨z, by rw [upd_ne (fun e => by rw [e, h1] at h2; cases h2)]; exact h2⟩)
          · exact .inr h2
        refine ⟨.ref a, rfl, .ref p, rfl, p, T.c_Table, dx, [], rfl, hp1, T.cl_Table, T.n_Table_loops, by show 0 < 1000; decide, ?_⟩
        refine ⟨.ref b, rfl, .ref p, rfl, p, T.c_Table, dx, _, rfl, upd_same, T.cl_Table, T.n_Table_rows, by show 1 < 1000; decide, ?_⟩
        have hB3 := hab upd_same (hab hp1 (sT sm hB) (o := .ins T.c_Table dx (putF "loops" (.ref a) []))) (o := .ins T.c_Table dx (putF "rows" (.ref b) (putF "loops" (.ref a) [])))
        refine ⟨.ref b, rfl, b, _, rfl, .inr hB3, .ref p, rfl, p, T.c_Table, dx, _, rfl, upd_same, T.cl_Table, T.n_Table_bound, Nat.lt_of_le_of_lt (putF_len _ _ _) (by show 2 < 1000; decide), ?_⟩
        refine q _ (fun c o n e => ?_) ?_
        · rw [upd_ne n, upd_ne n, upd_ne n]
          exact sm _ _ e
        · rw [upd_same, List.length_map, el]
          rfl
end

/-! ### the entries of a row, and of a wait -/
section
variable {P : Program} {w : World} {K : PySem.W.Frag} {mg : Str → Option Value} {base : Heap}
def spRowEnt (K : PySem.W.Frag) : Sp := fun vs H Q _ => ∃ (a r : Addr) (ls row : List Int), vs = [.ref a, .ref r] ∧ SqT K H a (ls.map V.int) ∧ SqT K H r (row.map V.int) ∧ Tb.InR ls row ∧ row.length ≤ 1000 ∧
  ∀ L ps H', Same H H' → H L = none → H' L = some (.lst (ps.map V.ref)) → Tups fI H' ps (Tb.ents ls (Tb.rsum ls row) row) → Q (.ref L) H'
theorem ok_row_entries (T : Tx K mg) : FnOk P w K mg base CX0 2 T.a_row_entries T.d_row_entries ["loops", "row"] (spRowEnt K) := by
  refine T.F_row_entries.ok sc_row_entries (fun vs H Q E h => ?_) (fun cdv A outer s H vs Q E hr h => ?_)
  · obtain ⟨a, r, ls, row, rfl, _⟩ := h
    rfl
  · obtain ⟨a, r, ls, row, rfl, hA, hR, hin, hl, q⟩ := h
    refine ⟨_, ((pss_cons (ps_set (i := 2) sc_row_entries.nd rfl (.inl rfl) (pe_lst pa_nil))
  (pss_cons (ps_set (i := 3) sc_row_entries.nd rfl (.inl rfl) pe_int)
  (pss_cons (ps_set (i := 4) sc_row_entries.nd rfl (.inl rfl) (pe_call (ok_row_sum T) (hr.mono (by decide)) (by rfl) T.g_row_sum T.F_row_sum.kp T.b_row_sum .nil pass0 (pa_cons (pv 0) (pa_cons (pv 1) pa_nil))))
  (pss_cons (ps_for PassesOwn.never rfl (pi_tup (pv 1)) (pg_name (i := 5) sc_row_entries.nd rfl (.inl rfl))
   (pss_cons (ps_expr (pe_bm PySem.F.plainAttrs_list PySem.F.slot_list_append PySem.F.type_list_append mt_append (pv 2) (pa_cons (pe_tup (pa_cons (pv 5) (pa_cons (pv 3) (pa_cons (pv 4) pa_nil)))) pa_nil)))
  (pss_cons (ps_aug (i := 3) sc_row_entries.nd rfl (.inl rfl) (pe_ix ix_tup (pv 0) (pv 5) (fun _ _ => rfl)) ip_add)
  (pss_one (ps_aug (i := 4) sc_row_entries.nd rfl (.inl rfl) (pe_ix ix_tup (pv 0) (pv 5) (fun _ _ => rfl)) ip_sub)))))
  (pss_one (ps_ret (pv 2)))))))), ?_⟩
    refine ⟨Nat.zero_le _, fun L nL => ?_⟩
    have s1 := same_upd (o := .lst []) nL
    refine ⟨.ref a, rfl, .ref r, rfl, a, r, ls, row, rfl, sT s1 hA, sT s1 hR, hin, hl, fun H2 s2 => ?_⟩
    have sA := s1.trans s2
    have eL := s2 _ _ (upd_same (H := H) (a := L) (o := .lst []))
    refine ⟨.ref r, rfl, r, rfl, ⟨_, sT sA hR⟩, for_tup (K := K) (xs := row.map V.int)
      (fun i σ H' => ∃ (y5 : Option V) (qs : List Addr), σ = [some (.ref a), some (.ref r), some (.ref L), some (.int (Tb.rsum ls (row.take i))), some (.int (Tb.rsum ls row - Tb.rsum ls (row.take i))), y5] ∧ H' L = some (.lst (qs.map V.ref)) ∧ Tups fI H' qs ((Tb.ents ls (Tb.rsum ls row) row).take i) ∧ Same H H')
      ⟨_, [], by
        show _ = [some (V.ref a), some (.ref r), some (.ref L), some (.int 0), some (.int (Tb.rsum ls row - 0)), none]
        rw [Int.sub_zero]
        rfl, eL, .nil, sA⟩ (fun i σ H' _ h => ?_) (fun i x σ H' hx h => ?_) (fun σ H' h => ?_)⟩
    · obtain ⟨_, _, _, _, _, sm⟩ := h
      exact sT sm hR
    · obtain ⟨y5, qs, rfl, eL, tq, sm⟩ := h
      rw [List.getElem?_map] at hx
      obtain ⟨k, hk, rfl⟩ := Option.map_eq_some_iff.mp hx
      have bk := hin k (List.mem_of_getElem? hk)
      have hi' : i < row.length := (List.getElem?_eq_some_iff.mp hk).1
      have hg : (Tb.ents ls (Tb.rsum ls row) row)[i]? = some [k, Tb.rsum ls (row.take i), Tb.rsum ls row - Tb.rsum ls (row.take i)] := by
        unfold Tb.ents
        rw [List.getElem?_map, Tb.go_take, hk, Int.zero_add]
        rfl
      have zq : qs.length ≤ 1000 := by
        rw [tq.length, List.length_take]
        omega
      generalize Tb.rsum ls row = W at *
      refine ⟨.ref L, rfl, .inl ⟨rfl, _, SqL.of eL⟩, .int k, rfl, _, rfl, _, rfl, by show 3 ≤ sizeLine; decide, fun t nt => ?_⟩
      have s3 := same_upd (o := .tup [V.int k, .int (Tb.rsum ls (row.take i)), .int (W - Tb.rsum ls (row.take i))]) nt
      refine ⟨L, _, _, rfl, rfl, s3 _ _ eL, by rw [List.length_map]; exact small1000 zq, ?_⟩
      have sm4 : Same H (upd (upd H' t (.tup [V.int k, .int (Tb.rsum ls (row.take i)), .int (W - Tb.rsum ls (row.take i))])) L (.lst (qs.map V.ref ++ [V.ref t]))) := same_put (sm.trans s3) nL
      have at1 : atI (ls.map V.int) k = some (.int (Tb.len1 ls k)) := atI_of bk.1 (by rw [List.getElem?_map, Tb.len_at bk.1 bk.2]; rfl)
      refine ⟨_, rfl, .ref a, rfl, .int k, rfl, a, _, _, _, rfl, rfl, sT sm4 hA, at1, _, _, rfl, rfl, ?_⟩
      refine ⟨_, rfl, .ref a, rfl, .int k, rfl, a, _, _, _, rfl, rfl, sT sm4 hA, at1, _, _, rfl, rfl, ?_⟩
      refine ⟨some (.int k), qs ++ [t], ?_, by rw [upd_same, List.map_append]; rfl, ?_, sm4⟩
      · rw [take_snoc hk, Tb.rsum_snoc]
        show [some (V.ref a), some (.ref r), some (.ref L), some (.int (Tb.rsum ls (row.take i) + Tb.len1 ls k)), some (.int (W - Tb.rsum ls (row.take i) - Tb.len1 ls k)), some (.int k)] = _
        rw [Int.sub_sub]
      · rw [take_snoc hg]
        refine ((tq.new nt).snoc ?_).put (s3 _ _ eL)
        rw [upd_same]
        rfl
    · obtain ⟨y5, qs, rfl, eL, tq, sm⟩ := h
      rw [List.length_map, List.take_of_length_le (by rw [Tb.ents_len]; exact Nat.le_refl _)] at tq
      exact ⟨.ref L, rfl, q L qs H' sm nL eL tq⟩
end

/-! ### the entries of a table -/
section
variable {P : Program} {w : World} {K : PySem.W.Frag} {mg : Str → Option Value} {base : Heap}
def spEntries (K : PySem.W.Frag) (C : Addr) : Sp := fun vs H Q _ => ∃ (p : Addr) (ls : List Int) (rs : List (List Int)), vs = [.ref p] ∧ TabAt K C H p ls rs ∧ Tb.Right ls rs ∧
  ∀ L ps es H', Same H H' → H L = none → H' L = some (.lst (ps.map V.ref)) → Tups fI H' ps es → es.Perm (Tb.all ls rs rs.length) → es.Pairwise (fun x y => TS.code 1000 x ≤ TS.code 1000 y) → Q (.ref L) H'
theorem ok_entries (T : Tx K mg) : FnOk P w K mg base CX0 3 T.a_entries T.d_entries ["table"] (spEntries K T.c_Table) := by
  refine T.F_entries.ok sc_entries (fun vs H Q E h => ?_) (fun cdv A outer s H vs Q E hr h => ?_)
  · obtain ⟨p, ls, rs, rfl, _⟩ := h
    rfl
  · obtain ⟨p, ls, rs, rfl, tab, R, q⟩ := h
    obtain ⟨dx, a, b, ps, ep, hA, hB, tu⟩ := tab.ob
    have r60 := R.2.2.1
    refine ⟨_, ((pss_cons (ps_set (i := 1) sc_entries.nd rfl (.inl rfl) (pe_lst pa_nil))
  (pss_cons (ps_for PassesOwn.never rfl (pi_tup (pe_fld (pv 0) rfl)) (pg_name (i := 2) sc_entries.nd rfl (.inl rfl))
   (pss_one (ps_expr (pe_bm PySem.F.plainAttrs_list PySem.F.slot_list_extend PySem.F.type_list_extend mt_extend (pv 1) (pa_cons (pe_call (ok_row_entries T) (hr.mono (by decide)) (by rfl) T.g_row_entries T.F_row_entries.kp T.b_row_entries .nil pass0 (pa_cons (pe_fld (pv 0) rfl) (pa_cons (pv 2) pa_nil))) pa_nil)))))
  (pss_one (ps_ret (pe_callB (cr_sortC (B := 1000) (d := 3) (by decide)) (by rfl) T.m_sorted (by decide +kernel) (pa_cons (pv 1) pa_nil))))))), ?_⟩
    refine ⟨Nat.zero_le _, fun L nL => ?_⟩
    have s1 := same_upd (o := .lst []) nL
    refine ⟨.ref p, rfl, p, T.c_Table, dx, _, _, rfl, s1 _ _ ep, T.cl_Table, T.n_Table_rows, tf_rows _ _ _, b, rfl, ⟨_, sT s1 hB⟩, for_tup (K := K) (xs := ps.map V.ref)
      (fun i σ H' => ∃ (y2 : Option V) (qs : List Addr), σ = [some (.ref p), some (.ref L), y2] ∧ H' L = some (.lst (qs.map V.ref)) ∧ Tups fI H' qs (Tb.all ls rs i) ∧ Same H H')
      ⟨_, [], rfl, upd_same, .nil, s1⟩ (fun i σ H' _ h => ?_) (fun i x σ H' hx h => ?_) (fun σ H' h => ?_)⟩
    · obtain ⟨_, _, _, _, _, sm⟩ := h
      exact sT sm hB
    · obtain ⟨y2, qs, rfl, eL, tq, sm⟩ := h
      obtain ⟨r, row, rfl, hrow, er⟩ := tu.get hx
      have hi' : i < rs.length := (List.getElem?_eq_some_iff.mp hrow).1
      have zq : qs.length ≤ 3600 := by
        rw [tq.length]
        have := Tb.all_len R i (by omega)
        omega
      obtain ⟨hin, hl60, hsum⟩ := R.2.2.2 i _ hrow
      refine ⟨.ref L, rfl, .inl ⟨rfl, _, SqL.of eL⟩, .ref p, rfl, p, T.c_Table, dx, _, _, rfl, sm _ _ ep, T.cl_Table, T.n_Table_loops, tf_loops _ _ _, .ref r, rfl, a, r, ls, row, rfl, sT sm hA, SqT.of (sm _ _ er), hin, by omega, fun D ds H3 s3 nD eD td => ?_⟩
      rw [hsum] at td
      have eL3 := s3 _ _ eL
      have zd : ds.length ≤ 60 := by
        rw [td.length, Tb.ents_len]
        exact hl60
      refine ⟨L, D, _, _, rfl, rfl, eL3, eD, ?_, ?_⟩
      · rw [List.length_map, List.length_map]
        show _ ≤ 2 ^ 24
        omega
      · have tqd : Tups fI H3 (qs ++ ds) (Tb.all ls rs i ++ Tb.ents ls ((i : Int) + 1) row) := (tq.same s3).append td
        refine ⟨_, qs ++ ds, rfl, by rw [upd_same, List.map_append], ?_, same_put (sm.trans s3) nL⟩
        show Tups fI _ _ (Tb.all ls rs i ++ Tb.ents ls ((i : Int) + 1) (rs.getD i []))
        rw [Tb.getD_row hrow]
        exact tqd.put eL3
    · obtain ⟨y2, qs, rfl, eL, tq, sm⟩ := h
      rw [List.length_map, tu.length] at tq
      refine ⟨.ref L, rfl, L, qs, _, rfl, SqL.of eL, tq, Tb.all_bd R _ (Nat.le_refl _), fun ps' rs' M tu' pm pw nM => ?_⟩
      exact q M ps' rs' _ (sm.trans (same_upd nM)) (Same.free sm nM) upd_same (tu'.new nM) pm pw
end

/-! ### drawn loops and rows -/
theorem iteB {b : Bool} {A B : Prop} (h1 : b = true → A) (h2 : b = false → B) : if b = true then A else B := by
  cases b with
  | true => exact iteT (h1 rfl)
  | false => exact iteF (h2 rfl)
theorem good_set {ns : List Int} {j : Nat} {x : Int} (g : Rch.Good ns) (h1 : 1 ≤ x) (h2 : x ≤ 40) : Rch.Good (ns.set j x) := ⟨by rw [List.length_set]; exact g.1, by rw [List.length_set]; exact g.2.1, fun n hn => by
  rcases List.mem_or_eq_of_mem_set hn with hn | hn
  · exact g.2.2 n hn
  · rw [hn]
    exact ⟨h1, h2⟩⟩
theorem first_of {ls : List Int} {x : Int} (h : x ∈ ls) : ∃ j : Nat, ls[j]? = some x ∧ ∀ m, m < j → ls[m]? ≠ some x := by
  induction ls with
  | nil => exact absurd h (by simp)
  | cons y r ih =>
    by_cases e : y = x
    · exact ⟨0, by rw [e]; rfl, fun m hm => absurd hm (Nat.not_lt_zero _)⟩
    · have hr : x ∈ r := by
        rcases List.mem_cons.mp h with z | z
        · exact absurd z.symm e
        · exact z
      obtain ⟨j, h1, h2⟩ := ih hr
      refine ⟨j + 1, by rw [List.getElem?_cons_succ]; exact h1, fun m hm => ?_⟩
      cases m with
      | zero =>
        intro z
        exact e (Option.some.inj z)
      | succ m =>
        rw [List.getElem?_cons_succ]
        exact h2 m (by omega)
section
variable {P : Program} {w : World} {K : PySem.W.Frag} {mg : Str → Option Value} {base : Heap}
def spLoops (K : PySem.W.Frag) : Sp := fun vs H Q _ => ∃ (t s : Addr) (m lg : Int), vs = [.ref t, .int m, .int lg] ∧ (1 ≤ m ∧ m ≤ 8) ∧ (1 ≤ lg ∧ lg ≤ 40) ∧ Tape H t s ∧
  ∀ a (ls : List Int) H', Rch.Good ls → (ls.length : Int) ≤ m → (1 : Int) ∈ ls → a ≠ t → H a = none → Moved t H H' → Tape H' t s → Frz H' a (ls.map V.int) → Q (.ref a) H'
theorem ok__law_loops (T : Tx K mg) : FnOk P w K mg base CX0 2 T.a__law_loops T.d__law_loops ["tape", "most", "longest"] (spLoops K) := by
  refine T.F__law_loops.ok sc__law_loops (fun vs H Q E h => ?_) (fun cdv A outer s H vs Q E hr h => ?_)
  · obtain ⟨t, sc, m, lg, rfl, _⟩ := h
    rfl
  · obtain ⟨t, sc, m, lg, rfl, hm, hlg, tp, q⟩ := h
    refine ⟨_, ((pss_cons (ps_set (i := 3) sc__law_loops.nd rfl (.inl rfl) (pe_op op_add pe_int (pe_call (ok__law_pick T) (hr.mono (by decide)) (by rfl) T.g__law_pick T.F__law_pick.kp T.b__law_pick .nil pass0 (pa_cons (pv 0) (pa_cons (pv 1) pa_nil)))))
  (pss_cons (ps_setLc (i := 4) (own := [("k", 5)]) (g := (gName 5)) (tt := tYes) rfl sc__law_loops.nd rfl rfl (sw_true rfl rfl rfl (by decide +kernel)) (pi_range1 (by rfl) T.m_range (pa_cons (pv 3) pa_nil)) (blkOk_by (own := [("k", 5)]) (N := ["tape", "most", "longest", "many", "found", "k"]) (sc := defScope s__law_loops) (by decide +kernel)) (fun _ _ _ _ _ => pg_name (i := 5) sc__law_loops.nd rfl (.inl rfl)) (fun _ _ _ _ _ => pts_nil) (fun _ _ _ _ _ => (pe_op op_add pe_int (pe_call (ok__law_pick T) (hr.mono (by decide)) (by rfl) T.g__law_pick T.F__law_pick.kp T.b__law_pick .nil pass0 (pa_cons (pv 0) (pa_cons (pv 2) pa_nil))))))
  (pss_cons (ps_asg pe_int (pg_sub (pv 4) (pe_call (ok__law_pick T) (hr.mono (by decide)) (by rfl) T.g__law_pick T.F__law_pick.kp T.b__law_pick .nil pass0 (pa_cons (pv 0) (pa_cons (pv 3) pa_nil))) set_list))
  (pss_one (ps_ret (pe_callTy call_tupleF (by rfl) T.m_tuple (by decide +kernel) (pa_cons (pv 4) pa_nil)))))))), ?_⟩
    refine ⟨.ref t, rfl, .int m, rfl, t, sc, m, rfl, ⟨by omega, by omega⟩, tp, fun d H1 hd0 hd1 mv1 tp1 => ?_⟩
    refine ⟨1, d, rfl, rfl, ?_⟩
    refine ⟨.int _, rfl, _, rfl, by show -(2 ^ 62) ≤ 1 + d; omega, by show 1 + d < 2 ^ 62; omega, fun D hD => lc_range (lo := 0) (n := (1 + d).toNat)
      (fun i H' => ∃ ls : List Int, H' D = some (.lst (ls.map V.int)) ∧ ls.length = i ∧ (∀ l ∈ ls, 1 ≤ l ∧ l ≤ 40) ∧ (∀ b o, b ≠ t → b ≠ D → H b = some o → H' b = some o) ∧ Tape H' t sc)
      ⟨[], upd_same, rfl, fun _ h => by simp at h, fun b o n1 n2 e => by rw [upd_ne n2]; exact mv1 b o n1 e, tp1.keep (same_upd hD)⟩ (fun i H' hi h => ?_) (fun H' h => ?_)⟩
    · obtain ⟨ls, eD, el, hl, kp, tp'⟩ := h
      have hDt : D ≠ t := tp1.ne hD
      refine ⟨rfl, ?_⟩
      refine ⟨.ref t, rfl, .int lg, rfl, t, sc, lg, rfl, ⟨by omega, by omega⟩, tp', fun x H2 hx0 hx1 mv2 tp2 => ?_⟩
      have eD2 := mv2 D _ hDt eD
      refine ⟨1, x, rfl, rfl, _, eD2, by rw [List.length_map]; exact small1000 (by omega), ls ++ [1 + x], by rw [upd_same, List.map_append]; rfl, by rw [List.length_append, el]; rfl, fun l hm' => ?_, fun b o n1 n2 e => ?_, tp2.but hDt (tp1.ne2 hD)⟩
      · rcases List.mem_append.mp hm' with hm' | hm'
        · exact hl l hm'
        · rw [List.mem_singleton.mp hm']
          exact ⟨by omega, by omega⟩
      · rw [upd_ne n2]
        exact mv2 b o n1 (kp b o n1 n2 e)
    · obtain ⟨ls, eD, el, hl, kp, tp'⟩ := h
      have hDt : D ≠ t := tp1.ne hD
      have hDs : D ≠ sc := tp1.ne2 hD
      have g : Rch.Good ls := ⟨by omega, by omega, hl⟩
      refine ⟨.ref D, rfl, .ref t, rfl, .int _, rfl, t, sc, 1 + d, rfl, ⟨by omega, by omega⟩, tp', fun j H3 hj0 hj1 mv3 tp3 => ?_⟩
      have eD3 := mv3 D _ hDt eD
      refine ⟨D, _, j, j.toNat, rfl, rfl, eD3, by rw [List.length_map]; exact ixN_nat hj0 (by omega), ?_⟩
      refine ⟨.ref D, rfl, D, _, rfl, SqL.of upd_same, fun p H5 np s5 fz ot => ?_⟩
      have tp4 := tp3.but (o := .lst ((ls.map V.int).set j.toNat (V.int 1))) hDt hDs
      have hpt : p ≠ t := tp4.ne np
      have hpD : p ≠ D := fun e => by
        rw [e, upd_same] at np
        cases np
      have np3 : H3 p = none := by
        rw [upd_ne hpD] at np
        exact np
      have hHp : H p = none := by
        cases z : H p with
        | none => rfl
        | some o =>
          rw [mv3 p o hpt (kp p o hpt hpD z)] at np3
          cases np3
      refine q p (ls.set j.toNat 1) H5 (good_set g (by decide) (by decide)) (by rw [List.length_set]; omega) (List.mem_set (by omega) _) hpt hHp (fun b o n1 e => ?_) (tp4.keep s5) (by rw [List.map_set]; exact fz)
      have nD : b ≠ D := ne_of_none (mv1 b o n1 e) hD
      refine s5 _ _ ?_
      rw [upd_ne nD]
      exact mv3 b o n1 (kp b o n1 nD e)
def spRow (K : PySem.W.Frag) : Sp := fun vs H Q _ => ∃ (t s a : Addr) (ls : List Int) (wt : Int), vs = [.ref t, .ref a, .int wt] ∧ Tape H t s ∧ Frz H a (ls.map V.int) ∧ Rch.Good ls ∧ (1 : Int) ∈ ls ∧ 0 ≤ wt ∧ wt ≤ 60 ∧
  ∀ r (row : List Int) H', Tb.InR ls row → Tb.rsum ls row = wt → r ≠ t → H r = none → Moved t H H' → Tape H' t s → H' r = some (.tup (row.map V.int)) → Q (.ref r) H'
theorem ok__law_row (T : Tx K mg) : FnOk P w K mg base CX0 2 T.a__law_row T.d__law_row ["tape", "loops", "wait"] (spRow K) := by
  refine T.F__law_row.ok sc__law_row (fun vs H Q E h => ?_) (fun cdv A outer s H vs Q E hr h => ?_)
  · obtain ⟨t, sc, a, ls, wt, rfl, _⟩ := h
    rfl
  · obtain ⟨t, sc, a, ls, wt, rfl, tp, ea, g, h1s, hw0, hw60, q⟩ := h
    have g1 := g.1
    have g2 := g.2.1
    have hat : a ≠ t := ea.tape tp
    refine ⟨_, ((pss_cons (ps_set (i := 3) sc__law_row.nd rfl (.inr rfl) (pe_lst pa_nil))
  (pss_cons (ps_set (i := 4) sc__law_row.nd rfl (.inr rfl) (pv 2))
  (pss_cons (ps_set (i := 5) sc__law_row.nd rfl (.inr rfl) (pe_cmpR op_eq (pe_call (ok__law_pick T) (hr.mono (by decide)) (by rfl) T.g__law_pick T.F__law_pick.kp T.b__law_pick .nil pass0 (pa_cons (pv 0) (pa_cons pe_int pa_nil))) pe_int (nomark _)))
  (Evl.pss_cut (ps_for PassesOwn.never rfl (pi_range1 (by rfl) T.m_range (pa_cons pe_int pa_nil)) (pg_name (i := 6) sc__law_row.nd rfl (.inl rfl))
   (pss_cons (ps_setLc (i := 7) (own := [("k", 8)]) (g := (gName 8)) rfl sc__law_row.nd rfl rfl (sw_true rfl rfl rfl (by decide +kernel)) (pi_range1 (by rfl) T.m_range (pa_cons (pe_callB call_len_seq (by rfl) T.m_len PySem.boot_len (pa_cons (pv 1) pa_nil)) pa_nil)) (blkOk_by (own := [("k", 8)]) (N := ["tape", "loops", "wait", "row", "left", "again", "turn", "fitting", "k"]) (sc := defScope s__law_row) (by decide +kernel)) (fun _ _ _ _ _ => pg_name (i := 8) sc__law_row.nd rfl (.inl rfl)) (fun _ _ _ _ _ => (pts_one (PW.pt (pw_and (pt_cmpR op_le (pe_ix (ixTK (K := K) (by rfl)) (pv 1) (pv 8) (fun _ _ => rfl)) (pv 4) (nomark _)) (pw_and1 (PW.pt (pw_or (pt_val (pv 5)) (pw_or1 (pt_cmpR (notInK (K := K) (by rfl)) (pv 8) (pv 3) (by rfl)))))))))) (fun _ _ _ _ _ => (pv 8)))
  (pss_cons (ps_if (PW.pt (pw_or (pt_cmpR op_eq (pe_callB call_len_seq (by rfl) T.m_len PySem.boot_len (pa_cons (pv 7) pa_nil)) pe_int (nomark _)) (pw_or1 (pt_cmpR op_eq (pv 4) pe_int (nomark _))))) (pss_one ps_break) pss_nil)
  (pss_cons (ps_expr (pe_bm PySem.F.plainAttrs_list PySem.F.slot_list_append PySem.F.type_list_append mt_append (pv 3) (pa_cons (pe_ix ix_list (pv 7) (pe_call (ok__law_pick T) (hr.mono (by decide)) (by rfl) T.g__law_pick T.F__law_pick.kp T.b__law_pick .nil pass0 (pa_cons (pv 0) (pa_cons (pe_callB call_len_seq (by rfl) T.m_len PySem.boot_len (pa_cons (pv 7) pa_nil)) pa_nil))) (fun _ _ => rfl)) pa_nil)))
  (pss_one (ps_set (i := 4) sc__law_row.nd rfl (.inr rfl) (pe_op op_sub (pv 4) (pe_ix ix_tup (pv 1) (pe_ix ix_list (pv 3) (pe_un un_neg pe_int) (fun _ _ => rfl)) (fun _ _ => rfl)))))))))
  (pss_cons (ps_for PassesOwn.never rfl (pi_range1 (by rfl) T.m_range (pa_cons (pv 4) pa_nil)) (pg_name (i := 6) sc__law_row.nd rfl (.inl rfl))
   (pss_one (ps_expr (pe_bm PySem.F.plainAttrs_list PySem.F.slot_list_append PySem.F.type_list_append mt_append (pv 3) (pa_cons (pe_tm PySem.F.plainAttrs_tuple PySem.F.slot_tuple_index PySem.F.type_tuple_index mt_tindex (pv 1) (pa_cons pe_int pa_nil)) pa_nil)))))
  (pss_one (ps_ret (pe_callTy call_tuple_of (by rfl) T.m_tuple (by decide +kernel) (pa_cons (pv 3) pa_nil)))))))))), ?_⟩
    refine ⟨Nat.zero_le _, fun R nR => ?_⟩
    have hRt : R ≠ t := tp.ne nR
    have hRs : R ≠ sc := tp.ne2 nR
    have s1 := same_upd (o := .lst []) nR
    have tp0 := tp.keep s1
    refine ⟨.int wt, rfl, ?_⟩
    refine ⟨.ref t, rfl, t, sc, 12, rfl, ⟨by decide, by decide⟩, tp0, fun ag H1 hg0 hg1 mv1 tp1 => ?_⟩
    refine ⟨rfl, ?_⟩
    have hRa : a ≠ R := ea.ne nR
    refine ⟨fun σ H' => ∃ (y6 y7 y8 : Option V) (row : List Int) (lf : Int) (bb : Bool), σ = [some (.ref t), some (.ref a), some (.int wt), some (.ref R), some (.int lf), some (.bl bb), y6, y7, y8] ∧ H' R = some (.lst (row.map V.int)) ∧ Tb.InR ls row ∧ Tb.rsum ls row + lf = wt ∧ 0 ≤ lf ∧ row.length ≤ 8 ∧ (∀ b o, b ≠ t → b ≠ R → H b = some o → H' b = some o) ∧ Tape H' t sc, ?_, fun σ' H' hm => ?_⟩
    refine ⟨8, rfl, by decide, by decide, for_range (lo := 0) (n := (8 : Int).toNat)
      (fun i σ H' => ∃ (y6 y7 y8 : Option V) (row : List Int) (lf : Int) (bb : Bool), σ = [some (.ref t), some (.ref a), some (.int wt), some (.ref R), some (.int lf), some (.bl bb), y6, y7, y8] ∧ H' R = some (.lst (row.map V.int)) ∧ Tb.InR ls row ∧ Tb.rsum ls row + lf = wt ∧ 0 ≤ lf ∧ row.length ≤ i ∧ (∀ b o, b ≠ t → b ≠ R → H b = some o → H' b = some o) ∧ Tape H' t sc)
      ⟨_, _, _, [], wt, _, rfl, mv1 R _ hRt upd_same, fun k h => by simp at h, by simp [Tb.rsum], hw0, Nat.le_refl _, fun b o n1 n2 e => mv1 b o n1 (s1 _ _ e), tp1⟩ (fun i σ H' hi h => ?_) (fun σ H' h => ?_)⟩
    · obtain ⟨y6, y7, y8, row, lf, bb, rfl, eR, hin, hs, hl0, hlen, kp, tp'⟩ := h
      have ea' := ea.of (kp a · hat hRa)
      -- fitting
      refine ⟨.ref a, rfl, a, _, rfl, .inr ea'.sq, _, rfl, by rw [List.length_map]; omega, by rw [List.length_map]; omega, fun D hD => lc_range (lo := 0) (n := ((((ls.map V.int).length : Nat) : Int)).toNat)
        (fun j H2 => ∃ ks : List Int, Same H' H2 ∧ H2 D = some (.lst (ks.map V.int)) ∧ ks.length ≤ j ∧ ∀ k ∈ ks, 0 ≤ k ∧ k < (ls.length : Int) ∧ Tb.len1 ls k ≤ lf)
        ⟨[], same_upd hD, upd_same, Nat.le_refl _, fun _ h => by simp at h⟩ (fun j H2 hj h => ?_) (fun H2 h => ?_)⟩
      · obtain ⟨ks, s2, eD, zk, hk⟩ := h
        rw [List.length_map] at hj
        rw [Int.zero_add]
        have hj' : (j : Int) < (ls.length : Int) := by omega
        have keepIt : Tb.len1 ls (j : Int) ≤ lf → ∃ acc, H2 D = some (.lst acc) ∧ acc.length < sizeLine ∧ ∃ ks : List Int, Same H' (upd H2 D (.lst (acc ++ [V.int (j : Int)]))) ∧ (upd H2 D (.lst (acc ++ [V.int (j : Int)]))) D = some (.lst (ks.map V.int)) ∧ ks.length ≤ j + 1 ∧ ∀ k ∈ ks, 0 ≤ k ∧ k < (ls.length : Int) ∧ Tb.len1 ls k ≤ lf := fun hle => by
          refine ⟨_, eD, by rw [List.length_map]; exact small1000 (by omega), ks ++ [(j : Int)], same_put s2 hD, by rw [upd_same, List.map_append]; rfl, by rw [List.length_append]; show ks.length + 1 ≤ j + 1; omega, fun k hm => ?_⟩
          rcases List.mem_append.mp hm with hm | hm
          · exact hk k hm
          · rw [List.mem_singleton.mp hm]
            exact ⟨by omega, hj', hle⟩
        have skip : ∃ ks : List Int, Same H' H2 ∧ H2 D = some (.lst (ks.map V.int)) ∧ ks.length ≤ j + 1 ∧ ∀ k ∈ ks, 0 ≤ k ∧ k < (ls.length : Int) ∧ Tb.len1 ls k ≤ lf := ⟨ks, s2, eD, by omega, hk⟩
        refine ⟨rfl, ?_⟩
        refine ⟨.ref a, rfl, .int (j : Int), rfl, a, _, _, .int (Tb.len1 ls (j : Int)), rfl, rfl, (ea'.same s2).sq, atI_of (by omega) (by rw [List.getElem?_map, Tb.len_at (by omega) hj']; rfl), .int lf, rfl, _, _, rfl, rfl, _, rfl, ite2 (fun c1 => ?_) (fun c1 => ?_)⟩
        · have hle := of_decide_eq_true c1
          refine ⟨.bl bb, rfl, bb, rfl, iteB (fun c2 => ?_) (fun c2 => ?_)⟩
          · exact iteT ⟨_, rfl, keepIt hle⟩
          · refine ⟨.int (j : Int), rfl, .ref R, rfl, R, _, rfl, .inl (SqL.of (s2 _ _ eR)), rfl, flat_ints _, _, rfl, ?_⟩
            refine iteB (fun c3 => ?_) (fun c3 => ?_)
            · exact ⟨_, rfl, keepIt hle⟩
            · exact skip
        · exact iteF skip
      · obtain ⟨ks, s2, eD, zk, hk⟩ := h
        have hDt : D ≠ t := tp'.ne hD
        have hDR : D ≠ R := fun e => by
          rw [e, eR] at hD
          cases hD
        have tp2 := tp'.keep s2
        have eR2 := s2 _ _ eR
        have kp2 : ∀ b o, b ≠ t → b ≠ R → H b = some o → H2 b = some o := fun b o n1 n2 e => s2 _ _ (kp b o n1 n2 e)
        have hi8 : i < 8 := hi
        have stop : ∀ y6 y7 y8, ∃ (z6 z7 z8 : Option V) (row : List Int) (lf' : Int) (bb' : Bool), [some (V.ref t), some (.ref a), some (.int wt), some (.ref R), some (.int lf), some (.bl bb), y6, y7, y8] = [some (.ref t), some (.ref a), some (.int wt), some (.ref R), some (.int lf'), some (.bl bb'), z6, z7, z8] ∧ H2 R = some (.lst (row.map V.int)) ∧ Tb.InR ls row ∧ Tb.rsum ls row + lf' = wt ∧ 0 ≤ lf' ∧ row.length ≤ 8 ∧ (∀ b o, b ≠ t → b ≠ R → H b = some o → H2 b = some o) ∧ Tape H2 t sc := fun y6 y7 y8 => ⟨y6, y7, y8, row, lf, bb, rfl, eR2, hin, hs, hl0, by omega, kp2, tp2⟩
        refine ⟨.ref D, rfl, D, _, rfl, .inl (SqL.of eD), rfl, _, rfl, ite2 (fun c1 => ?_) (fun c1 => ?_)⟩
        · exact stop _ _ _
        · have zk1 : 1 ≤ ks.length := by
            cases ks with
            | nil => exact absurd rfl (fun z => c1 (decide_eq_true z))
            | cons x r =>
              rw [List.length_cons]
              omega
          by_cases c2 : V.int lf = V.int 0
          · exact ⟨.int lf, rfl, rfl, true, congrArg V.bl (decide_eq_true c2), iteT (stop _ _ _)⟩
          refine ⟨.int lf, rfl, rfl, false, congrArg V.bl (decide_eq_false c2), iteF ?_⟩
          -- row.append(fitting[pick])
          refine ⟨.ref R, rfl, .inl ⟨rfl, _, SqL.of eR2⟩, .ref D, rfl, .ref t, rfl, .ref D, rfl, D, _, rfl, .inl (SqL.of eD), t, sc, _, rfl, ⟨?_, ?_⟩, tp2, fun j H3 hj0 hj1 mv3 tp3 => ?_⟩
          · rw [List.length_map]
            omega
          · have : ks.length ≤ ls.length := by rw [List.length_map] at zk; omega
            rw [List.length_map]
            omega
          · rw [List.length_map] at hj1
            have eD3 := mv3 D _ hDt eD
            have eR3 := mv3 R _ hRt eR2
            have ea3 := (ea'.same s2).moved hat mv3
            have hjk : j.toNat < ks.length := by omega
            obtain ⟨k, hk'⟩ : ∃ k, k = ks[j.toNat] := ⟨_, rfl⟩
            have gk : (ks.map V.int)[j.toNat]? = some (.int k) := by
              rw [List.getElem?_map, List.getElem?_eq_getElem hjk, hk']
              rfl
            obtain ⟨b0, b1, b2⟩ := hk k (by rw [hk']; exact List.getElem_mem hjk)
            have bp := Tb.len_pos g b0 b1
            refine ⟨D, _, j, _, rfl, rfl, SqL.of eD3, atI_of hj0 gk, R, _, _, rfl, rfl, eR3, by rw [List.length_map]; exact small1000 (by omega), ?_⟩
            have ea4 : Frz (upd H3 R (.lst (row.map V.int ++ [V.int k]))) a (ls.map V.int) := ea3.of fun o e => by
              rw [upd_ne hRa]
              exact e
            -- left = left - loops[row[-1]]
            refine ⟨.int lf, rfl, .ref a, rfl, .ref R, rfl, 1, rfl, R, _, -1, _, rfl, rfl, SqL.of upd_same, atI_last _ _, a, _, k, .int (Tb.len1 ls k), rfl, rfl, ea4.sq, atI_of b0 (by rw [List.getElem?_map, Tb.len_at b0 b1]; rfl), _, _, rfl, rfl, ?_⟩
            refine ⟨_, _, _, row ++ [k], _, _, rfl, by rw [upd_same, List.map_append]; rfl, fun x hx => ?_, ?_, ?_, by rw [List.length_append]; show row.length + 1 ≤ i + 1; omega, fun b o n1 n2 e => ?_, tp3.but hRt hRs⟩
            · rcases List.mem_append.mp hx with hx | hx
              · exact hin x hx
              · rw [List.mem_singleton.mp hx]
                exact ⟨b0, b1⟩
            · rw [Tb.rsum_snoc]
              show Tb.rsum ls row + Tb.len1 ls k + (lf - Tb.len1 ls k) = wt
              omega
            · show 0 ≤ lf - Tb.len1 ls k
              omega
            · rw [upd_ne n2]
              exact mv3 b o n1 (kp2 b o n1 n2 e)
    · exact h
    · obtain ⟨y6, y7, y8, row, lf, bb, rfl, eR, hin, hs, hl0, hlen, kp, tp'⟩ := hm
      obtain ⟨jx, hjx, hjn⟩ := first_of h1s
      have hlf : lf ≤ 60 := by
        have := Tb.rsum_len g hin
        omega
      refine ⟨.int lf, rfl, lf, rfl, ?_, ?_, for_range (lo := 0) (n := lf.toNat)
        (fun i σ H' => ∃ (y6 : Option V) (row : List Int), σ = [some (.ref t), some (.ref a), some (.int wt), some (.ref R), some (.int lf), some (.bl bb), y6, y7, y8] ∧ H' R = some (.lst (row.map V.int)) ∧ Tb.InR ls row ∧ Tb.rsum ls row + (lf - (i : Int)) = wt ∧ row.length ≤ 8 + i ∧ (∀ b o, b ≠ t → b ≠ R → H b = some o → H' b = some o) ∧ Tape H' t sc)
        ⟨_, row, rfl, eR, hin, by omega, hlen, kp, tp'⟩ (fun i σ H2 hi h => ?_) (fun σ H2 h => ?_)⟩
      · have := Tb.rsum_len g hin
        omega
      · have := Tb.rsum_len g hin
        omega
      · obtain ⟨y6, row, rfl, eR, hin, hs, hlen, kp, tp'⟩ := h
        have ea' := ea.of (kp a · hat hRa)
        have hjl : jx < ls.length := (List.getElem?_eq_some_iff.mp hjx).1
        have l1 : Tb.len1 ls (jx : Int) = 1 := by
          unfold Tb.len1
          rw [Int.toNat_natCast, List.getD_eq_getElem?_getD, hjx]
          rfl
        refine ⟨.ref R, rfl, .inl ⟨rfl, _, SqL.of eR⟩,   .ref a, rfl, ⟨a, _, rfl, ea'⟩, a, ls, 1, jx, rfl, rfl, ea'.sq, hjx, hjn, R, _, _, rfl, rfl, eR, by rw [List.length_map]; exact small1000 (by omega), ?_⟩
        refine ⟨_, row ++ [(jx : Int)], rfl, by rw [upd_same, List.map_append]; rfl, fun x hx => ?_, ?_, by rw [List.length_append]; show row.length + 1 ≤ 8 + (i + 1); omega, fun b o n1 n2 e => ?_, tp'.but hRt hRs⟩
        · rcases List.mem_append.mp hx with hx | hx
          · exact hin x hx
          · rw [List.mem_singleton.mp hx]
            exact ⟨by omega, by omega⟩
        · rw [Tb.rsum_snoc, l1]
          omega
        · rw [upd_ne n2]
          exact kp b o n1 n2 e
      · obtain ⟨y6, row, rfl, eR, hin, hs, hlen, kp, tp'⟩ := h
        refine ⟨.ref R, rfl, R, _, rfl, .inl ⟨SqL.of eR, fun p np => ?_⟩⟩
        have hpt : p ≠ t := tp'.ne np
        have hpR : p ≠ R := fun e => by
          rw [e, eR] at np
          cases np
        have hHp : H p = none := by
          cases z : H p with
          | none => rfl
          | some o =>
            rw [kp p o hpt hpR z] at np
            cases np
        refine q p row _ hin (by omega) hpt hHp (fun b o n1 e => ?_) (tp'.keep (same_upd np)) upd_same
        rw [upd_ne (ne_of_none e hHp)]
        exact kp b o n1 (ne_of_none e nR) e
def spRows (K : PySem.W.Frag) : Sp := fun vs H Q _ => ∃ (t s a : Addr) (ls : List Int) (bd : Int), vs = [.ref t, .ref a, .int bd] ∧ Tape H t s ∧ Frz H a (ls.map V.int) ∧ Rch.Good ls ∧ (1 : Int) ∈ ls ∧ 1 ≤ bd ∧ bd ≤ 60 ∧
  ∀ r ps (rs : List (List Int)) H', Tb.Right ls rs → (rs.length : Int) = bd → r ≠ t → H r = none → Moved t H H' → Tape H' t s → H' r = some (.tup (ps.map V.ref)) → Tups fI H' ps rs → Q (.ref r) H'
theorem ok__law_rows (T : Tx K mg) : FnOk P w K mg base CX0 3 T.a__law_rows T.d__law_rows ["tape", "loops", "bound"] (spRows K) := by
  refine T.F__law_rows.ok sc__law_rows (fun vs H Q E h => ?_) (fun cdv A outer s H vs Q E hr h => ?_)
  · obtain ⟨t, sc, a, ls, bd, rfl, _⟩ := h
    rfl
  · obtain ⟨t, sc, a, ls, bd, rfl, tp, ea, g, h1s, hb1, hb60, q⟩ := h
    have hat : a ≠ t := ea.tape tp
    refine ⟨_, ((pss_one (ps_ret (pe_callTy call_tuple_of (by rfl) T.m_tuple (by decide +kernel) (pa_cons (pe_lc (own := [("wait", 3)]) (g := (gName 3)) (tt := tYes) rfl sc__law_rows.nd (pi_range2 (by rfl) T.m_range (pa_cons pe_int (pa_cons (pe_op op_add (pv 2) pe_int) pa_nil))) (blkOk_by (own := [("wait", 3)]) (N := ["tape", "loops", "bound", "wait"]) (sc := defScope s__law_rows) (by decide +kernel)) (fun _ _ _ _ _ => pg_name (i := 3) sc__law_rows.nd rfl (.inl rfl)) (fun _ _ _ _ _ => pts_nil) (fun _ _ _ _ _ => (pe_call (ok__law_row T) (hr.mono (by decide)) (by rfl) T.g__law_row T.F__law_row.kp T.b__law_row .nil pass0 (pa_cons (pv 0) (pa_cons (pv 1) (pa_cons (pv 3) pa_nil)))))) pa_nil))))), ?_⟩
    refine ⟨.int bd, rfl, _, _, rfl, rfl, 1, bd + 1, rfl, ⟨by omega, by omega, by omega, by omega⟩, fun D hD => lc_range (lo := 1) (n := (bd + 1 - 1).toNat)
      (fun i H' => ∃ (ps : List Addr) (rs : List (List Int)), H' D = some (.lst (ps.map V.ref)) ∧ Tups fI H' ps rs ∧ rs.length = i ∧ (∀ (j : Nat) (r : List Int), rs[j]? = some r → Tb.InR ls r ∧ Tb.rsum ls r = (j : Int) + 1) ∧ (∀ b o, b ≠ t → b ≠ D → H b = some o → H' b = some o) ∧ Tape H' t sc)
      ⟨[], [], upd_same, .nil, rfl, fun j r h => by simp at h, fun b o n1 n2 e => by rw [upd_ne n2]; exact e, tp.keep (same_upd hD)⟩ (fun i H' hi h => ?_) (fun H' h => ?_)⟩
    · obtain ⟨ps, rs, eD, tu, el, hrs, kp, tp'⟩ := h
      have hDt : D ≠ t := tp.ne hD
      have hDs : D ≠ sc := tp.ne2 hD
      have hDa : a ≠ D := ea.ne hD
      refine ⟨rfl, ?_⟩
      refine ⟨.ref t, rfl, .ref a, rfl, _, rfl, t, sc, a, ls, 1 + (i : Int), rfl, tp', ea.of (kp a · hat hDa), g, h1s, by omega, by omega, fun r row H2 hin hs hrt nr mv2 tp2 er => ?_⟩
      have eD2 := mv2 D _ hDt eD
      refine ⟨_, eD2, by rw [List.length_map, tu.length]; exact small1000 (by omega), ps ++ [r], rs ++ [row], by rw [upd_same, List.map_append]; rfl, ?_, by rw [List.length_append, el]; rfl, fun j x hx => ?_, fun b o n1 n2 e => ?_, tp2.but hDt hDs⟩
      · exact (((tu.keep fun b ys e => mv2 b _ (fun z => by
          obtain ⟨_, _, _, _, _, _, e2, _⟩ := tp'
          rw [z, e2] at e
          cases e) e)).snoc er).put eD2
      · rcases Nat.lt_or_ge j rs.length with hj | hj
        · rw [List.getElem?_append_left hj] at hx
          exact hrs j x hx
        · rw [List.getElem?_append_right hj] at hx
          have hj0 : j - rs.length = 0 := by
            have := (List.getElem?_eq_some_iff.mp hx).1
            simp at this
            omega
          rw [hj0] at hx
          simp at hx
          subst hx
          exact ⟨hin, by omega⟩
      · rw [upd_ne n2]
        exact mv2 b o n1 (kp b o n1 n2 e)
    · obtain ⟨ps, rs, eD, tu, el, hrs, kp, tp'⟩ := h
      have el' : (rs.length : Int) = bd := by omega
      refine ⟨D, _, rfl, .inl ⟨SqL.of eD, fun p np => ?_⟩⟩
      have hpt : p ≠ t := tp'.ne np
      have hpD : p ≠ D := fun e => by
        rw [e, eD] at np
        cases np
      have hHp : H p = none := by
        cases z : H p with
        | none => rfl
        | some o =>
          rw [kp p o hpt hpD z] at np
          cases np
      refine q p ps rs _ ⟨g, by omega, by omega, fun i r hr' => ?_⟩ el' hpt hHp (fun b o n1 e => ?_) (tp'.keep (same_upd np)) upd_same (tu.new np)
      · obtain ⟨x, y⟩ := hrs i r hr'
        have := Tb.rsum_len g x
        have := (List.getElem?_eq_some_iff.mp hr').1
        exact ⟨x, by omega, y⟩
      · rw [upd_ne (ne_of_none e hHp)]
        exact kp b o n1 (ne_of_none e hD) e
end

/-! ### a part of a tuple, as one thing -/
def rSlU (K : PySem.W.Frag) : V → Option Int → Option Int → Hp → VK → Prop := fun x lo hi H Q => ∃ a xs, x = .ref a ∧ SqT K H a xs ∧ ∀ p H', Same H H' → SqT K H' p (cutV xs lo hi) → Q (.ref p) H'
theorem sl_tupU {X : Cx} : SlR X (rSlU X.K) := by
  intro pins s σ H x v vl vu lo hi sl Q I rx hs pl pu h
  obtain ⟨a, xs, rfl, hx, q⟩ := h
  refine sl_tupA pins s σ H _ v vl vu lo hi sl Q I rx hs pl pu ⟨a, xs, rfl, hx, fun hw => ?_, fun hw p np => q p _ (same_upd np) (SqT.of upd_same)⟩
  refine q a H (fun _ _ e => e) ?_
  have e : cutV xs lo hi = xs := by
    unfold cutV
    rw [hw.1, hw.2, List.drop_zero, Nat.sub_zero]
    exact List.take_length
  rw [e]
  exact hx
theorem cut_fromL (xs : List V) {n : Nat} (h : n ≤ xs.length) : cutV xs (some (n : Int)) none = xs.drop n := by
  unfold cutV
  rw [HT.sIx_nat, HT.sIx_none, Nat.min_eq_left h]
  exact List.take_of_length_le (by rw [List.length_drop]; exact Nat.le_refl _)
theorem cut_toL (xs : List V) {n : Nat} (h : n ≤ xs.length) : cutV xs none (some (n : Int)) = xs.take n := by
  unfold cutV
  rw [HT.sIx_nat, HT.sIx_none, Nat.min_eq_left h, Nat.sub_zero, List.drop_zero]

/-! ### t + u as one thing -/
def rCatU (K : PySem.W.Frag) : R2 := fun x y H Q => ∃ a b xs ys, x = .ref a ∧ y = .ref b ∧ SqT K H a xs ∧ SqT K H b ys ∧ xs.length + ys.length ≤ sizeLine ∧ ∀ p H', Same H H' → SqT K H' p (xs ++ ys) → Q (.ref p) H'
theorem catU {X : Cx} : OpR X (binaryOp .Add) (rCatU X.K) := by
  intro pins s σ H x y v u Q I rx ry h
  obtain ⟨a, b, xs, ys, rfl, rfl, ha, hb, hz, q⟩ := h
  refine op_catA pins s σ H _ _ v u Q I rx ry ⟨a, b, xs, ys, rfl, rfl, ha, hb, hz, fun e => ?_, fun _ e => ?_, fun _ _ p np => ?_⟩
  · subst e
    exact q b H (fun _ _ h => h) hb
  · subst e
    refine q a H (fun _ _ h => h) ?_
    rw [List.append_nil]
    exact ha
  · exact q p _ (same_upd np) (SqT.of upd_same)

/-! ### a row set anew -/
theorem Tups.set {α : Type} {f : α → List V} {H : Hp} {ps : List Addr} {xs : List α} (h : Tups f H ps xs) : ∀ (i : Nat) {p : Addr} {x : α}, H p = some (.tup (f x)) → Tups f H (ps.set i p) (xs.set i x) := by
  induction h with
  | nil => exact fun i _ _ _ => .nil
  | cons a b ih =>
    intro i p x e
    cases i with
    | zero => exact .cons e b
    | succ i => exact .cons a (ih i e)
theorem right_set {ls : List Int} {rs : List (List Int)} (R : Tb.Right ls rs) {i : Nat} {row : List Int} (hi : i < rs.length) (h1 : Tb.InR ls row) (h2 : row.length ≤ 60) (h3 : Tb.rsum ls row = (i : Int) + 1) : Tb.Right ls (rs.set i row) := by
  obtain ⟨a, b, c, d⟩ := R
  refine ⟨a, by rw [List.length_set]; exact b, by rw [List.length_set]; exact c, fun j r hj => ?_⟩
  by_cases e : j = i
  · subst e
    rw [List.getElem?_set_self hi] at hj
    obtain rfl := Option.some.inj hj
    exact ⟨h1, h2, h3⟩
  · rw [List.getElem?_set_ne (Ne.symm e)] at hj
    exact d j r hj

/-! ### all but lists stays -/
def Nl (H H' : Hp) : Prop := ∀ b o, (∀ ys, o ≠ HO.lst ys) → H b = some o → H' b = some o
theorem Nl.trans {H H1 H2 : Hp} (a : Nl H H1) (b : Nl H1 H2) : Nl H H2 := fun c o n h => b c o n (a c o n h)
theorem Nl.moved {t s : Addr} {H H' : Hp} (tp : Tape H t s) (m : Moved t H H') : Nl H H' := fun b o n e => m b o (fun z => by
  obtain ⟨_, _, _, _, _, _, h2, _⟩ := tp
  rw [z, h2] at e
  exact n _ (Option.some.inj e).symm) e
theorem Nl.same {H H' : Hp} (m : Same H H') : Nl H H' := fun b o _ e => m b o e
theorem Nl.put {H : Hp} {L : Addr} {ys : List V} {o : HO} (h : H L = some (.lst ys)) : Nl H (upd H L o) := fun b o' n e => by
  rw [upd_ne (fun z => by rw [z, h] at e; exact n _ (Option.some.inj e).symm)]
  exact e
theorem sT_nl {K : PySem.W.Frag} {H H' : Hp} {a : Addr} {xs : List V} (h : SqT K H a xs) (e : Nl H H') : SqT K H' a xs :=
  h.elim (fun h => .inl (h.elim (fun h => .inl (e _ _ (fun _ z => by cases z) h)) fun ⟨o, h⟩ => .inr ⟨o, e _ _ (fun _ z => by cases z) h⟩)) fun h => .inr h
theorem Tups.nl {α : Type} {f : α → List V} {H H' : Hp} {ps : List Addr} {xs : List α} (h : Tups f H ps xs) (e : Nl H H') : Tups f H' ps xs := h.keep fun b ys z => e _ _ (fun _ z => by cases z) z
theorem TabAt.nl {K : PySem.W.Frag} {C : Addr} {H H' : Hp} {p : Addr} {ls : List Int} {rs : List (List Int)} (h : TabAt K C H p ls rs) (e : Nl H H') : TabAt K C H' p ls rs := by
  obtain ⟨dx, a, b, ps, h1, h2, h3, h4⟩ := h.ob
  exact ⟨dx, a, b, ps, e _ _ (fun _ z => by cases z) h1, sT_nl h2 e, sT_nl h3 e, h4.nl e⟩
theorem Frz.nl {H H' : Hp} {p : Addr} {xs : List V} (h : Frz H p xs) (e : Nl H H') : Frz H' p xs := let ⟨o, a, b⟩ := h; ⟨o, e _ _ (fun _ z => by cases z) a, b⟩

/-! ### tables are compared -/
def dTT (rs : List (List Int)) : PyData := .tuple (rs.map My.dI)
theorem eqvTA : ∀ a b : List (List Int), PyData.eqvAll (a.map My.dI) (b.map My.dI) = decide (a = b)
  | [], [] => by simp [PyData.eqvAll]
  | [], _ :: _ => by simp [PyData.eqvAll]
  | _ :: _, [] => by simp [PyData.eqvAll]
  | x :: a, y :: b => by
    rw [List.map_cons, List.map_cons, PyData.eqvAll, eqvTA a b, eqvI]
    by_cases h : x = y <;> by_cases k : a = b <;> simp [h, k]
theorem eqvTT (a b : List (List Int)) : PyData.eqv (dTT a) (dTT b) = decide (a = b) := by
  unfold dTT
  rw [PyData.eqv]
  exact eqvTA a b
theorem Shp.dTT (rs : List (List Int)) : Shp 3 (dTT rs) := .tuple Shp.dI rs
theorem dp_dTT {K : PySem.W.Frag} {H : Hp} {p : Addr} {ps : List Addr} {rs : List (List Int)} (h : SqT K H p (ps.map V.ref)) (t : Tups fI H ps rs) : Dp K H (.ref p) (dTT rs) := .tup h (dpa_dT t)
section
variable {P : Program} {w : World} {K : PySem.W.Frag} {mg : Str → Option Value} {base : Heap}
def spTEq (K : PySem.W.Frag) (C : Addr) : Sp := fun vs H Q _ => ∃ (p : Addr) (y : V) (ls : List Int) (rs : List (List Int)), vs = [.ref p, y] ∧ TabAt K C H p ls rs ∧
  ((∃ p2 ls2 rs2, y = .ref p2 ∧ TabAt K C H p2 ls2 rs2 ∧ ∀ H', Same H H' → Q (.bl (decide (ls = ls2) && decide (rs = rs2))) H') ∨ (∃ n, TyX K H y (.type n) ∧ RE8.Plain n ∧ ∀ H', Same H H' → Q (.bl false) H'))
theorem ok_Table___eq__ (T : Tx K mg) : FnOk P w K mg base CX0 1 T.a_Table___eq__ T.d_Table___eq__ ["self", "other"] (spTEq K T.c_Table) := by
  refine T.F_Table___eq__.ok sc_Table___eq__ (fun vs H Q E h => ?_) (fun cdv A outer s H vs Q E hr h => ?_)
  · obtain ⟨p, y, ls, rs, rfl, _⟩ := h
    rfl
  · obtain ⟨p, y, ls, rs, rfl, tab, h⟩ := h
    refine ⟨_, ((pss_one (ps_ret (pe_and (pe_callB call_isi (by rfl) T.m_isinstance (by decide +kernel) (pa_cons (pv 1) (pa_cons (pe_glob (v := .ref T.c_Table) rfl T.g_Table rfl) pa_nil))) (pe_and (pe_cmpR (op_eqD hr.units) (pe_fld (pv 0) rfl) (pe_fld (pv 1) rfl) (nomark _)) (pe_one (pe_cmpR (op_eqD hr.units) (pe_fld (pv 0) rfl) (pe_fld (pv 1) rfl) (nomark _)))))))), ?_⟩
    rcases h with ⟨p2, ls2, rs2, rfl, tab2, q⟩ | ⟨n, ty, pl, q⟩
    · obtain ⟨dx, a, b, ps, ep, hA, hB, tu⟩ := tab.ob
      obtain ⟨dx2, a2, b2, ps2, ep2, hA2, hB2, tu2⟩ := tab2.ob
      refine ⟨.ref p2, rfl, .ref p2, .ref T.c_Table, _, _, true, rfl, .own _, T.in_Table.tyOf T.cl_Table ep2, T.in_Table.self, true, rfl, iteT ?_⟩
      refine ⟨.ref p, rfl, p, T.c_Table, dx, _, _, rfl, ep, T.cl_Table, T.n_Table_loops, tf_loops _ _ _, .ref p2, rfl, p2, T.c_Table, dx2, _, _, rfl, ep2, T.cl_Table, T.n_Table_loops, tf_loops _ _ _, My.dI ls, My.dI ls2, dp_dI hA, dp_dI hA2, (Shp.dI _).ok (by decide), (Shp.dI _).ok (by decide), ?_⟩
      rw [eqvI]
      refine ⟨decide (ls = ls2), rfl, ?_⟩
      have q0 := q H fun _ _ e => e
      by_cases c : ls = ls2
      · rw [decide_eq_true c, Bool.true_and] at q0
        rw [decide_eq_true c]
        refine iteT ⟨.ref p, rfl, p, T.c_Table, dx, _, _, rfl, ep, T.cl_Table, T.n_Table_rows, tf_rows _ _ _, .ref p2, rfl, p2, T.c_Table, dx2, _, _, rfl, ep2, T.cl_Table, T.n_Table_rows, tf_rows _ _ _, dTT rs, dTT rs2, dp_dTT hB tu, dp_dTT hB2 tu2, (Shp.dTT _).ok (by decide), (Shp.dTT _).ok (by decide), ?_⟩
        rw [eqvTT]
        exact q0
      · rw [decide_eq_false c, Bool.false_and] at q0
        rw [decide_eq_false c]
        exact iteF q0
    · exact ⟨y, rfl, y, .ref T.c_Table, _, _, false, rfl, .own _, ty, pl.kit T.in_Table, false, rfl, iteF (q H fun _ _ e => e)⟩
end

/-! ### rows with another row -/
theorem rsum_rev (ls r : List Int) : Tb.rsum ls r.reverse = Tb.rsum ls r := by
  unfold Tb.rsum
  rw [List.map_reverse, List.sum_reverse]
section
variable {P : Program} {w : World} {K : PySem.W.Frag} {mg : Str → Option Value} {base : Heap}
def spLOther (K : PySem.W.Frag) : Sp := fun vs H Q _ => ∃ (t s a ra : Addr) (ls : List Int) (ps : List Addr) (rs : List (List Int)), vs = [.ref t, .ref a, .ref ra] ∧ Tape H t s ∧ Frz H a (ls.map V.int) ∧ Rch.Good ls ∧ (1 : Int) ∈ ls ∧ SqT K H ra (ps.map V.ref) ∧ Tups fI H ps rs ∧ Tb.Right ls rs ∧
  ∀ r qs (rs' : List (List Int)) H', Tb.Right ls rs' → Moved t H H' → Tape H' t s → H' r = some (.tup (qs.map V.ref)) → Tups fI H' qs rs' → Q (.ref r) H'
theorem ok__law_other_row (T : Tx K mg) : FnOk P w K mg base CX0 3 T.a__law_other_row T.d__law_other_row ["tape", "loops", "rows"] (spLOther K) := by
  refine T.F__law_other_row.ok sc__law_other_row (fun vs H Q E h => ?_) (fun cdv A outer s H vs Q E hr h => ?_)
  · obtain ⟨t, sc, a, ra, ls, ps, rs, rfl, _⟩ := h
    rfl
  · obtain ⟨t, sc, a, ra, ls, ps, rs, rfl, tp, ea, g, h1s, hra, tu, R, q⟩ := h
    refine ⟨_, ((pss_cons (ps_set (i := 3) sc__law_other_row.nd rfl (.inl rfl) (pe_call (ok__law_pick T) (hr.mono (by decide)) (by rfl) T.g__law_pick T.F__law_pick.kp T.b__law_pick .nil pass0 (pa_cons (pv 0) (pa_cons (pe_callB call_len_seq (by rfl) T.m_len PySem.boot_len (pa_cons (pv 2) pa_nil)) pa_nil))))
  (pss_cons (ps_set (i := 4) sc__law_other_row.nd rfl (.inl rfl) (pe_callTy call_list_of (by rfl) T.m_list (by decide +kernel) (pa_cons (pv 2) pa_nil)))
  (pss_cons (ps_for PassesOwn.never rfl (pi_range1 (by rfl) T.m_range (pa_cons pe_int pa_nil)) (pg_name (i := 5) sc__law_other_row.nd rfl (.inl rfl))
   (pss_cons (ps_set (i := 6) sc__law_other_row.nd rfl (.inl rfl) (pe_call (ok__law_row T) (hr.mono (by decide)) (by rfl) T.g__law_row T.F__law_row.kp T.b__law_row .nil pass0 (pa_cons (pv 0) (pa_cons (pv 1) (pa_cons (pe_op op_add (pv 3) pe_int) pa_nil)))))
  (pss_one (ps_if (pt_cmpR (op_neD hr.units) (pv 6) (pe_ix ix_tup (pv 2) (pv 3) (fun _ _ => rfl)) (nomark _)) (pss_cons (ps_asg (pv 6) (pg_sub (pv 4) (pv 3) set_list))
  (pss_one (ps_ret (pe_callTy call_tuple_of (by rfl) T.m_tuple (by decide +kernel) (pa_cons (pv 4) pa_nil))))) pss_nil))))
  (pss_cons (ps_asg (RR.pe_revT (pe_ix ix_tup (pv 2) (pv 3) (fun _ _ => rfl))) (pg_sub (pv 4) (pv 3) set_list))
  (pss_one (ps_ret (pe_callTy call_tuple_of (by rfl) T.m_tuple (by decide +kernel) (pa_cons (pv 4) pa_nil))))))))), ?_⟩
    have r1 := R.2.1
    have r60 := R.2.2.1
    have el := tu.length
    refine ⟨.ref t, rfl, .ref ra, rfl, ra, _, rfl, .inr hra, t, sc, _, rfl, ⟨by rw [List.length_map]; omega, by rw [List.length_map]; omega⟩, tp, fun at_ H1 ha0 ha1 mv1 tp1 => ?_⟩
    rw [List.length_map, el] at ha1
    have nl1 : Nl H H1 := .moved tp mv1
    refine ⟨.ref ra, rfl, ra, _, rfl, .inr (sT_nl hra nl1), fun M nM => ?_⟩
    have sM := same_upd (o := .lst (ps.map V.ref)) nM
    have hMt : M ≠ t := tp1.ne nM
    have hMs : M ≠ sc := tp1.ne2 nM
    obtain ⟨row0, hrow0⟩ : ∃ row, rs[at_.toNat]? = some row := ⟨_, List.getElem?_eq_getElem (by omega)⟩
    obtain ⟨p0, hp0, ep0⟩ : ∃ p, (ps.map V.ref)[at_.toNat]? = some (.ref p) ∧ H p = some (.tup (fI row0)) := tu.at hrow0
    obtain ⟨in0, l0, sum0⟩ := R.2.2.2 _ _ hrow0
    have atE : ((at_.toNat : Nat) : Int) = at_ := Int.toNat_of_nonneg ha0
    -- the end: made with a row of its own, as a tuple
    have fin : ∀ (H2 : Hp) (rw' : Addr) (row : List Int), Moved t H H2 → Tape H2 t sc → H2 M = some (.lst (ps.map V.ref)) → H2 rw' = some (.tup (fI row)) → Tb.InR ls row → Tb.rsum ls row = at_ + 1 →
        ∀ u, upd H2 M (.lst ((ps.map V.ref).set at_.toNat (.ref rw'))) u = none → Q (.ref u) (upd (upd H2 M (.lst ((ps.map V.ref).set at_.toNat (.ref rw')))) u (.tup ((ps.map V.ref).set at_.toNat (.ref rw')))) := fun H2 rw' row mv2 tp2 eM er hin hsum u nu => by
      have nl2 : Nl H H2 := .moved tp mv2
      have nl3 : Nl H2 (upd H2 M (.lst ((ps.map V.ref).set at_.toNat (.ref rw')))) := .put eM
      have su := same_upd (o := .tup ((ps.map V.ref).set at_.toNat (.ref rw'))) nu
      have tp3 : Tape (upd H2 M (.lst ((ps.map V.ref).set at_.toNat (.ref rw')))) t sc := tp2.but hMt hMs
      have hMH : H M = none := mv1.free hMt nM
      have hl := Tb.rsum_len R.1 hin
      refine q u (ps.set at_.toNat rw') (rs.set at_.toNat row) _ (right_set R (by omega) hin (by omega) (by rw [atE]; exact hsum)) (fun b o n e => su _ _ ?_) (tp3.keep su) ?_ ?_
      · rw [upd_ne (ne_of_none e hMH)]
        exact mv2 b o n e
      · rw [upd_same, List.map_set]
      · refine ((Tups.set (tu.nl nl2) at_.toNat er).nl nl3).same su
    have eM1 : upd H1 M (.lst (ps.map V.ref)) M = some (.lst (ps.map V.ref)) := upd_same
    refine ⟨6, rfl, by decide, by decide, for_range (lo := 0) (n := (6 : Int).toNat)
      (fun i σ H' => ∃ y5 y6, σ = [some (.ref t), some (.ref a), some (.ref ra), some (.int at_), some (.ref M), y5, y6] ∧ Moved t H H' ∧ Tape H' t sc ∧ H' M = some (.lst (ps.map V.ref)))
      ⟨_, _, rfl, mv1.trans (Moved.same sM), tp1.keep sM, upd_same⟩ (fun i σ H' hi h => ?_) (fun σ H' h => ?_)⟩
    · obtain ⟨y5, y6, rfl, mv, tp', eM⟩ := h
      have nl' : Nl H H' := .moved tp mv
      refine ⟨.ref t, rfl, .ref a, rfl, .int at_, rfl, _, _, rfl, rfl, t, sc, a, ls, at_ + 1, rfl, tp', ea.nl nl', g, h1s, by omega, by omega, fun r row H2 hin hsum nrt nr mv2 tp2 er => ?_⟩
      have nl2 : Nl H' H2 := .moved tp' mv2
      have eM2 := mv2 M _ hMt eM
      refine ⟨.ref r, rfl, .ref ra, rfl, .int at_, rfl, ra, _, _, .ref p0, rfl, rfl, sT_nl (sT_nl hra nl') nl2, atI_of ha0 hp0, My.dI row, My.dI row0, dp_dI (SqT.of er), dp_dI (SqT.of (nl2 _ _ (fun _ z => by cases z) (nl' _ _ (fun _ z => by cases z) ep0))), (Shp.dI _).ok (by decide), (Shp.dI _).ok (by decide), _, rfl, ite2 (fun c => ?_) (fun c => ?_)⟩
      · refine ⟨.ref r, rfl, .ref M, rfl, .int at_, rfl, M, _, at_, at_.toNat, rfl, rfl, eM2, ixN_nat ha0 (by rw [List.length_map]; omega), ?_⟩
        exact ⟨.ref M, rfl, M, _, rfl, .inl ⟨SqL.of upd_same, fin H2 r row (mv.trans mv2) tp2 eM2 er hin hsum⟩⟩
      · exact ⟨_, _, rfl, mv.trans mv2, tp2, eM2⟩
    · obtain ⟨y5, y6, rfl, mv, tp', eM⟩ := h
      have nl' : Nl H H' := .moved tp mv
      refine ⟨.ref ra, rfl, .int at_, rfl, ra, _, _, .ref p0, rfl, rfl, sT_nl hra nl', atI_of ha0 hp0, p0, _, rfl, SqT.of (nl' _ _ (fun _ z => by cases z) ep0), fun v nv => ?_⟩
      have sv := same_upd (o := .tup (fI row0).reverse) nv
      have eM2 := sv _ _ eM
      refine ⟨.ref M, rfl, .int at_, rfl, M, _, at_, at_.toNat, rfl, rfl, eM2, ixN_nat ha0 (by rw [List.length_map]; omega), ?_⟩
      refine ⟨.ref M, rfl, M, _, rfl, .inl ⟨SqL.of upd_same, fin _ v row0.reverse (mv.trans (Moved.same sv)) (tp'.keep sv) eM2 ?_ (fun x hx => in0 x (List.mem_reverse.mp hx)) ?_⟩⟩
      · rw [upd_same]
        show some (HO.tup (row0.map V.int).reverse) = some (.tup (row0.reverse.map V.int))
        rw [List.map_reverse]
      · rw [rsum_rev]
        omega
end

/-! ### tables made of tables -/
theorem rsum_congr {ls ms : List Int} {f : Int → Int} {r : List Int} (h : ∀ k ∈ r, Tb.len1 ms (f k) = Tb.len1 ls k) : Tb.rsum ms (r.map f) = Tb.rsum ls r := by
  unfold Tb.rsum
  rw [List.map_map]
  congr 1
  exact List.map_congr_left h
theorem right_more {ls : List Int} {rs : List (List Int)} (R : Tb.Right ls rs) (h : ls.length ≤ 7) : Tb.Right (ls ++ [1]) rs := by
  obtain ⟨g, a, b, c⟩ := R
  refine ⟨⟨by rw [List.length_append]; exact Nat.le_add_left _ _, by rw [List.length_append]; show ls.length + 1 ≤ 8; omega, fun n hn => ?_⟩, a, b, fun i r hr => ?_⟩
  · rcases List.mem_append.mp hn with hn | hn
    · exact g.2.2 n hn
    · rw [List.mem_singleton.mp hn]
      decide
  · obtain ⟨h1, h2, h3⟩ := c i r hr
    refine ⟨fun k hk => ⟨(h1 k hk).1, by have := (h1 k hk).2; rw [List.length_append]; show k < ((ls.length + 1 : Nat) : Int); omega⟩, h2, ?_⟩
    rw [← h3]
    have := rsum_congr (ls := ls) (ms := ls ++ [1]) (f := id) (r := r) fun k hk => by
      unfold Tb.len1
      have := h1 k hk
      show (ls ++ [1]).getD k.toNat 0 = _
      rw [List.getD_eq_getElem?_getD, List.getD_eq_getElem?_getD, List.getElem?_append_left (by omega)]
    rw [List.map_id] at this
    exact this
theorem right_drop {ls : List Int} {rs : List (List Int)} (R : Tb.Right ls rs) (h : 1 < rs.length) : Tb.Right ls rs.dropLast := by
  obtain ⟨g, a, b, c⟩ := R
  refine ⟨g, by rw [List.length_dropLast]; omega, by rw [List.length_dropLast]; omega, fun i r hr => ?_⟩
  rw [List.dropLast_eq_take] at hr
  have hi := (List.getElem?_eq_some_iff.mp hr).1
  rw [List.length_take] at hi
  rw [List.getElem?_take_of_lt (by omega)] at hr
  exact c i r hr
/-- the loops named from behind -/
def turn (ls : List Int) (k : Int) : Int := (ls.length : Int) - 1 - k
theorem right_turn {ls : List Int} {rs : List (List Int)} (R : Tb.Right ls rs) : Tb.Right ls.reverse (rs.map fun r => r.map (turn ls)) := by
  obtain ⟨g, a, b, c⟩ := R
  refine ⟨g.perm ls.reverse_perm, by rw [List.length_map]; exact a, by rw [List.length_map]; exact b, fun i r hr => ?_⟩
  rw [List.getElem?_map] at hr
  obtain ⟨r0, hr0, rfl⟩ := Option.map_eq_some_iff.mp hr
  obtain ⟨h1, h2, h3⟩ := c i r0 hr0
  refine ⟨fun k hk => ?_, by rw [List.length_map]; exact h2, ?_⟩
  · obtain ⟨k0, hk0, rfl⟩ := List.mem_map.mp hk
    have := h1 k0 hk0
    rw [List.length_reverse]
    unfold turn
    omega
  · rw [← h3]
    refine rsum_congr fun k hk => ?_
    have := h1 k hk
    unfold Tb.len1 turn
    rw [List.getD_eq_getElem?_getD, List.getD_eq_getElem?_getD, List.getElem?_reverse (by omega)]
    congr 2
    omega
theorem cut_last (xs : List V) : cutV xs none (some (-1)) = xs.dropLast := by
  unfold cutV
  rw [HT.sIx_none]
  have e : HT.sIx xs.length xs.length (some (-1)) = xs.length - 1 := by
    show (if (-1 : Int) < 0 then ((-1 : Int) + (xs.length : Int)).toNat else min (-1 : Int).toNat xs.length) = _
    rw [if_pos (by decide)]
    omega
  rw [e]
  show List.take (xs.length - 1 - 0) (xs.drop 0) = _
  rw [List.drop_zero, Nat.sub_zero, List.dropLast_eq_take]
theorem Tups.dropLast {α : Type} {f : α → List V} {H : Hp} {ps : List Addr} {xs : List α} (h : Tups f H ps xs) : Tups f H ps.dropLast xs.dropLast := by
  induction h with
  | nil => exact .nil
  | @cons p x ps xs a b ih =>
    cases b with
    | nil => exact .nil
    | cons c d => exact .cons a ih
section
variable {K : PySem.W.Frag} {C : Addr} {H : Hp}
theorem mk_tab {x dx la ra : Addr} {ls : List Int} {ps : List Addr} {rs : List (List Int)} (nx : H x = none) (ndx : H dx = none) (hA : SqT K H la (ls.map V.int)) (hB : SqT K H ra (ps.map V.ref)) (tu : Tups fI H ps rs) (R : Tb.Right ls rs) {Z : VK} {E : XK} (q : ∀ H', Same H H' → TabAt K C H' x ls rs → Z .non H') :
    spTInit K C [.ref x, .ref la, .ref ra] (upd (upd H dx (.own x)) x (.ins C dx [])) Z E := by
  have sx : Same H (upd (upd H dx (.own x)) x (.ins C dx [])) := fun b o e => by
    rw [upd_ne (ne_of_none e nx), upd_ne (ne_of_none e ndx)]
    exact e
  refine ⟨x, dx, la, ra, ls, ps, rs, rfl, upd_same, sT sx hA, sT sx hB, tu.same sx, R, fun H7 kp7 ep7 => ?_⟩
  have s7 : Same H H7 := fun b o e => kp7 b o (ne_of_none e nx) (sx b o e)
  exact q H7 s7 ⟨dx, la, ra, ps, ep7, sT s7 hA, sT s7 hB, tu.same s7⟩
theorem eq_tab (i : RE8.InsC K C) (cl : Cls K C) {p p2 : Addr} {ls ls2 : List Int} {rs rs2 : List (List Int)} (t1 : TabAt K C H p ls rs) (t2 : TabAt K C H p2 ls2 rs2) {Q : VK} (q : ∀ H', Same H H' → Q (.bl (decide (ls = ls2) && decide (rs = rs2))) H') : RE8.rEqO K C (spTEq K C) (.ref p) (.ref p2) H Q := by
  obtain ⟨dx, _, _, _, ep, _⟩ := t1.ob
  obtain ⟨_, _, _, _, ep2, _⟩ := t2.ob
  exact ⟨p, dx, _, _, rfl, ep, i.tyOf cl ep2, RE8.first_self K C, p, .ref p2, ls, rs, rfl, t1, .inl ⟨p2, ls2, rs2, rfl, t2, fun H' s => ⟨_, rfl, q H' s⟩⟩⟩
theorem eq_thing {p : Addr} {y : V} {n : String} {ls : List Int} {rs : List (List Int)} (t1 : TabAt K C H p ls rs) (ty : TyX K H y (.type n)) (pl : RE8.Plain n) {Q : VK} (q : ∀ H', Same H H' → Q (.bl false) H') : RE8.rEqO K C (spTEq K C) (.ref p) y H Q := by
  obtain ⟨dx, _, _, _, ep, _⟩ := t1.ob
  exact ⟨p, dx, _, _, rfl, ep, ty, pl.first K C, p, y, ls, rs, rfl, t1, .inr ⟨n, ty, pl, fun H' s => ⟨_, rfl, q H' s⟩⟩⟩
theorem ne_thing {p : Addr} {y : V} {n : String} {ls : List Int} {rs : List (List Int)} (t1 : TabAt K C H p ls rs) (ty : TyX K H y (.type n)) (pl : RE8.Plain n) {Q : VK} (q : ∀ H', Same H H' → Q (.bl true) H') : RE8.rNeO K C (spTEq K C) (.ref p) y H Q := by
  obtain ⟨dx, _, _, _, ep, _⟩ := t1.ob
  exact ⟨p, dx, _, _, rfl, ep, ty, pl.first K C, p, y, ls, rs, rfl, t1, .inr ⟨n, ty, pl, fun H' s => ⟨_, rfl, q H' s⟩⟩⟩
end

/-! ### the law of tables that are compared -/
def rLst7 (K : PySem.W.Frag) : List V → Hp → VK → Prop := fun xs H Q => ∃ p ys, xs = [V.ref p] ∧ (SqL K H p ys ∨ SqT K H p ys) ∧ ∀ l, H l = none → Q (.ref l) (upd H l (.lst ys))
theorem lstK7 {X : Cx} {K : PySem.W.Frag} (h : X.K = K) : CallR X (.type "list") (rLst7 K) := h ▸ call_list_of
def rTup7 (K : PySem.W.Frag) : List V → Hp → VK → Prop := fun xs H Q => ∃ p ys, xs = [V.ref p] ∧ ((SqL K H p ys ∧ ∀ l, H l = none → Q (.ref l) (upd H l (.tup ys))) ∨ (SqT K H p ys ∧ Q (.ref p) H))
theorem tupK7 {X : Cx} {K : PySem.W.Frag} (h : X.K = K) : CallR X (.type "tuple") (rTup7 K) := h ▸ call_tuple_of
theorem pi_tupK {X : Cx} {K : PySem.W.Frag} (h : X.K = K) {tg l : Expr} {tl : TE} (hl : PE X l tl) : PI X tg l (iTup K tl) := h ▸ pi_tup hl
section
variable {P : Program} {w : World} {K : PySem.W.Frag} {mg : Str → Option Value} {base : Heap}
def lawLevel : Nat := 8
def spLaw (K : PySem.W.Frag) : Sp := fun vs H Q _ => ∃ (a : Addr) (ns : List Int), vs = [.ref a] ∧ SqL K H a (ns.map V.int) ∧ ns.length ≤ 63 ∧ ∀ H', Q (.bl true) H'
theorem ok_law (T : Tx K mg) : FnOk P w K mg base CX0 8 T.a_law T.d_law ["script"] (spLaw K) := by
  refine T.F_law.ok sc_law (fun vs H Q E h => ?_) (fun cdv A outer s H vs Q E hr h => ?_)
  · obtain ⟨a, ns, rfl, _⟩ := h
    rfl
  · obtain ⟨a, ns0, rfl, hS, hlen, q⟩ := h
    refine ⟨_, ((pss_cons (ps_set (i := 1) sc_law.nd rfl (.inl rfl) (pe_call (ok__law_tape T) (hr.mono (by decide)) (by rfl) T.g__law_tape T.F__law_tape.kp T.b__law_tape .nil pass0 (pa_cons (pv 0) pa_nil)))
  (pss_cons (ps_set (i := 2) sc_law.nd rfl (.inr rfl) (pe_call (ok__law_loops T) (hr.mono (by decide)) (by rfl) T.g__law_loops T.F__law_loops.kp T.b__law_loops .nil pass0 (pa_cons (pv 1) (pa_cons pe_int (pa_cons pe_int pa_nil)))))
  (pss_cons (ps_set (i := 3) sc_law.nd rfl (.inl rfl) (pe_op op_add pe_int (pe_call (ok__law_pick T) (hr.mono (by decide)) (by rfl) T.g__law_pick T.F__law_pick.kp T.b__law_pick .nil pass0 (pa_cons (pv 1) (pa_cons pe_int pa_nil)))))
  (pss_cons (ps_set (i := 4) sc_law.nd rfl (.inl rfl) (pe_call (ok__law_rows T) (hr.mono (by decide)) (by rfl) T.g__law_rows T.F__law_rows.kp T.b__law_rows .nil pass0 (pa_cons (pv 1) (pa_cons (pv 2) (pa_cons (pv 3) pa_nil)))))
  (pss_cons (ps_set (i := 5) sc_law.nd rfl (.inl rfl) (pe_make T.mk_Table (ok_Table___init__ T) (hr.mono (by decide)) (by rfl) T.g_Table T.b_Table___init__ .nil pass0 (pa_cons (pv 2) (pa_cons (pv 4) pa_nil))))
  (pss_cons (ps_if (pt_not (pt_cmpR (RE8.op_eqO (sp := spTEq K T.c_Table) (ok_Table___eq__ T) T.me_Table___eq__.at_ T.me_Table___eq__.fn T.b_Table___eq__ (hr.mono (by decide))) (pv 5) (pe_make T.mk_Table (ok_Table___init__ T) (hr.mono (by decide)) (by rfl) T.g_Table T.b_Table___init__ .nil pass0 (pa_cons (pe_callTy call_tuple_of (by rfl) T.m_tuple (by decide +kernel) (pa_cons (pe_callTy call_list_of (by rfl) T.m_list (by decide +kernel) (pa_cons (pv 2) pa_nil)) pa_nil)) (pa_cons (pe_callTy call_tuple_of (by rfl) T.m_tuple (by decide +kernel) (pa_cons (pe_lc (own := [("row", 11)]) (g := (gName 11)) (tt := tYes) rfl sc_law.nd (pi_tup (pv 4)) (blkOk_by (own := [("row", 11)]) (N := ["script", "tape", "loops", "bound", "rows", "one", "other", "turned", "named", "thing", "made", "row", "k"]) (sc := defScope s_law) (by decide +kernel)) (fun _ _ _ _ _ => pg_name (i := 11) sc_law.nd rfl (.inl rfl)) (fun _ _ _ _ _ => pts_nil) (fun _ _ _ _ _ => (pe_callTy (tupK7 (K := K) (by rfl)) (by rfl) T.m_tuple (by decide +kernel) (pa_cons (pe_callTy (lstK7 (K := K) (by rfl)) (by rfl) T.m_list (by decide +kernel) (pa_cons (pv 11) pa_nil)) pa_nil)))) pa_nil)) pa_nil))) (nomark _))) (pss_one (ps_ret pe_bl)) pss_nil)
  (pss_cons (ps_set (i := 6) sc_law.nd rfl (.inl rfl) (pe_call (ok__law_other_row T) (hr.mono (by decide)) (by rfl) T.g__law_other_row T.F__law_other_row.kp T.b__law_other_row .nil pass0 (pa_cons (pv 1) (pa_cons (pv 2) (pa_cons (pv 4) pa_nil)))))
  (pss_cons (ps_if (PW.pt (pw_or (pt_cmpR op_ne (pe_cmpR (RE8.op_eqO (sp := spTEq K T.c_Table) (ok_Table___eq__ T) T.me_Table___eq__.at_ T.me_Table___eq__.fn T.b_Table___eq__ (hr.mono (by decide))) (pv 5) (pe_make T.mk_Table (ok_Table___init__ T) (hr.mono (by decide)) (by rfl) T.g_Table T.b_Table___init__ .nil pass0 (pa_cons (pv 2) (pa_cons (pv 6) pa_nil))) (nomark _)) (pe_cmpR (op_eqD hr.units) (pv 6) (pv 4) (nomark _)) (nomark _)) (pw_or1 (pt_cmpR (RE8.op_eqO (sp := spTEq K T.c_Table) (ok_Table___eq__ T) T.me_Table___eq__.at_ T.me_Table___eq__.fn T.b_Table___eq__ (hr.mono (by decide))) (pv 5) (pe_make T.mk_Table (ok_Table___init__ T) (hr.mono (by decide)) (by rfl) T.g_Table T.b_Table___init__ .nil pass0 (pa_cons (pe_op catU (pv 2) (pe_tup (pa_cons pe_int pa_nil))) (pa_cons (pv 4) pa_nil))) (nomark _))))) (pss_one (ps_ret pe_bl)) pss_nil)
  (Evl.pss_cut (ps_if (PW.pt (pw_and (pt_cmpR op_gt (pe_callB call_len_seq (by rfl) T.m_len PySem.boot_len (pa_cons (pv 4) pa_nil)) pe_int (nomark _)) (pw_and1 (pt_cmpR (RE8.op_eqO (sp := spTEq K T.c_Table) (ok_Table___eq__ T) T.me_Table___eq__.at_ T.me_Table___eq__.fn T.b_Table___eq__ (hr.mono (by decide))) (pv 5) (pe_make T.mk_Table (ok_Table___init__ T) (hr.mono (by decide)) (by rfl) T.g_Table T.b_Table___init__ .nil pass0 (pa_cons (pv 2) (pa_cons (pe_slice sl_tupU (pv 4) po_none (po_some (pe_un un_neg pe_int))) pa_nil))) (nomark _))))) (pss_one (ps_ret pe_bl)) pss_nil)
  (pss_cons (ps_set (i := 7) sc_law.nd rfl (.inl rfl) (RR.pe_revT (pv 2)))
  (pss_cons (ps_set (i := 8) sc_law.nd rfl (.inl rfl) (pe_callTy call_tuple_of (by rfl) T.m_tuple (by decide +kernel) (pa_cons (pe_lc (own := [("row", 11)]) (g := (gName 11)) (tt := tYes) rfl sc_law.nd (pi_tup (pv 4)) (blkOk_by (own := [("row", 11)]) (N := ["script", "tape", "loops", "bound", "rows", "one", "other", "turned", "named", "thing", "made", "row", "k"]) (sc := defScope s_law) (by decide +kernel)) (fun _ _ _ _ _ => pg_name (i := 11) sc_law.nd rfl (.inl rfl)) (fun _ _ _ _ _ => pts_nil) (fun _ _ _ _ _ => (pe_callTy (tupK7 (K := K) (by rfl)) (by rfl) T.m_tuple (by decide +kernel) (pa_cons (pe_lc (own := [("k", 12)]) (g := (gName 12)) (tt := tYes) rfl sc_law.nd (pi_tupK (K := K) (by rfl) (pv 11)) (blkOk_by (own := [("k", 12)]) (N := ["script", "tape", "loops", "bound", "rows", "one", "other", "turned", "named", "thing", "made", "row", "k"]) (sc := _) (by rfl)) (fun _ _ _ _ _ => pg_name (i := 12) sc_law.nd rfl (.inl rfl)) (fun _ _ _ _ _ => pts_nil) (fun _ _ _ _ _ => (pe_op op_sub (pe_op op_sub (pe_callB (lenK (K := K) (by rfl)) (by rfl) T.m_len PySem.boot_len (pa_cons (pv 2) pa_nil)) pe_int) (pv 12)))) pa_nil)))) pa_nil)))
  (Evl.pss_cut (ps_if (pt_cmpR op_ne (pe_cmpR (RE8.op_eqO (sp := spTEq K T.c_Table) (ok_Table___eq__ T) T.me_Table___eq__.at_ T.me_Table___eq__.fn T.b_Table___eq__ (hr.mono (by decide))) (pv 5) (pe_make T.mk_Table (ok_Table___init__ T) (hr.mono (by decide)) (by rfl) T.g_Table T.b_Table___init__ .nil pass0 (pa_cons (pv 7) (pa_cons (pv 8) pa_nil))) (nomark _)) (pe_and (pe_cmpR (op_eqD hr.units) (pv 7) (pv 2) (nomark _)) (pe_one (pe_cmpR (op_eqD hr.units) (pv 8) (pv 4) (nomark _)))) (nomark _)) (pss_one (ps_ret pe_bl)) pss_nil)
  (pss_cons (ps_for PassesOwn.never rfl (pi_list (pe_lst (pa_cons pe_non (pa_cons pe_int (pa_cons (pe_tup (pa_cons (pv 2) (pa_cons (pv 4) pa_nil))) (pa_cons (pv 4) (pa_cons (pv 2) (pa_cons pe_str (pa_cons (pe_lst (pa_cons (pv 5) pa_nil)) pa_nil))))))))) (pg_name (i := 9) sc_law.nd rfl (.inl rfl))
   (pss_one (ps_if (PW.pt (pw_or (pt_cmpR (RE8.op_eqO (sp := spTEq K T.c_Table) (ok_Table___eq__ T) T.me_Table___eq__.at_ T.me_Table___eq__.fn T.b_Table___eq__ (hr.mono (by decide))) (pv 5) (pv 9) (nomark _)) (pw_or1 (pt_not (pt_cmpR (RE8.op_neO (sp := spTEq K T.c_Table) (ok_Table___eq__ T) T.me_Table___eq__.at_ T.in_Table.ne T.in_Table.hm T.me_Table___eq__.fn T.b_Table___eq__ (hr.mono (by decide))) (pv 5) (pv 9) (nomark _)))))) (pss_one (ps_ret pe_bl)) pss_nil)))
  (pss_cons (ps_set (i := 10) sc_law.nd rfl (.inl rfl) (pe_callTy call_list_of (by rfl) T.m_list (by decide +kernel) (pa_cons (pe_fld (pv 5) rfl) pa_nil)))
  (pss_cons (ps_expr (pe_bm PySem.F.plainAttrs_list PySem.F.slot_list_append PySem.F.type_list_append mt_append (pv 10) (pa_cons (pe_tup pa_nil) pa_nil)))
  (pss_cons (ps_if (PW.pt (pw_or (pt_cmpR (op_neD hr.units) (pe_fld (pv 5) rfl) (pv 2) (nomark _)) (pw_or (pt_cmpR (op_neD hr.units) (pe_fld (pv 5) rfl) (pv 4) (nomark _)) (pw_or (pt_cmpR op_ne (pe_fld (pv 5) rfl) (pv 3) (nomark _)) (pw_or1 (pt_val (pe_callB call_isi (by rfl) T.m_isinstance (by decide +kernel) (pa_cons (pe_fld (pv 5) rfl) (pa_cons (pe_bltn (v := .ty "bool") (by rfl) T.m_bool (by decide +kernel) rfl) pa_nil))))))))) (pss_one (ps_ret pe_bl)) pss_nil)
  (pss_one (ps_ret (pe_and (pe_callB call_isi (by rfl) T.m_isinstance (by decide +kernel) (pa_cons (pe_fld (pv 5) rfl) (pa_cons (pe_bltn (v := .ty "tuple") (by rfl) T.m_tuple (by decide +kernel) rfl) pa_nil))) (pe_and (pe_callB call_isi (by rfl) T.m_isinstance (by decide +kernel) (pa_cons (pe_fld (pv 5) rfl) (pa_cons (pe_bltn (v := .ty "tuple") (by rfl) T.m_tuple (by decide +kernel) rfl) pa_nil))) (pe_one (pe_cmpR (op_eqD hr.units) (pe_call (ok_entries T) (hr.mono (by decide)) (by rfl) T.g_entries T.F_entries.kp T.b_entries .nil pass0 (pa_cons (pv 5) pa_nil)) (pe_call (ok_entries T) (hr.mono (by decide)) (by rfl) T.g_entries T.F_entries.kp T.b_entries .nil pass0 (pa_cons (pe_make T.mk_Table (ok_Table___init__ T) (hr.mono (by decide)) (by rfl) T.g_Table T.b_Table___init__ .nil pass0 (pa_cons (pv 2) (pa_cons (pv 4) pa_nil))) pa_nil)) (nomark _)))))))))))))))))))))))), ?_⟩
    refine ⟨.ref a, rfl, a, ns0, rfl, hS, fun t sc H1 nt ns' sm tp => ?_⟩
    refine ⟨.ref t, rfl, t, sc, 4, 4, rfl, ⟨by decide, by decide⟩, ⟨by decide, by decide⟩, tp, fun la ls H2 g l4 m1 lat nla mv2 tp2 hla => ?_⟩
    refine ⟨.ref t, rfl, t, sc, 8, rfl, ⟨by decide, by decide⟩, tp2, fun b0 H3 hb0 hb1 mv3 tp3 => ?_⟩
    refine ⟨1, b0, rfl, rfl, ?_⟩
    have nl3 : Nl H2 H3 := .moved tp2 mv3
    refine ⟨.ref t, rfl, .ref la, rfl, .int (1 + b0), rfl, t, sc, la, ls, 1 + b0, rfl, tp3, hla.nl nl3, g, m1, by omega, by omega, fun ra ps rs H4 R el rat nra mv4 tp4 era tu => ?_⟩
    have nl4 : Nl H3 H4 := .moved tp3 mv4
    have hla4 := (hla.nl nl3).nl nl4
    have hra4 : SqT K H4 ra (ps.map V.ref) := SqT.of era
    have lsl : ls.length ≤ 7 := by omega
    have r1 := R.2.1
    have r60 := R.2.2.1
    have ezl := tu.length
    refine ⟨.ref la, rfl, .ref ra, rfl, fun on dx1 n1 n2 _ => mk_tab n1 n2 hla4.sq hra4 tu R fun H5 s5 tab => ⟨rfl, ?_⟩⟩
    have hla5 : SqT K H5 la (ls.map V.int) := sT s5 hla4.sq
    have hra5 := sT s5 hra4
    have tu5 := tu.same s5
    -- the same table made anew
    refine ⟨.ref on, rfl, .ref la, rfl, la, _, rfl, .inr hla5, fun X1 nX1 => ⟨X1, _, rfl, .inl ⟨SqL.of upd_same, fun X2 nX2 => ?_⟩⟩⟩
    have sa := same_upd (o := .lst (ls.map V.int)) nX1
    have sb := same_upd (o := .tup (ls.map V.int)) nX2
    have s6 := sa.trans sb
    refine ⟨.ref ra, rfl, ra, rfl, ⟨_, sT s6 hra5⟩, fun D nD => lc_tup (K := K) (a := ra) (xs := ps.map V.ref)
      (fun i H' => ∃ qs, Same (upd (upd H5 X1 (.lst (ls.map V.int))) X2 (.tup (ls.map V.int))) H' ∧ H' D = some (.lst (qs.map V.ref)) ∧ Tups fI H' qs (rs.take i))
      ⟨[], same_upd nD, upd_same, .nil⟩ (fun i H' _ h => let ⟨_, sm, _⟩ := h; sT sm (sT s6 hra5)) (fun i x H' hx h => ?_) (fun H6 h => ?_)⟩
    · obtain ⟨qs, sm, eD, tq⟩ := h
      obtain ⟨r, row, rfl, hrow, er⟩ := tu5.get hx
      have hi := (List.getElem?_eq_some_iff.mp hrow).1
      have er' := sm _ _ (s6 _ _ er)
      refine ⟨rfl, .ref r, rfl, r, _, rfl, .inr (SqT.of er'), fun Y1 nY1 => ⟨Y1, _, rfl, .inl ⟨SqL.of upd_same, fun Y2 nY2 => ?_⟩⟩⟩
      have sc1 := same_upd (o := .lst (fI row)) nY1
      have sc2 := same_upd (o := .tup (fI row)) nY2
      have eD2 := sc2 _ _ (sc1 _ _ eD)
      refine ⟨_, eD2, by rw [List.length_map, tq.length, List.length_take]; exact small1000 (by omega), qs ++ [Y2], same_put ((sm.trans sc1).trans sc2) nD, by rw [upd_same, List.map_append]; rfl, ?_⟩
      rw [take_snoc hrow]
      exact (((tq.new nY1).new nY2).snoc upd_same).put eD2
    · obtain ⟨qs, sm, eD, tq⟩ := h
      rw [List.length_map, ezl, List.take_of_length_le (Nat.le_refl _)] at tq
      refine ⟨D, _, rfl, .inl ⟨SqL.of eD, fun Y nY => ?_⟩⟩
      have sY := same_upd (o := .tup (qs.map V.ref)) nY
      have sAll := (s6.trans sm).trans sY
      refine fun on2 dx2 n1 n2 _ => mk_tab n1 n2 (sT sY (sT sm (SqT.of upd_same))) (SqT.of upd_same) (tq.same sY) R fun H7 s7 tab2 => ⟨rfl, ?_⟩
      refine eq_tab T.in_Table T.cl_Table ((tab.same sAll).same s7) tab2 fun H8 s8 => ?_
      rw [decide_eq_true rfl, decide_eq_true rfl]
      refine ⟨true, rfl, iteF ?_⟩
      have s58 : Same H5 H8 := (sAll.trans s7).trans s8
      have s48 : Same H4 H8 := s5.trans s58
      have tp8 := tp4.keep s48
      have hla8 := hla4.same s48
      have hra8 := sT s48 hra4
      have tu8 := tu.same s48
      -- another row
      refine ⟨.ref t, rfl, .ref la, rfl, .ref ra, rfl, t, sc, la, ra, ls, ps, rs, rfl, tp8, hla8, g, m1, hra8, tu8, R, fun oa os ros H9 Ro mv9 tp9 eoa tuo => ?_⟩
      have nl9 : Nl H8 H9 := .moved tp8 mv9
      have tab9 := ((tab.same s58)).nl nl9
      have hla9 : SqT K H9 la (ls.map V.int) := sT_nl hla8.sq nl9
      have hra9 := sT_nl hra8 nl9
      have tu9 := tu8.nl nl9
      refine ⟨.ref on, rfl, .ref la, rfl, .ref oa, rfl, fun o2 dx3 n1 n2 _ => mk_tab n1 n2 hla9 (SqT.of eoa) tuo Ro fun H10 s10 tab3 => ⟨rfl, eq_tab T.in_Table T.cl_Table (tab9.same s10) tab3 fun H11 s11 => ?_⟩⟩
      have s9b := s10.trans s11
      refine ⟨.ref oa, rfl, .ref ra, rfl, dTT ros, dTT rs, dp_dTT (SqT.of (s9b _ _ eoa)) (tuo.same s9b), dp_dTT (sT s9b hra9) (tu9.same s9b), (Shp.dTT _).ok (by decide), (Shp.dTT _).ok (by decide), ?_⟩
      rw [eqvTT]
      refine ⟨rfl, false, ?_, iteF ?_⟩
      · have e : V.bl (decide (ls = ls) && decide (rs = ros)) = V.bl (decide (ros = rs)) := by
          rw [decide_eq_true rfl, Bool.true_and]
          congr 1
          exact decide_eq_decide.mpr ⟨Eq.symm, Eq.symm⟩
        show V.bl (!decide _) = _
        rw [decide_eq_true e]
        rfl
      refine ⟨.ref on, rfl, .ref la, rfl, by show 1 ≤ sizeLine; decide, fun q1 nq1 => ?_⟩
      have sq1 := same_upd (o := .tup [V.int 1]) nq1
      have s9c := s9b.trans sq1
      refine ⟨la, q1, _, [V.int 1], rfl, rfl, sT s9c hla9, SqT.of upd_same, by rw [List.length_map]; show ls.length + 1 ≤ 2 ^ 24; omega, fun Z H12 s12 hZ => ?_⟩
      have hZ' : SqT K H12 Z ((ls ++ [1]).map V.int) := by
        rw [List.map_append]
        exact hZ
      have s9d := s9c.trans s12
      refine ⟨.ref ra, rfl, fun o3 dx4 n1 n2 _ => mk_tab n1 n2 hZ' (sT s9d hra9) (tu9.same s9d) (right_more R lsl) fun H13 s13 tab4 => ⟨rfl, eq_tab T.in_Table T.cl_Table (tab9.same (s9d.trans s13)) tab4 fun H14 s14 => ?_⟩⟩
      have e4 : (decide (ls = ls ++ [1]) && decide (rs = rs)) = false := by
        rw [decide_eq_false (fun z => by
          have := congrArg List.length z
          rw [List.length_append] at this
          simp at this)]
        rfl
      rw [e4]
      refine ⟨false, rfl, iteF ?_⟩
      have s9e := (s9d.trans s13).trans s14
      -- the rows but the last
      refine ⟨fun σ' H' => σ' = [some (.ref a), some (.ref t), some (.ref la), some (.int (1 + b0)), some (.ref ra), some (.ref on), some (.ref oa), none, none, none, none, none, none] ∧ Same H14 H', ?_, fun σ' H15 hm => ?_⟩
      · refine ⟨.ref ra, rfl, ra, _, rfl, .inr (sT s9e hra9), _, 1, rfl, rfl, _, rfl, ite2 (fun c1 => ?_) (fun c1 => ?_)⟩
        · have c1' := of_decide_eq_true c1
          rw [List.length_map] at c1'
          refine ⟨.ref on, rfl, .ref la, rfl, .ref ra, rfl, 1, rfl, -1, rfl, ra, _, rfl, sT s9e hra9, fun Z2 H15 s15 hZ2 => ?_⟩
          have hZ3 : SqT K H15 Z2 (ps.dropLast.map V.ref) := by
            rw [List.map_dropLast, ← cut_last]
            exact hZ2
          have s9f := s9e.trans s15
          refine fun o4 dx5 n1 n2 _ => mk_tab n1 n2 (sT s9f hla9) hZ3 (tu9.same s9f).dropLast (right_drop R (by omega)) fun H16 s16 tab5 => ⟨rfl, eq_tab T.in_Table T.cl_Table (tab9.same (s9f.trans s16)) tab5 fun H17 s17 => ?_⟩
          have e5 : (decide (ls = ls) && decide (rs = rs.dropLast)) = false := by
            rw [decide_eq_false (fun z : rs = rs.dropLast => by
              have := congrArg List.length z
              rw [List.length_dropLast] at this
              omega), Bool.and_false]
          rw [e5]
          exact ⟨false, rfl, iteF ⟨rfl, (s15.trans s16).trans s17⟩⟩
        · exact iteF ⟨rfl, fun _ _ e => e⟩
      obtain ⟨rfl, s15⟩ := hm
      have s9g := s9e.trans s15
      have hla15 : SqT K H15 la (ls.map V.int) := sT s9g hla9
      have hra15 : SqT K H15 ra (ps.map V.ref) := sT s9g hra9
      have tu15 := tu9.same s9g
      have tab15 := tab9.same s9g
      have hoa15 := s9g _ _ eoa
      -- turned
      refine ⟨.ref la, rfl, la, _, rfl, hla15, fun u nu => ?_⟩
      have su := same_upd (o := .tup (ls.map V.int).reverse) nu
      have hu : SqT K (upd H15 u (.tup (ls.map V.int).reverse)) u (ls.reverse.map V.int) := by
        rw [List.map_reverse]
        exact SqT.of upd_same
      obtain ⟨H16, eH16⟩ : ∃ H16, H16 = upd H15 u (.tup (ls.map V.int).reverse) := ⟨_, rfl⟩
      rw [← eH16] at su hu ⊢
      -- named
      refine ⟨.ref ra, rfl, ra, rfl, ⟨_, sT su hra15⟩, fun D nD => lc_tup (K := K) (a := ra) (xs := ps.map V.ref)
        (fun i H' => ∃ qs, Same H16 H' ∧ H' D = some (.lst (qs.map V.ref)) ∧ Tups fI H' qs ((rs.map fun r => r.map (turn ls)).take i))
        ⟨[], same_upd nD, upd_same, .nil⟩ (fun i H' _ h => let ⟨_, sm, _⟩ := h; sT sm (sT su hra15)) (fun i x H' hx h => ?_) (fun H17 h => ?_)⟩
      · obtain ⟨qs, sm, eD, tq⟩ := h
        obtain ⟨r, row, rfl, hrow, er⟩ := tu15.get hx
        have hi := (List.getElem?_eq_some_iff.mp hrow).1
        have er' := sm _ _ (su _ _ er)
        have l60 := (R.2.2.2 _ _ hrow).2.1
        refine ⟨rfl, ?_⟩
        refine ⟨.ref r, rfl, r, rfl, ⟨_, SqT.of er'⟩, fun D2 nD2 => lc_tup (K := K) (a := r) (xs := row.map V.int)
          (fun j H2 => Same H' H2 ∧ H2 D2 = some (.lst (((row.take j).map (turn ls)).map V.int)))
          ⟨same_upd nD2, upd_same⟩ (fun j H2 _ h => SqT.of (h.1 _ _ er')) (fun j y H2 hy h => ?_) (fun H2 h => ?_)⟩
        · obtain ⟨s2, eD2⟩ := h
          rw [List.getElem?_map] at hy
          obtain ⟨n, hn, rfl⟩ := Option.map_eq_some_iff.mp hy
          have hj := (List.getElem?_eq_some_iff.mp hn).1
          refine ⟨rfl, ?_⟩
          refine ⟨.ref la, rfl, la, _, rfl, .inr (sT s2 (sT sm (sT su hla15))), _, 1, rfl, rfl, .int n, rfl, _, _, rfl, rfl, ?_⟩
          refine ⟨_, eD2, by rw [List.length_map, List.length_map, List.length_take]; exact small1000 (by omega), same_put s2 nD2, ?_⟩
          rw [upd_same, take_snoc hn, List.map_append, List.map_append, List.length_map]
          rfl
        · obtain ⟨s2, eD2⟩ := h
          rw [List.length_map, List.take_of_length_le (Nat.le_refl _)] at eD2
          refine ⟨D2, _, rfl, .inl ⟨SqL.of eD2, fun Y nY => ?_⟩⟩
          have sY := same_upd (o := .tup ((row.map (turn ls)).map V.int)) nY
          have eDY := sY _ _ (s2 _ _ eD)
          refine ⟨_, eDY, by rw [List.length_map, tq.length, List.length_take, List.length_map]; exact small1000 (by omega), qs ++ [Y], same_put ((sm.trans s2).trans sY) nD, by rw [upd_same, List.map_append]; rfl, ?_⟩
          rw [take_snoc (x := row.map (turn ls)) (by rw [List.getElem?_map, hrow]; rfl)]
          exact ((tq.same (s2.trans sY)).snoc upd_same).put eDY
      · obtain ⟨qs, sm, eD, tq⟩ := h
        rw [List.length_map, ezl, show rs.length = (rs.map fun r => r.map (turn ls)).length by rw [List.length_map], List.take_of_length_le (Nat.le_refl _)] at tq
        refine ⟨D, _, rfl, .inl ⟨SqL.of eD, fun N nN => ?_⟩⟩
        have sN := same_upd (o := .tup (qs.map V.ref)) nN
        have s17 := (su.trans sm).trans sN
        have hu17 := sT sN (sT sm hu)
        obtain ⟨H18, eH18⟩ : ∃ H18, H18 = upd H17 N (.tup (qs.map V.ref)) := ⟨_, rfl⟩
        have hN18 : SqT K H18 N (qs.map V.ref) := by rw [eH18]; exact SqT.of upd_same
        have tq18 := tq.same sN
        rw [← eH18] at sN s17 hu17 tq18 ⊢
        refine ⟨fun σ' H' => σ' = [some (.ref a), some (.ref t), some (.ref la), some (.int (1 + b0)), some (.ref ra), some (.ref on), some (.ref oa), some (.ref u), some (.ref N), none, none, none, none] ∧ Same H18 H', ?_, fun σ' H19 hm => ?_⟩
        · refine ⟨.ref on, rfl, .ref u, rfl, .ref N, rfl, fun o5 dx6 n1 n2 _ => mk_tab n1 n2 hu17 hN18 tq18 (right_turn R) fun H19 s19 tab6 => ⟨rfl, eq_tab T.in_Table T.cl_Table (tab15.same (s17.trans s19)) tab6 fun H20 s20 => ?_⟩⟩
          have s1820 := s19.trans s20
          have s1520 := s17.trans s1820
          refine ⟨.ref u, rfl, .ref la, rfl, My.dI ls.reverse, My.dI ls, dp_dI (sT s1820 hu17), dp_dI (sT s1520 hla15), (Shp.dI _).ok (by decide), (Shp.dI _).ok (by decide), ?_⟩
          rw [eqvI]
          refine ⟨_, rfl, ?_⟩
          by_cases c : ls.reverse = ls
          · rw [decide_eq_true c]
            refine iteT ⟨.ref N, rfl, .ref ra, rfl, dTT (rs.map fun r => r.map (turn ls)), dTT rs, dp_dTT (sT s1820 hN18) (tq18.same s1820), dp_dTT (sT s1520 hra15) (tu15.same s1520), (Shp.dTT _).ok (by decide), (Shp.dTT _).ok (by decide), ?_⟩
            rw [eqvTT]
            refine ⟨rfl, false, ?_, iteF ⟨rfl, s1820⟩⟩
            have e : V.bl (decide (ls = ls.reverse) && decide (rs = rs.map fun r => r.map (turn ls))) = V.bl (decide ((rs.map fun r => r.map (turn ls)) = rs)) := by
              rw [decide_eq_true c.symm, Bool.true_and]
              congr 1
              exact decide_eq_decide.mpr ⟨Eq.symm, Eq.symm⟩
            show V.bl (!decide _) = _
            rw [decide_eq_true e]
            rfl
          · rw [decide_eq_false c]
            refine iteF ⟨rfl, false, ?_, iteF ⟨rfl, s1820⟩⟩
            have e : V.bl (decide (ls = ls.reverse) && decide (rs = rs.map fun r => r.map (turn ls))) = V.bl false := by
              rw [decide_eq_false (fun z => c z.symm)]
              rfl
            show V.bl (!decide _) = _
            rw [decide_eq_true e]
            rfl
        obtain ⟨rfl, s19⟩ := hm
        have s1519 := s17.trans s19
        have hla19 : SqT K H19 la (ls.map V.int) := sT s1519 hla15
        have hra19 : SqT K H19 ra (ps.map V.ref) := sT s1519 hra15
        have tu19 := tu15.same s1519
        have tab19 := tab15.same s1519
        -- things that are no tables
        refine ⟨.ref la, rfl, .ref ra, rfl, by show 2 ≤ sizeLine; decide, fun t1 nt1 => ?_⟩
        have st1 := same_upd (o := .tup [V.ref la, .ref ra]) nt1
        refine ⟨.ref ra, rfl, .ref la, rfl, .ref on, rfl, by show 1 ≤ sizeLine; decide, fun t2 nt2 => ?_⟩
        have st2 := same_upd (o := .lst [V.ref on]) nt2
        refine ⟨by show 7 ≤ sizeLine; decide, fun B nB => ?_⟩
        have sB := same_upd (o := .lst [V.non, .int 0, .ref t1, .ref ra, .ref la, .str "table", .ref t2]) nB
        obtain ⟨H20, eH20⟩ : ∃ H20, H20 = upd (upd (upd H19 t1 (.tup [V.ref la, .ref ra])) t2 (.lst [V.ref on])) B (.lst [V.non, .int 0, .ref t1, .ref ra, .ref la, .str "table", .ref t2]) := ⟨_, rfl⟩
        have et1 : H20 t1 = some (.tup [V.ref la, .ref ra]) := by rw [eH20]; exact sB _ _ (st2 _ _ upd_same)
        have et2 : H20 t2 = some (.lst [V.ref on]) := by rw [eH20]; exact sB _ _ upd_same
        have eB : H20 B = some (.lst [V.non, .int 0, .ref t1, .ref ra, .ref la, .str "table", .ref t2]) := by rw [eH20]; exact upd_same
        have s20 : Same H19 H20 := by rw [eH20]; exact (st1.trans st2).trans sB
        rw [← eH20]
        have things : ∀ (i : Nat) (v : V), ([V.non, .int 0, .ref t1, .ref ra, .ref la, .str "table", .ref t2] : List V)[i]? = some v → ∀ H', Same H20 H' → ∃ n, TyX K H' v (.type n) ∧ RE8.Plain n := by
          intro i v hv H' s'
          have hm := List.mem_of_getElem? hv
          simp only [List.mem_cons, List.not_mem_nil, or_false] at hm
          rcases hm with rfl | rfl | rfl | rfl | rfl | rfl | rfl
          · exact ⟨_, .base .non, RE8.plain_non⟩
          · exact ⟨_, .base (.int _), RE8.plain_int⟩
          · exact ⟨_, tyTup (SqT.of (s' _ _ et1)), RE8.plain_tup⟩
          · exact ⟨_, tyTup (sT (s20.trans s') hra19), RE8.plain_tup⟩
          · exact ⟨_, tyTup (sT (s20.trans s') hla19), RE8.plain_tup⟩
          · exact ⟨_, .base (.str _), RE8.plain_str⟩
          · exact ⟨_, .base (.lst (s' _ _ et2)), RE8.plain_lst⟩
        refine ⟨B, rfl, ⟨_, SqL.of eB⟩, for_list (K := K) (xs := [V.non, .int 0, .ref t1, .ref ra, .ref la, .str "table", .ref t2])
          (fun i σ H' => ∃ y9, σ = [some (.ref a), some (.ref t), some (.ref la), some (.int (1 + b0)), some (.ref ra), some (.ref on), some (.ref oa), some (.ref u), some (.ref N), y9, none, none, none] ∧ Same H20 H')
          ⟨_, rfl, fun _ _ e => e⟩ (fun i σ H' _ h => ?_) (fun i x σ H' hx h => ?_) (fun σ H' h => ?_)⟩
        · obtain ⟨_, _, sm⟩ := h
          exact SqL.of (sm _ _ eB)
        · obtain ⟨y9, rfl, sm⟩ := h
          obtain ⟨n, ty, pl⟩ := things i x hx H' sm
          refine ⟨.ref on, rfl, x, rfl, eq_thing (tab19.same (s20.trans sm)) ty pl fun H21 s21 => ⟨false, rfl, iteF ?_⟩⟩
          obtain ⟨n2, ty2, pl2⟩ := things i x hx H21 (sm.trans s21)
          refine ⟨.ref on, rfl, x, rfl, ne_thing (tab19.same (s20.trans (sm.trans s21))) ty2 pl2 fun H22 s22 => ⟨true, rfl, iteF ?_⟩⟩
          exact ⟨_, rfl, (sm.trans s21).trans s22⟩
        · obtain ⟨y9, rfl, sm⟩ := h
          have sF := s20.trans sm
          have tabF := tab19.same sF
          have hlaF : SqT K H' la (ls.map V.int) := sT sF hla19
          have hraF : SqT K H' ra (ps.map V.ref) := sT sF hra19
          have tuF := tu19.same sF
          obtain ⟨dx, fa, fb, qs2, eon, hfa, hfb, tfb⟩ := tabF.ob
          have ez2 := tfb.length
          refine ⟨.ref on, rfl, on, T.c_Table, dx, _, _, rfl, eon, T.cl_Table, T.n_Table_rows, tf_rows _ _ _, fb, _, rfl, .inr hfb, fun M nM => ?_⟩
          have sM := same_upd (o := .lst (qs2.map V.ref)) nM
          refine ⟨.ref M, rfl, .inl ⟨rfl, _, SqL.of upd_same⟩, Nat.zero_le _, fun e1 ne1 => ?_⟩
          have se1 := same_upd (o := .tup []) ne1
          refine ⟨M, _, _, rfl, rfl, se1 _ _ upd_same, by rw [List.length_map, ez2]; exact small1000 (by omega), ?_⟩
          have sG := same_put (o := .lst (qs2.map V.ref ++ [V.ref e1])) (sM.trans se1) nM
          have eonG := sG _ _ eon
          have hlaG := sT sG hlaF
          have hraG := sT sG hraF
          have tuG := tuF.same sG
          have hfaG := sT sG hfa
          have hfbG := sT sG hfb
          have tfbG := tfb.same sG
          have tabG := tabF.same sG
          refine ⟨.ref on, rfl, on, T.c_Table, dx, _, _, rfl, eonG, T.cl_Table, T.n_Table_loops, tf_loops _ _ _, .ref la, rfl, My.dI ls, My.dI ls, dp_dI hfaG, dp_dI hlaG, (Shp.dI _).ok (by decide), (Shp.dI _).ok (by decide), false, ne_same (Shp.dI _), iteF ?_⟩
          refine ⟨.ref on, rfl, on, T.c_Table, dx, _, _, rfl, eonG, T.cl_Table, T.n_Table_rows, tf_rows _ _ _, .ref ra, rfl, dTT rs, dTT rs, dp_dTT hfbG tfbG, dp_dTT hraG tuG, (Shp.dTT _).ok (by decide), (Shp.dTT _).ok (by decide), false, ne_same (Shp.dTT _), iteF ?_⟩
          refine ⟨.ref on, rfl, on, T.c_Table, dx, _, _, rfl, eonG, T.cl_Table, T.n_Table_bound, tf_bound _ _ _, .int (1 + b0), rfl, rfl, false, ne_no el, iteF ?_⟩
          refine ⟨.ref on, rfl, on, T.c_Table, dx, _, _, rfl, eonG, T.cl_Table, T.n_Table_bound, tf_bound _ _ _, .int _, .ty "bool", _, _, false, rfl, .ty _, .base (.int _), kit_ty (by decide +kernel), false, rfl, iteF ?_⟩
          refine ⟨.ref on, rfl, on, T.c_Table, dx, _, _, rfl, eonG, T.cl_Table, T.n_Table_loops, tf_loops _ _ _, .ref fa, .ty "tuple", _, _, true, rfl, .ty _, tyTup hfaG, kit_ty (by decide +kernel), true, rfl, iteT ?_⟩
          refine ⟨.ref on, rfl, on, T.c_Table, dx, _, _, rfl, eonG, T.cl_Table, T.n_Table_rows, tf_rows _ _ _, .ref fb, .ty "tuple", _, _, true, rfl, .ty _, tyTup hfbG, kit_ty (by decide +kernel), true, rfl, iteT ?_⟩
          refine ⟨.ref on, rfl, on, ls, rs, rfl, tabG, R, fun L ts es H30 s30 nL eL tt pm pw => ?_⟩
          refine ⟨.ref la, rfl, .ref ra, rfl, fun o6 dx7 n1 n2 _ => mk_tab n1 n2 (sT s30 hlaG) (sT s30 hraG) (tuG.same s30) R fun H31 s31 tab7 => ⟨rfl, ?_⟩⟩
          refine ⟨o6, ls, rs, rfl, tab7, R, fun L2 ts2 es2 H32 s32 nL2 eL2 tt2 pm2 pw2 => ?_⟩
          have bd := Tb.all_bd R _ (Nat.le_refl _)
          have ees : es = es2 := sorted_uniq (pm.trans pm2.symm) (fun r hr => bd r (pm2.mem_iff.mp hr)) pw pw2
          subst ees
          refine ⟨dT es, dT es, dp_dT (s32 _ _ (s31 _ _ eL)) ((tt.same s31).same s32), dp_dT eL2 tt2, (Shp.dT _).ok (by decide), (Shp.dT _).ok (by decide), ?_⟩
          rw [eqv_same (Shp.dT _)]
          exact q _
end

/-! ### the end -/
theorem fin_mk {l : PySem.W.OpenLaw} {w : World} {K : PySem.W.Frag} {h : Heap} {mg : Str → Option Value} {fa f_law : Addr} (KX : K.In h) (G : h.Ns mainGlobals mg) (hmg : mg "law" = some (.ref fa)) {an : Option Addr} {kV dc pm cd ct : Value}
    (hT : ∃ T : Tx K mg, T.a_law = f_law ∧ T.d_law = PySem.W.fnOf "law" "law" (defArgs s_law) (defBody s_law) (defScope s_law) .none kV dc pm an cd ct) :
    ∃ fd : FuncData, (∀ (s : Shared) (v : Value), BindsTo s fd ⟨[v], []⟩ [("script", v)]) ∧ ∀ base : Heap, K.In base → base.Ns mainGlobals mg → FnOk l.prog w K mg base CX0 lawLevel fa fd ["script"] (spLaw K) := by
  obtain ⟨T, ea, ed⟩ := hT
  have e := hmg.symm.trans T.g_law
  cases e
  exact ⟨T.d_law, fun s v => by rw [ed]; exact .of_eq rfl, fun base _ _ => ok_law T⟩

theorem all_mk {w : World} {K : PySem.W.Frag} {h : Heap} {mg : Str → Option Value} (X : K.In h) (G : h.Ns mainGlobals mg)
    {f_is_integer : Addr} {od_is_integer an_is_integer : Option Addr} {sl_is_integer : Array (Option Value)} {oc_is_integer kV_is_integer dc_is_integer pm_is_integer cd_is_integer ct_is_integer : Value}
    {f_is_number : Addr} {od_is_number an_is_number : Option Addr} {sl_is_number : Array (Option Value)} {oc_is_number kV_is_number dc_is_number pm_is_number cd_is_number ct_is_number : Value}
    {f_are_numbers : Addr} {od_are_numbers an_are_numbers : Option Addr} {sl_are_numbers : Array (Option Value)} {oc_are_numbers kV_are_numbers dc_are_numbers pm_are_numbers cd_are_numbers ct_are_numbers : Value}
    {f_is_loops : Addr} {od_is_loops an_is_loops : Option Addr} {sl_is_loops : Array (Option Value)} {oc_is_loops kV_is_loops dc_is_loops pm_is_loops cd_is_loops ct_is_loops : Value}
    {f_is_row : Addr} {od_is_row an_is_row : Option Addr} {sl_is_row : Array (Option Value)} {oc_is_row kV_is_row dc_is_row pm_is_row cd_is_row ct_is_row : Value}
    {f_row_sum : Addr} {od_row_sum an_row_sum : Option Addr} {sl_row_sum : Array (Option Value)} {oc_row_sum kV_row_sum dc_row_sum pm_row_sum cd_row_sum ct_row_sum : Value}
    {f_row_entries : Addr} {od_row_entries an_row_entries : Option Addr} {sl_row_entries : Array (Option Value)} {oc_row_entries kV_row_entries dc_row_entries pm_row_entries cd_row_entries ct_row_entries : Value}
    {f_entries : Addr} {od_entries an_entries : Option Addr} {sl_entries : Array (Option Value)} {oc_entries kV_entries dc_entries pm_entries cd_entries ct_entries : Value}
    {f__law_tape : Addr} {od__law_tape an__law_tape : Option Addr} {sl__law_tape : Array (Option Value)} {oc__law_tape kV__law_tape dc__law_tape pm__law_tape cd__law_tape ct__law_tape : Value}
    {f__law_pick : Addr} {od__law_pick an__law_pick : Option Addr} {sl__law_pick : Array (Option Value)} {oc__law_pick kV__law_pick dc__law_pick pm__law_pick cd__law_pick ct__law_pick : Value}
    {f__law_loops : Addr} {od__law_loops an__law_loops : Option Addr} {sl__law_loops : Array (Option Value)} {oc__law_loops kV__law_loops dc__law_loops pm__law_loops cd__law_loops ct__law_loops : Value}
    {f__law_row : Addr} {od__law_row an__law_row : Option Addr} {sl__law_row : Array (Option Value)} {oc__law_row kV__law_row dc__law_row pm__law_row cd__law_row ct__law_row : Value}
    {f__law_rows : Addr} {od__law_rows an__law_rows : Option Addr} {sl__law_rows : Array (Option Value)} {oc__law_rows kV__law_rows dc__law_rows pm__law_rows cd__law_rows ct__law_rows : Value}
    {f__law_other_row : Addr} {od__law_other_row an__law_other_row : Option Addr} {sl__law_other_row : Array (Option Value)} {oc__law_other_row kV__law_other_row dc__law_other_row pm__law_other_row cd__law_other_row ct__law_other_row : Value}
    {f_law : Addr} {od_law an_law : Option Addr} {sl_law : Array (Option Value)} {oc_law kV_law dc_law pm_law cd_law ct_law : Value}
    {f_Table___init__ : Addr} {od_Table___init__ an_Table___init__ : Option Addr} {sl_Table___init__ : Array (Option Value)} {oc_Table___init__ kV_Table___init__ dc_Table___init__ pm_Table___init__ cd_Table___init__ ct_Table___init__ : Value}
    {f_Table___eq__ : Addr} {od_Table___eq__ an_Table___eq__ : Option Addr} {sl_Table___eq__ : Array (Option Value)} {oc_Table___eq__ kV_Table___eq__ dc_Table___eq__ pm_Table___eq__ cd_Table___eq__ ct_Table___eq__ : Value}
    {t_MOST_BOUND : Tok}
    {t_MOST_ITEMS : Tok}
    {t_MOST_LENGTH : Tok}
    {t_MOST_LOOPS : Tok}
    {c_Table : Addr}
    (a_is_integer : PySem.W.nsIn K mainGlobals "is_integer" = some (some (.ref f_is_integer))) (l_is_integer : K.lookup f_is_integer = some ⟨oc_is_integer, od_is_integer, .func (PySem.W.fnOf "is_integer" "is_integer" (defArgs s_is_integer) (defBody s_is_integer) (defScope s_is_integer) .none kV_is_integer dc_is_integer pm_is_integer an_is_integer cd_is_integer ct_is_integer), sl_is_integer⟩) (c_is_integer : PySem.W.codeIn K cd_is_integer "is_integer" = true) (k_is_integer : PySem.W.keepIn K (.ref f_is_integer) = true)
    (a_is_number : PySem.W.nsIn K mainGlobals "is_number" = some (some (.ref f_is_number))) (l_is_number : K.lookup f_is_number = some ⟨oc_is_number, od_is_number, .func (PySem.W.fnOf "is_number" "is_number" (defArgs s_is_number) (defBody s_is_number) (defScope s_is_number) .none kV_is_number dc_is_number pm_is_number an_is_number cd_is_number ct_is_number), sl_is_number⟩) (c_is_number : PySem.W.codeIn K cd_is_number "is_number" = true) (k_is_number : PySem.W.keepIn K (.ref f_is_number) = true)
    (a_are_numbers : PySem.W.nsIn K mainGlobals "are_numbers" = some (some (.ref f_are_numbers))) (l_are_numbers : K.lookup f_are_numbers = some ⟨oc_are_numbers, od_are_numbers, .func (PySem.W.fnOf "are_numbers" "are_numbers" (defArgs s_are_numbers) (defBody s_are_numbers) (defScope s_are_numbers) .none kV_are_numbers dc_are_numbers pm_are_numbers an_are_numbers cd_are_numbers ct_are_numbers), sl_are_numbers⟩) (c_are_numbers : PySem.W.codeIn K cd_are_numbers "are_numbers" = true) (k_are_numbers : PySem.W.keepIn K (.ref f_are_numbers) = true)
    (a_is_loops : PySem.W.nsIn K mainGlobals "is_loops" = some (some (.ref f_is_loops))) (l_is_loops : K.lookup f_is_loops = some ⟨oc_is_loops, od_is_loops, .func (PySem.W.fnOf "is_loops" "is_loops" (defArgs s_is_loops) (defBody s_is_loops) (defScope s_is_loops) .none kV_is_loops dc_is_loops pm_is_loops an_is_loops cd_is_loops ct_is_loops), sl_is_loops⟩) (c_is_loops : PySem.W.codeIn K cd_is_loops "is_loops" = true) (k_is_loops : PySem.W.keepIn K (.ref f_is_loops) = true)
    (a_is_row : PySem.W.nsIn K mainGlobals "is_row" = some (some (.ref f_is_row))) (l_is_row : K.lookup f_is_row = some ⟨oc_is_row, od_is_row, .func (PySem.W.fnOf "is_row" "is_row" (defArgs s_is_row) (defBody s_is_row) (defScope s_is_row) .none kV_is_row dc_is_row pm_is_row an_is_row cd_is_row ct_is_row), sl_is_row⟩) (c_is_row : PySem.W.codeIn K cd_is_row "is_row" = true) (k_is_row : PySem.W.keepIn K (.ref f_is_row) = true)
    (a_row_sum : PySem.W.nsIn K mainGlobals "row_sum" = some (some (.ref f_row_sum))) (l_row_sum : K.lookup f_row_sum = some ⟨oc_row_sum, od_row_sum, .func (PySem.W.fnOf "row_sum" "row_sum" (defArgs s_row_sum) (defBody s_row_sum) (defScope s_row_sum) .none kV_row_sum dc_row_sum pm_row_sum an_row_sum cd_row_sum ct_row_sum), sl_row_sum⟩) (c_row_sum : PySem.W.codeIn K cd_row_sum "row_sum" = true) (k_row_sum : PySem.W.keepIn K (.ref f_row_sum) = true)
    (a_row_entries : PySem.W.nsIn K mainGlobals "row_entries" = some (some (.ref f_row_entries))) (l_row_entries : K.lookup f_row_entries = some ⟨oc_row_entries, od_row_entries, .func (PySem.W.fnOf "row_entries" "row_entries" (defArgs s_row_entries) (defBody s_row_entries) (defScope s_row_entries) .none kV_row_entries dc_row_entries pm_row_entries an_row_entries cd_row_entries ct_row_entries), sl_row_entries⟩) (c_row_entries : PySem.W.codeIn K cd_row_entries "row_entries" = true) (k_row_entries : PySem.W.keepIn K (.ref f_row_entries) = true)
    (a_entries : PySem.W.nsIn K mainGlobals "entries" = some (some (.ref f_entries))) (l_entries : K.lookup f_entries = some ⟨oc_entries, od_entries, .func (PySem.W.fnOf "entries" "entries" (defArgs s_entries) (defBody s_entries) (defScope s_entries) .none kV_entries dc_entries pm_entries an_entries cd_entries ct_entries), sl_entries⟩) (c_entries : PySem.W.codeIn K cd_entries "entries" = true) (k_entries : PySem.W.keepIn K (.ref f_entries) = true)
    (a__law_tape : PySem.W.nsIn K mainGlobals "_law_tape" = some (some (.ref f__law_tape))) (l__law_tape : K.lookup f__law_tape = some ⟨oc__law_tape, od__law_tape, .func (PySem.W.fnOf "_law_tape" "_law_tape" (defArgs s__law_tape) (defBody s__law_tape) (defScope s__law_tape) .none kV__law_tape dc__law_tape pm__law_tape an__law_tape cd__law_tape ct__law_tape), sl__law_tape⟩) (c__law_tape : PySem.W.codeIn K cd__law_tape "_law_tape" = true) (k__law_tape : PySem.W.keepIn K (.ref f__law_tape) = true)
    (a__law_pick : PySem.W.nsIn K mainGlobals "_law_pick" = some (some (.ref f__law_pick))) (l__law_pick : K.lookup f__law_pick = some ⟨oc__law_pick, od__law_pick, .func (PySem.W.fnOf "_law_pick" "_law_pick" (defArgs s__law_pick) (defBody s__law_pick) (defScope s__law_pick) .none kV__law_pick dc__law_pick pm__law_pick an__law_pick cd__law_pick ct__law_pick), sl__law_pick⟩) (c__law_pick : PySem.W.codeIn K cd__law_pick "_law_pick" = true) (k__law_pick : PySem.W.keepIn K (.ref f__law_pick) = true)
    (a__law_loops : PySem.W.nsIn K mainGlobals "_law_loops" = some (some (.ref f__law_loops))) (l__law_loops : K.lookup f__law_loops = some ⟨oc__law_loops, od__law_loops, .func (PySem.W.fnOf "_law_loops" "_law_loops" (defArgs s__law_loops) (defBody s__law_loops) (defScope s__law_loops) .none kV__law_loops dc__law_loops pm__law_loops an__law_loops cd__law_loops ct__law_loops), sl__law_loops⟩) (c__law_loops : PySem.W.codeIn K cd__law_loops "_law_loops" = true) (k__law_loops : PySem.W.keepIn K (.ref f__law_loops) = true)
    (a__law_row : PySem.W.nsIn K mainGlobals "_law_row" = some (some (.ref f__law_row))) (l__law_row : K.lookup f__law_row = some ⟨oc__law_row, od__law_row, .func (PySem.W.fnOf "_law_row" "_law_row" (defArgs s__law_row) (defBody s__law_row) (defScope s__law_row) .none kV__law_row dc__law_row pm__law_row an__law_row cd__law_row ct__law_row), sl__law_row⟩) (c__law_row : PySem.W.codeIn K cd__law_row "_law_row" = true) (k__law_row : PySem.W.keepIn K (.ref f__law_row) = true)
    (a__law_rows : PySem.W.nsIn K mainGlobals "_law_rows" = some (some (.ref f__law_rows))) (l__law_rows : K.lookup f__law_rows = some ⟨oc__law_rows, od__law_rows, .func (PySem.W.fnOf "_law_rows" "_law_rows" (defArgs s__law_rows) (defBody s__law_rows) (defScope s__law_rows) .none kV__law_rows dc__law_rows pm__law_rows an__law_rows cd__law_rows ct__law_rows), sl__law_rows⟩) (c__law_rows : PySem.W.codeIn K cd__law_rows "_law_rows" = true) (k__law_rows : PySem.W.keepIn K (.ref f__law_rows) = true)
    (a__law_other_row : PySem.W.nsIn K mainGlobals "_law_other_row" = some (some (.ref f__law_other_row))) (l__law_other_row : K.lookup f__law_other_row = some ⟨oc__law_other_row, od__law_other_row, .func (PySem.W.fnOf "_law_other_row" "_law_other_row" (defArgs s__law_other_row) (defBody s__law_other_row) (defScope s__law_other_row) .none kV__law_other_row dc__law_other_row pm__law_other_row an__law_other_row cd__law_other_row ct__law_other_row), sl__law_other_row⟩) (c__law_other_row : PySem.W.codeIn K cd__law_other_row "_law_other_row" = true) (k__law_other_row : PySem.W.keepIn K (.ref f__law_other_row) = true)
    (a_law : PySem.W.nsIn K mainGlobals "law" = some (some (.ref f_law))) (l_law : K.lookup f_law = some ⟨oc_law, od_law, .func (PySem.W.fnOf "law" "law" (defArgs s_law) (defBody s_law) (defScope s_law) .none kV_law dc_law pm_law an_law cd_law ct_law), sl_law⟩) (c_law : PySem.W.codeIn K cd_law "law" = true) (k_law : PySem.W.keepIn K (.ref f_law) = true)
    (a_Table___init__ : PySem.W.findIn K (.ref c_Table) "__init__" = some (some (.ref f_Table___init__))) (i_Table___init__ : PySem.W.isFn K (.ref f_Table___init__) = true) (l_Table___init__ : K.lookup f_Table___init__ = some ⟨oc_Table___init__, od_Table___init__, .func (PySem.W.fnOf "__init__" "Table.__init__" (defArgs s_Table___init__) (defBody s_Table___init__) (defScope s_Table___init__) .none kV_Table___init__ dc_Table___init__ pm_Table___init__ an_Table___init__ cd_Table___init__ ct_Table___init__), sl_Table___init__⟩) (c_Table___init__ : PySem.W.codeIn K cd_Table___init__ "Table.__init__" = true) (k_Table___init__ : PySem.W.keepIn K (.ref f_Table___init__) = true)
    (a_Table___eq__ : PySem.W.findIn K (.ref c_Table) "__eq__" = some (some (.ref f_Table___eq__))) (i_Table___eq__ : PySem.W.isFn K (.ref f_Table___eq__) = true) (l_Table___eq__ : K.lookup f_Table___eq__ = some ⟨oc_Table___eq__, od_Table___eq__, .func (PySem.W.fnOf "__eq__" "Table.__eq__" (defArgs s_Table___eq__) (defBody s_Table___eq__) (defScope s_Table___eq__) .none kV_Table___eq__ dc_Table___eq__ pm_Table___eq__ an_Table___eq__ cd_Table___eq__ ct_Table___eq__), sl_Table___eq__⟩) (c_Table___eq__ : PySem.W.codeIn K cd_Table___eq__ "Table.__eq__" = true) (k_Table___eq__ : PySem.W.keepIn K (.ref f_Table___eq__) = true)
    (z_all : PySem.W.nsIn K mainGlobals "all" = some none)
    (z_bool : PySem.W.nsIn K mainGlobals "bool" = some none)
    (z_enumerate : PySem.W.nsIn K mainGlobals "enumerate" = some none)
    (z_int : PySem.W.nsIn K mainGlobals "int" = some none)
    (z_isinstance : PySem.W.nsIn K mainGlobals "isinstance" = some none)
    (z_len : PySem.W.nsIn K mainGlobals "len" = some none)
    (z_list : PySem.W.nsIn K mainGlobals "list" = some none)
    (z_range : PySem.W.nsIn K mainGlobals "range" = some none)
    (z_sorted : PySem.W.nsIn K mainGlobals "sorted" = some none)
    (z_sum : PySem.W.nsIn K mainGlobals "sum" = some none)
    (z_tuple : PySem.W.nsIn K mainGlobals "tuple" = some none)
    (y_MOST_BOUND : PySem.W.nsIn K mainGlobals "MOST_BOUND" = some (some (.int 60 t_MOST_BOUND)))
    (y_MOST_ITEMS : PySem.W.nsIn K mainGlobals "MOST_ITEMS" = some (some (.int 60 t_MOST_ITEMS)))
    (y_MOST_LENGTH : PySem.W.nsIn K mainGlobals "MOST_LENGTH" = some (some (.int 40 t_MOST_LENGTH)))
    (y_MOST_LOOPS : PySem.W.nsIn K mainGlobals "MOST_LOOPS" = some (some (.int 8 t_MOST_LOOPS)))
    (y_Table : PySem.W.nsIn K mainGlobals "Table" = some (some (.ref c_Table)))
    (pg_Table : PySem.W.plainGet K c_Table Str.empty = true) (hd_Table : PySem.W.hasDictIn K c_Table = true) (po_Table : PySem.W.plainOver K c_Table = true) (sa_Table : PySem.W.findIn K (.ref c_Table) "__setattr__" = some (some (.builtin "object.__setattr__"))) (mk_Table : PySem.W.makesIn K c_Table = true) (kc_Table : PySem.W.keepIn K (.ref c_Table) = true)
    (n_Table_loops : PySem.W.findIn K (.ref c_Table) "loops" = some none)
    (n_Table_rows : PySem.W.findIn K (.ref c_Table) "rows" = some none)
    (n_Table_bound : PySem.W.findIn K (.ref c_Table) "bound" = some none)
    (wa_Table : PySem.W.findIn K (.ref c_Table) "__class__" = some (some (.builtin "object.__class__"))) (wn_Table : PySem.W.specialIn K (.builtin "object.__class__") "__get__" = some (some (.builtin "getset_descriptor.__get__"))) (wt_Table : PySem.W.takesIn K (.builtin "object.__class__") = some true) (wm_Table : PySem.W.mroIn K c_Table (.type "object") = some true) (we_Table : PySem.W.findIn K (.ref c_Table) "__ne__" = some (some (.builtin "object.__ne__"))) (wi_Table : PySem.W.isClsIn K c_Table = true) (wy_Table : PySem.W.typeIn K (.ref c_Table) = some (.type "type"))
    : ∃ T : Tx K mg, T.a_law = f_law ∧ T.d_law = PySem.W.fnOf "law" "law" (defArgs s_law) (defBody s_law) (defScope s_law) .none kV_law dc_law pm_law an_law cd_law ct_law :=
  ⟨{ a_is_integer := f_is_integer, d_is_integer := _, F_is_integer := fun_mk (st := s_is_integer) l_is_integer c_is_integer k_is_integer, b_is_integer := (fun_mk (st := s_is_integer) l_is_integer c_is_integer k_is_integer).binds (ps := ["thing"]) (fun _ _ _ _ _ _ us hl => match us, hl with | [_], _ => rfl), g_is_integer := PySem.W.mg_of X G a_is_integer,
     a_is_number := f_is_number, d_is_number := _, F_is_number := fun_mk (st := s_is_number) l_is_number c_is_number k_is_number, b_is_number := (fun_mk (st := s_is_number) l_is_number c_is_number k_is_number).binds (ps := ["thing", "least", "most"]) (fun _ _ _ _ _ _ us hl => match us, hl with | [_, _, _], _ => rfl), g_is_number := PySem.W.mg_of X G a_is_number,
     a_are_numbers := f_are_numbers, d_are_numbers := _, F_are_numbers := fun_mk (st := s_are_numbers) l_are_numbers c_are_numbers k_are_numbers, b_are_numbers := (fun_mk (st := s_are_numbers) l_are_numbers c_are_numbers k_are_numbers).binds (ps := ["things", "least", "most"]) (fun _ _ _ _ _ _ us hl => match us, hl with | [_, _, _], _ => rfl), g_are_numbers := PySem.W.mg_of X G a_are_numbers,
     a_is_loops := f_is_loops, d_is_loops := _, F_is_loops := fun_mk (st := s_is_loops) l_is_loops c_is_loops k_is_loops, b_is_loops := (fun_mk (st := s_is_loops) l_is_loops c_is_loops k_is_loops).binds (ps := ["thing"]) (fun _ _ _ _ _ _ us hl => match us, hl with | [_], _ => rfl), g_is_loops := PySem.W.mg_of X G a_is_loops,
     a_is_row := f_is_row, d_is_row := _, F_is_row := fun_mk (st := s_is_row) l_is_row c_is_row k_is_row, b_is_row := (fun_mk (st := s_is_row) l_is_row c_is_row k_is_row).binds (ps := ["loops", "thing"]) (fun _ _ _ _ _ _ us hl => match us, hl with | [_, _], _ => rfl), g_is_row := PySem.W.mg_of X G a_is_row,
     a_row_sum := f_row_sum, d_row_sum := _, F_row_sum := fun_mk (st := s_row_sum) l_row_sum c_row_sum k_row_sum, b_row_sum := (fun_mk (st := s_row_sum) l_row_sum c_row_sum k_row_sum).binds (ps := ["loops", "row"]) (fun _ _ _ _ _ _ us hl => match us, hl with | [_, _], _ => rfl), g_row_sum := PySem.W.mg_of X G a_row_sum,
     a_row_entries := f_row_entries, d_row_entries := _, F_row_entries := fun_mk (st := s_row_entries) l_row_entries c_row_entries k_row_entries, b_row_entries := (fun_mk (st := s_row_entries) l_row_entries c_row_entries k_row_entries).binds (ps := ["loops", "row"]) (fun _ _ _ _ _ _ us hl => match us, hl with | [_, _], _ => rfl), g_row_entries := PySem.W.mg_of X G a_row_entries,
     a_entries := f_entries, d_entries := _, F_entries := fun_mk (st := s_entries) l_entries c_entries k_entries, b_entries := (fun_mk (st := s_entries) l_entries c_entries k_entries).binds (ps := ["table"]) (fun _ _ _ _ _ _ us hl => match us, hl with | [_], _ => rfl), g_entries := PySem.W.mg_of X G a_entries,
     a__law_tape := f__law_tape, d__law_tape := _, F__law_tape := fun_mk (st := s__law_tape) l__law_tape c__law_tape k__law_tape, b__law_tape := (fun_mk (st := s__law_tape) l__law_tape c__law_tape k__law_tape).binds (ps := ["script"]) (fun _ _ _ _ _ _ us hl => match us, hl with | [_], _ => rfl), g__law_tape := PySem.W.mg_of X G a__law_tape,
     a__law_pick := f__law_pick, d__law_pick := _, F__law_pick := fun_mk (st := s__law_pick) l__law_pick c__law_pick k__law_pick, b__law_pick := (fun_mk (st := s__law_pick) l__law_pick c__law_pick k__law_pick).binds (ps := ["tape", "size"]) (fun _ _ _ _ _ _ us hl => match us, hl with | [_, _], _ => rfl), g__law_pick := PySem.W.mg_of X G a__law_pick,
     a__law_loops := f__law_loops, d__law_loops := _, F__law_loops := fun_mk (st := s__law_loops) l__law_loops c__law_loops k__law_loops, b__law_loops := (fun_mk (st := s__law_loops) l__law_loops c__law_loops k__law_loops).binds (ps := ["tape", "most", "longest"]) (fun _ _ _ _ _ _ us hl => match us, hl with | [_, _, _], _ => rfl), g__law_loops := PySem.W.mg_of X G a__law_loops,
     a__law_row := f__law_row, d__law_row := _, F__law_row := fun_mk (st := s__law_row) l__law_row c__law_row k__law_row, b__law_row := (fun_mk (st := s__law_row) l__law_row c__law_row k__law_row).binds (ps := ["tape", "loops", "wait"]) (fun _ _ _ _ _ _ us hl => match us, hl with | [_, _, _], _ => rfl), g__law_row := PySem.W.mg_of X G a__law_row,
     a__law_rows := f__law_rows, d__law_rows := _, F__law_rows := fun_mk (st := s__law_rows) l__law_rows c__law_rows k__law_rows, b__law_rows := (fun_mk (st := s__law_rows) l__law_rows c__law_rows k__law_rows).binds (ps := ["tape", "loops", "bound"]) (fun _ _ _ _ _ _ us hl => match us, hl with | [_, _, _], _ => rfl), g__law_rows := PySem.W.mg_of X G a__law_rows,
     a__law_other_row := f__law_other_row, d__law_other_row := _, F__law_other_row := fun_mk (st := s__law_other_row) l__law_other_row c__law_other_row k__law_other_row, b__law_other_row := (fun_mk (st := s__law_other_row) l__law_other_row c__law_other_row k__law_other_row).binds (ps := ["tape", "loops", "rows"]) (fun _ _ _ _ _ _ us hl => match us, hl with | [_, _, _], _ => rfl), g__law_other_row := PySem.W.mg_of X G a__law_other_row,
     a_law := f_law, d_law := _, F_law := fun_mk (st := s_law) l_law c_law k_law, b_law := (fun_mk (st := s_law) l_law c_law k_law).binds (ps := ["script"]) (fun _ _ _ _ _ _ us hl => match us, hl with | [_], _ => rfl), g_law := PySem.W.mg_of X G a_law,
     m_all := PySem.W.mg_none_of X G z_all,
     m_bool := PySem.W.mg_none_of X G z_bool,
     m_enumerate := PySem.W.mg_none_of X G z_enumerate,
     m_int := PySem.W.mg_none_of X G z_int,
     m_isinstance := PySem.W.mg_none_of X G z_isinstance,
     m_len := PySem.W.mg_none_of X G z_len,
     m_list := PySem.W.mg_none_of X G z_list,
     m_range := PySem.W.mg_none_of X G z_range,
     m_sorted := PySem.W.mg_none_of X G z_sorted,
     m_sum := PySem.W.mg_none_of X G z_sum,
     m_tuple := PySem.W.mg_none_of X G z_tuple,
     t_MOST_BOUND := t_MOST_BOUND, g_MOST_BOUND := PySem.W.mg_of X G y_MOST_BOUND,
     t_MOST_ITEMS := t_MOST_ITEMS, g_MOST_ITEMS := PySem.W.mg_of X G y_MOST_ITEMS,
     t_MOST_LENGTH := t_MOST_LENGTH, g_MOST_LENGTH := PySem.W.mg_of X G y_MOST_LENGTH,
     t_MOST_LOOPS := t_MOST_LOOPS, g_MOST_LOOPS := PySem.W.mg_of X G y_MOST_LOOPS,
     c_Table := c_Table, g_Table := PySem.W.mg_of X G y_Table,
     a_Table___init__ := f_Table___init__, d_Table___init__ := _, F_Table___init__ := fun_mk (st := s_Table___init__) l_Table___init__ c_Table___init__ k_Table___init__, b_Table___init__ := (fun_mk (st := s_Table___init__) l_Table___init__ c_Table___init__ k_Table___init__).binds (ps := ["self", "loops", "rows"]) (fun _ _ _ _ _ _ us hl => match us, hl with | [_, _, _], _ => rfl),
     mk_Table := ⟨mk_Table, a_Table___init__, i_Table___init__, kc_Table⟩,
     a_Table___eq__ := f_Table___eq__, d_Table___eq__ := _, F_Table___eq__ := fun_mk (st := s_Table___eq__) l_Table___eq__ c_Table___eq__ k_Table___eq__, b_Table___eq__ := (fun_mk (st := s_Table___eq__) l_Table___eq__ c_Table___eq__ k_Table___eq__).binds (ps := ["self", "other"]) (fun _ _ _ _ _ _ us hl => match us, hl with | [_, _], _ => rfl),
     me_Table___eq__ := ⟨a_Table___eq__, i_Table___eq__, k_Table___eq__⟩,
     cl_Table := ⟨pg_Table, hd_Table, po_Table, sa_Table⟩,
     n_Table_loops := n_Table_loops,
     n_Table_rows := n_Table_rows,
     n_Table_bound := n_Table_bound,
     in_Table := ⟨wa_Table, wn_Table, wt_Table, wm_Table, we_Table, wi_Table, wy_Table⟩ }, rfl, rfl⟩
end My
open PySem PySem.W PyProof.Rows
set_option maxHeartbeats 0 in
theorem PySem.Challenge.cw_loopstore_k07_tables_are_compared_holds : PySem.Challenge.rw_loopstore_k07_tables_are_compared.Holds := by
  w_on; o_law; k_head; (case hw => w_witness2)
  k_fill
  refine L2.walk_of (l := PySem.Challenge.rw_loopstore_k07_tables_are_compared) (n := 63) (k := My.lawLevel) (x := "script") (CX := fun _ => L2.CX0) (sp := fun w => My.spLaw _) rfl (by decide) rfl ⟨rfl, by decide, by decide⟩ (fun w h Y => PySem.W.kIn_of Y) ?F (fun _ _ a ns hl _ hS => ⟨a, ns, rfl, hS, hl, fun _ => rfl⟩) (fun _ _ _ _ _ h => h)
  case F =>
    intro w mg fa h KX G hmg
    refine' My.fin_mk KX G hmg (My.all_mk (w := w) KX G ?a_is_integer ?l_is_integer ?c_is_integer ?k_is_integer ?a_is_number ?l_is_number ?c_is_number ?k_is_number ?a_are_numbers ?l_are_numbers ?c_are_numbers ?k_are_numbers ?a_is_loops ?l_is_loops ?c_is_loops ?k_is_loops ?a_is_row ?l_is_row ?c_is_row ?k_is_row ?a_row_sum ?l_row_sum ?c_row_sum ?k_row_sum ?a_row_entries ?l_row_entries ?c_row_entries ?k_row_entries ?a_entries ?l_entries ?c_entries ?k_entries ?a__law_tape ?l__law_tape ?c__law_tape ?k__law_tape ?a__law_pick ?l__law_pick ?c__law_pick ?k__law_pick ?a__law_loops ?l__law_loops ?c__law_loops ?k__law_loops ?a__law_row ?l__law_row ?c__law_row ?k__law_row ?a__law_rows ?l__law_rows ?c__law_rows ?k__law_rows ?a__law_other_row ?l__law_other_row ?c__law_other_row ?k__law_other_row ?a_law ?l_law ?c_law ?k_law ?a_Table___init__ ?i_Table___init__ ?l_Table___init__ ?c_Table___init__ ?k_Table___init__ ?a_Table___eq__ ?i_Table___eq__ ?l_Table___eq__ ?c_Table___eq__ ?k_Table___eq__ ?z_all ?z_bool ?z_enumerate ?z_int ?z_isinstance ?z_len ?z_list ?z_range ?z_sorted ?z_sum ?z_tuple ?y_MOST_BOUND ?y_MOST_ITEMS ?y_MOST_LENGTH ?y_MOST_LOOPS ?y_Table ?pg_Table ?hd_Table ?po_Table ?sa_Table ?mk_Table ?kc_Table ?n_Table_loops ?n_Table_rows ?n_Table_bound ?wa_Table ?wn_Table ?wt_Table ?wm_Table ?we_Table ?wi_Table ?wy_Table)
    (case y_Table => k_is); (case a_is_integer => k_is); (case l_is_integer => k_is); (case c_is_integer => k_is); (case k_is_integer => k_is); (case a_is_number => k_is); (case l_is_number => k_is); (case c_is_number => k_is); (case k_is_number => k_is); (case a_are_numbers => k_is); (case l_are_numbers => k_is); (case c_are_numbers => k_is); (case k_are_numbers => k_is); (case a_is_loops => k_is); (case l_is_loops => k_is); (case c_is_loops => k_is); (case k_is_loops => k_is); (case a_is_row => k_is); (case l_is_row => k_is); (case c_is_row => k_is); (case k_is_row => k_is); (case a_row_sum => k_is); (case l_row_sum => k_is); (case c_row_sum => k_is); (case k_row_sum => k_is); (case a_row_entries => k_is); (case l_row_entries => k_is); (case c_row_entries => k_is); (case k_row_entries => k_is); (case a_entries => k_is); (case l_entries => k_is); (case c_entries => k_is); (case k_entries => k_is); (case a__law_tape => k_is); (case l__law_tape => k_is); (case c__law_tape => k_is); (case k__law_tape => k_is); (case a__law_pick => k_is); (case l__law_pick => k_is); (case c__law_pick => k_is); (case k__law_pick => k_is); (case a__law_loops => k_is); (case l__law_loops => k_is); (case c__law_loops => k_is); (case k__law_loops => k_is); (case a__law_row => k_is); (case l__law_row => k_is); (case c__law_row => k_is); (case k__law_row => k_is); (case a__law_rows => k_is); (case l__law_rows => k_is); (case c__law_rows => k_is); (case k__law_rows => k_is); (case a__law_other_row => k_is); (case l__law_other_row => k_is); (case c__law_other_row => k_is); (case k__law_other_row => k_is); (case a_law => k_is); (case l_law => k_is); (case c_law => k_is); (case k_law => k_is); (case a_Table___init__ => k_is); (case i_Table___init__ => k_is); (case l_Table___init__ => k_is); (case c_Table___init__ => k_is); (case k_Table___init__ => k_is); (case a_Table___eq__ => k_is); (case i_Table___eq__ => k_is); (case l_Table___eq__ => k_is); (case c_Table___eq__ => k_is); (case k_Table___eq__ => k_is); (case z_all => k_is); (case z_bool => k_is); (case z_enumerate => k_is); (case z_int => k_is); (case z_isinstance => k_is); (case z_len => k_is); (case z_list => k_is); (case z_range => k_is); (case z_sorted => k_is); (case z_sum => k_is); (case z_tuple => k_is); (case y_MOST_BOUND => k_is); (case y_MOST_ITEMS => k_is); (case y_MOST_LENGTH => k_is); (case y_MOST_LOOPS => k_is); (case pg_Table => k_is); (case hd_Table => k_is); (case po_Table => k_is); (case sa_Table => k_is); (case mk_Table => k_is); (case kc_Table => k_is); (case n_Table_loops => k_is); (case n_Table_rows => k_is); (case n_Table_bound => k_is); (case wa_Table => k_is); (case wn_Table => k_is); (case wt_Table => k_is); (case wm_Table => k_is); (case we_Table => k_is); (case wi_Table => k_is); (case wy_Table => k_is)

